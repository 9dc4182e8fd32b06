/- Contracts of the document's small functions of layer 9. -/
import Derived.Test.YtfnndnceaddhgaaVPrim
namespace Go.Proofs.Ytfnndnceaddhgaa
open Go.RowKit

theorem sum64 (a b : Nat) : IntKind.u64.wrap ((a : Int) + (b : Int)) = (((a + b) % V.top : Nat) : Int) := wrapU (a + b)

theorem rtimes_any (a b : Nat) (ha : a < 18446744073709551616) (hb : b < 18446744073709551616) (w : World) :
    Calls Try.prog 17 #[.int .u64 (a : Int), .int .u64 (b : Int)] w fun e w' => e = .returned (.int .u64 (a * b % V.top : Nat)) ∧ w' = w := by
  go_enter Try.func17, Try.ntmps17
  go_wp2
  go_loop [0, 1, 5, 6] (fun a' b' p i => ∃ k A B O : Nat, k ≤ 64 ∧ i = .int .i64 k ∧ a' = .int .u64 A ∧ b' = .int .u64 B ∧ p = .int .u64 O ∧ Hid (A = a * 2 ^ k % V.top ∧ B = b / 2 ^ k ∧ O = a * (b % 2 ^ k) % V.top)) (fun _ _ _ i => 64 - (intOf i).toNat)
  case atStart => exact ⟨0, a, b, 0, by omega, rfl, rfl, rfl, rfl, by rw [Nat.pow_zero, Nat.mul_one]; exact (Nat.mod_eq_of_lt ha).symm, by simp, by simp [Nat.mod_one]⟩
  case round =>
    obtain ⟨k, A, B, O, hk, rfl, rfl, rfl, rfl, HR⟩ := hrel
    obtain ⟨eA, eB, eO⟩ := HR.out
    have hA : A < 18446744073709551616 := by rw [eA]; exact V.mod_lt _
    have hO : O < 18446744073709551616 := by rw [eO]; exact V.mod_lt _
    have hB : B < 18446744073709551616 := by rw [eB]; exact V.div_lt _ _ hb
    have HA2 := hide (sum64 A A)
    have HO2 := hide (sum64 O A)
    have HB2 := hide (show ((B : Int) / 2) = ((B / 2 : Nat) : Int) by omega)
    have HN := hide (show (A + A) % V.top = a * 2 ^ (k + 1) % V.top by rw [eA, ← Nat.add_mod, Nat.pow_succ, ← Nat.mul_assoc, Nat.mul_two])
    have HNB := hide (show B / 2 = b / 2 ^ (k + 1) by rw [eB, Nat.div_div_eq_div_mul, Nat.pow_succ])
    have HO1 := hide (show B % 2 = 1 → (O + A) % V.top = a * (b % 2 ^ (k + 1)) % V.top by
      intro h1; rw [V.times_step, ← eB, h1, Nat.mul_one, eO, eA, ← Nat.add_mod])
    have HO0 := hide (show B % 2 = 0 → O = a * (b % 2 ^ (k + 1)) % V.top by
      intro h1; rw [V.times_step, ← eB, h1, Nat.mul_zero, Nat.add_zero]; exact eO)
    clear eA eB eO
    by_cases hlt : k < 64
    · by_cases h : B % 2 = 1
      · go_wp2
        exact ⟨⟨k + 1, (A + A) % V.top, B / 2, (O + A) % V.top, by omega, by go_num, by rw [HA2.out], by go_num, by rw [HO2.out], HN.out, HNB.out, HO1.out h⟩, by simp [intOf]; omega⟩
      · go_wp2
        exact ⟨⟨k + 1, (A + A) % V.top, B / 2, O, by omega, by go_num, by rw [HA2.out], by go_num, rfl, HN.out, HNB.out, HO0.out (by omega)⟩, by simp [intOf]; omega⟩
    · go_wp2
      go_ret
      obtain rfl : k = 64 := by omega
      obtain ⟨_, _, eO⟩ := HR.out
      rw [show b % 2 ^ 64 = b from Nat.mod_eq_of_lt hb] at eO
      exact ⟨ret_int (by rw [eO]; rfl), rfl⟩

theorem rfold_any (z n : Nat) (hz : z < 18446744073709551616) (hn : n < 64) (w : World) :
    Calls Try.prog 18 #[.int .u64 (z : Int), .int .i64 (n : Int)] w fun e w' => e = .returned (.int .u64 (V.fold z n : Nat)) ∧ w' = w := by
  have HF := hide (fold64 z n (2 ^ n) rfl hz)
  go_enter Try.func18, Try.ntmps18
  go_wp2
  go_ret
  refine ⟨ret_int ?_, rfl⟩
  have := HF.out
  rw [Int.natCast_pow] at this
  exact this

theorem rmix_any (l x : Nat) (hx : x < 18446744073709551616) (w : World) :
    Calls Try.prog 11 #[.int .u64 (l : Int), .int .u64 (x : Int)] w fun e w' => e = .returned (.int .u64 (V.mix l x : Nat)) ∧ w' = w := by
  have HM := hide (show V.fold (V.fold (V.fold (((l + V.c3) % V.top) ^^^ x) 30 * V.c1 % V.top) 27 * V.c2 % V.top) 31 = V.mix l x from rfl)
  have e1 := xor64 _ _ (V.mod_lt (l + V.c3)) hx
  have e0 := add64 l
  have hz : ((l + V.c3) % V.top) ^^^ x < 18446744073709551616 := V.xor_lt _ _ (V.mod_lt (l + V.c3)) hx
  rw [← e0] at e1
  clear e0
  generalize ((l + V.c3) % V.top) ^^^ x = z at *
  have hF1 := V.fold_lt z 30 hz
  have hF2 := V.fold_lt _ 27 (V.mod_lt (V.fold z 30 * V.c1))
  have h1 := V.mod_lt (V.fold z 30 * V.c1)
  have h2 := V.mod_lt (V.fold (V.fold z 30 * V.c1 % V.top) 27 * V.c2)
  have f1 := fun w => rfold_any z 30 hz (by decide) w
  have t1 := fun w => rtimes_any (V.fold z 30) V.c1 hF1 (by decide) w
  have f2 := fun w => rfold_any (V.fold z 30 * V.c1 % V.top) 27 h1 (by decide) w
  have t2 := fun w => rtimes_any (V.fold (V.fold z 30 * V.c1 % V.top) 27) V.c2 hF2 (by decide) w
  have f3 := fun w => rfold_any (V.fold (V.fold z 30 * V.c1 % V.top) 27 * V.c2 % V.top) 31 h2 (by decide) w
  rw [HM.out] at f3
  generalize V.fold z 30 = z1 at *
  generalize z1 * V.c1 % V.top = z2 at *
  generalize V.fold z2 27 = z3 at *
  generalize z3 * V.c2 % V.top = z4 at *
  have F1 := hide f1
  have F2 := hide f2
  have F3 := hide f3
  have T1 := hide t1
  have T2 := hide t2
  clear f1 f2 f3 t1 t2 HM
  go_enter Try.func11, Try.ntmps11
  go_wp2_with fail
  go_at_call 18
  refine (F1.out _).mono ?_
  rintro e w1 ⟨rfl, rfl⟩
  go_wp2_with fail
  go_at_call 17
  refine (T1.out _).mono ?_
  rintro e w1 ⟨rfl, rfl⟩
  go_wp2_with fail
  go_at_call 18
  refine (F2.out _).mono ?_
  rintro e w1 ⟨rfl, rfl⟩
  go_wp2_with fail
  go_at_call 17
  refine (T2.out _).mono ?_
  rintro e w1 ⟨rfl, rfl⟩
  go_wp2_with fail
  go_at_call 18
  refine (F3.out _).mono ?_
  rintro e w1 ⟨rfl, rfl⟩
  go_wp2_with fail
  go_ret
  exact ⟨rfl, rfl⟩

theorem within_any (t a b : Int) (w : World) :
    Calls Try.prog 27 #[.int .i64 t, .int .i64 a, .int .i64 b] w fun e w' => e = .returned (.bool (decide (a ≤ t ∧ t ≤ b))) ∧ w' = w := by
  generalize hd : decide (a ≤ t ∧ t ≤ b) = d
  have HD := hide hd
  clear hd
  by_cases h0 : a ≤ t
  · by_cases h1 : t ≤ b
    · obtain rfl : d = true := by rw [← HD.out]; simp [h0, h1]
      go_enter Try.func27, Try.ntmps27
      go_wp2
      go_ret
      exact ⟨rfl, rfl⟩
    · obtain rfl : d = false := by rw [← HD.out]; simp [h1]
      go_enter Try.func27, Try.ntmps27
      go_wp2
      go_ret
      exact ⟨rfl, rfl⟩
  · obtain rfl : d = false := by rw [← HD.out]; simp [h0]
    go_enter Try.func27, Try.ntmps27
    go_wp2
    go_ret
    exact ⟨rfl, rfl⟩

theorem rdelay_bad (b m k : Int) (h : ¬ (0 ≤ b ∧ b ≤ 1099511627776 ∧ 0 ≤ m ∧ m ≤ 1099511627776 ∧ 1 ≤ k)) (w : World) :
    Calls Try.prog 19 #[.int .i64 b, .int .i64 m, .int .i64 k] w fun e w' => e = .returned (.tuple #[.int .i64 0, .int .i64 90]) ∧ w' = w := by
  by_cases hb : 0 ≤ b ∧ b ≤ 1099511627776
  · by_cases hm : 0 ≤ m ∧ m ≤ 1099511627776
    · have hk : k < 1 := by omega
      have d1 : decide (0 ≤ b ∧ b ≤ 1099511627776) = true := decide_eq_true hb
      have d2 : decide (0 ≤ m ∧ m ≤ 1099511627776) = true := decide_eq_true hm
      clear h hb hm
      go_enter Try.func19, Try.ntmps19
      go_wp2_with (go_at_call 27; refine (within_any _ _ _ _).mono ?_; rintro e w' ⟨rfl, rfl⟩; first | rw [d1] | rw [d2])
      go_ret2
      exact ⟨rfl, rfl⟩
    · have d1 : decide (0 ≤ b ∧ b ≤ 1099511627776) = true := decide_eq_true hb
      have d2 : decide (0 ≤ m ∧ m ≤ 1099511627776) = false := decide_eq_false hm
      clear h hb hm
      go_enter Try.func19, Try.ntmps19
      go_wp2_with (go_at_call 27; refine (within_any _ _ _ _).mono ?_; rintro e w' ⟨rfl, rfl⟩; first | rw [d1] | rw [d2])
      go_ret2
      exact ⟨rfl, rfl⟩
  · have d1 : decide (0 ≤ b ∧ b ≤ 1099511627776) = false := decide_eq_false hb
    clear h hb
    go_enter Try.func19, Try.ntmps19
    go_wp2_with (go_at_call 27; refine (within_any _ _ _ _).mono ?_; rintro e w' ⟨rfl, rfl⟩; rw [d1])
    go_ret2
    exact ⟨rfl, rfl⟩

theorem rdelay_any (b m k : Nat) (hb : b ≤ 1099511627776) (hm : m ≤ 1099511627776) (hk : k < 9223372036854775807) (w : World) :
    Calls Try.prog 19 #[.int .i64 b, .int .i64 m, .int .i64 (k + 1 : Nat)] w fun e w' => e = .returned (.tuple #[.int .i64 (V.dbl b m k : Nat), .int .i64 0]) ∧ w' = w := by
  have d1 : decide (0 ≤ (b : Int) ∧ (b : Int) ≤ 1099511627776) = true := decide_eq_true (by omega)
  have d2 : decide (0 ≤ (m : Int) ∧ (m : Int) ≤ 1099511627776) = true := decide_eq_true (by omega)
  generalize hX : V.dbl b m k = X
  have HX := hide hX
  clear hX
  generalize hK : k + 1 = K
  have HK := hide hK
  have hK1 : 1 ≤ K := by omega
  have hK2 : K < 9223372036854775808 := by omega
  clear hK
  go_enter Try.func19, Try.ntmps19
  go_wp2_with (go_at_call 27; refine (within_any _ _ _ _).mono ?_; rintro e w' ⟨rfl, rfl⟩; first | rw [d1] | rw [d2])
  go_loop [8, 9] (fun d i => ∃ D I : Nat, i = .int .i64 I ∧ d = .int .i64 D ∧ 1 ≤ I ∧ I ≤ K ∧ D ≤ 2199023255552 ∧ Hid (D = 2 ^ (I - 1) * b)) (fun _ i => K - (intOf i).toNat)
  case atStart => exact ⟨b, 1, rfl, rfl, by omega, hK1, by omega, hide (by simp)⟩
  case round =>
    obtain ⟨D, I, rfl, rfl, hI1, hI2, hD, HR⟩ := hrel
    by_cases c1 : I < K
    · by_cases c2 : 0 < D
      · by_cases c3 : D < m
        · go_wp2
          have e := HR.out
          refine ⟨⟨2 * D, I + 1, by go_num, by go_num, by omega, by omega, by omega, ?_⟩, by simp [intOf]; omega⟩
          rw [e, show I + 1 - 1 = (I - 1) + 1 by omega, Nat.pow_succ, Nat.mul_comm (2 ^ (I - 1)) 2, Nat.mul_assoc]
          exact hide rfl
        · have HE := hide (show m = X by
            have h1 := V.dbl_mono b m (I - 1) k (by have := HK.out; omega)
            have h2 := V.dbl_le b m k
            rw [V.dbl_eq b m (I - 1), ← HR.out] at h1
            have h3 := HX.out
            omega)
          by_cases c4 : m < D
          · go_wp2
            go_ret2
            exact ⟨ret2 (by have := HE.out; omega), rfl⟩
          · have HE2 := hide (show D = X by have := HE.out; omega)
            go_wp2
            go_ret2
            exact ⟨ret2 (by have := HE2.out; omega), rfl⟩
      · have HE := hide (show D = X by
          rw [← HX.out]
          have hb0 : b = 0 := by
            rcases Nat.eq_zero_or_pos b with h | h
            · exact h
            · have := Nat.mul_pos (Nat.two_pow_pos (I - 1)) h
              rw [← HR.out] at this; omega
          rw [V.dbl_eq, hb0]; omega)
        have c4 : ¬ m < D := by omega
        go_wp2
        go_ret2
        exact ⟨ret2 (by have := HE.out; omega), rfl⟩
    · have HE := hide (show min D m = X by rw [← HX.out, V.dbl_eq, HR.out, show I - 1 = k by have := HK.out; omega])
      by_cases c4 : m < D
      · have HE2 := hide (show m = X by have := HE.out; omega)
        go_wp2
        go_ret2
        exact ⟨ret2 (by have := HE2.out; omega), rfl⟩
      · have HE2 := hide (show D = X by have := HE.out; omega)
        go_wp2
        go_ret2
        exact ⟨ret2 (by have := HE2.out; omega), rfl⟩
end Go.Proofs.Ytfnndnceaddhgaa
