/- Contracts of the document's answer: bit, take, Sum, More. -/
import Derived.Test.YtgjiaajeionofaaKByt
namespace Go.Proofs.Ytgjiaajeionofaa
open Go.RowKit

theorem Z_bit (r b : Nat) (hb : b < 2) : M.Z (r ^^^ b) = if (r % 2 + b) % 2 = 1 then r / 2 ^^^ 2197175160 else r / 2 := by
  unfold M.Z
  rw [M.xor_mod2, M.xor_div2, Nat.mod_eq_of_lt hb, Nat.div_eq_of_lt hb, Nat.xor_zero]

theorem bit_any (r b : Nat) (hr : r < 4294967296) (hb : b < 2) (w : World) :
    Calls Try.prog 45 #[.int .u32 (r : Int), .int .u32 (b : Int)] w fun e w' => e = .returned (.int .u32 (M.Z (r ^^^ b) : Nat)) ∧ w' = w := by
  have ha : bits .and .u32 (r : Int) 1 = ((r % 2 : Nat) : Int) := by
    have := u32_and_nat r 1 hr (by decide)
    rw [nat_mask1] at this; exact this
  have hx : bits .xor .u32 ((r : Int) / 2) 2197175160 = ((r / 2 ^^^ 2197175160 : Nat) : Int) := xor32 (r / 2) 2197175160 (by omega) (by decide)
  have HZ := hide (Z_bit r b hb)
  have hxb : bits .xor .u32 ((r : Int) % 2) (b : Int) = (((r % 2 + b) % 2 : Nat) : Int) := by
    have := xor32 (r % 2) b (by omega) (by omega)
    have e := M.xor_mod2 (r % 2) b
    rw [Nat.mod_mod, Nat.mod_eq_of_lt hb, Nat.mod_eq_of_lt (show r % 2 ^^^ b < 2 from Nat.xor_lt_two_pow (n := 1) (by omega) (by omega))] at e
    rw [e] at this
    exact this
  by_cases h : (r % 2 + b) % 2 = 1
  · have hz : M.Z (r ^^^ b) = r / 2 ^^^ 2197175160 := by rw [HZ.out, if_pos h]
    rw [h] at hxb
    have HZ2 := hide hz
    clear h hz HZ
    go_enter Try.func45, Try.ntmps45
    go_wp2
    go_ret
    exact ⟨ret_int (by rw [HZ2.out]), rfl⟩
  · have hz : M.Z (r ^^^ b) = r / 2 := by rw [HZ.out, if_neg h]
    rw [show (r % 2 + b) % 2 = 0 by omega] at hxb
    have HZ2 := hide hz
    clear h hz HZ
    go_enter Try.func45, Try.ntmps45
    go_wp2
    go_ret
    exact ⟨ret_int (by rw [HZ2.out]; omega), rfl⟩

theorem bit8_at (d k : Nat) (hd : d < 256) : bits .and .u8 ((d : Int) / 2 ^ k) 1 = ((d / 2 ^ k % 2 : Nat) : Int) := by
  have h := u8_and_nat (d / 2 ^ k) 1 (Nat.lt_of_le_of_lt (Nat.div_le_self _ _) hd) (by decide)
  rw [nat_mask1] at h
  rw [← h]
  congr 1

set_option maxHeartbeats 1000000 in
theorem take_any (r : Nat) (hr : r < 4294967296) (a : Option Addr) (n c : Nat) (l : List Nat) (w : World) (h : Rd w a n l) :
    Calls Try.prog 33 #[.int .u32 (r : Int), .slice a n c] w fun e w' => e = .returned (.int .u32 (M.eat r l : Nat)) ∧ w' = w := by
  obtain ⟨hl, hn, hd, hrow⟩ := h
  have HL := hide hl
  have HD := hide hd
  clear hl hd
  rcases hrow with h0 | ⟨b, off, rfl, hrow⟩
  · subst h0
    go_enter Try.func33, Try.ntmps33
    go_wp2
    go_loop [0, 5] (fun r' i => r' = .int .u32 (r : Nat) ∧ i = .int .i64 0) (fun _ _ => 0)
    case atStart => exact ⟨rfl, rfl⟩
    case round =>
      obtain ⟨rfl, rfl⟩ := hrel
      go_wp2
      go_ret
      exact ⟨ret_int (by rw [List.length_eq_zero_iff.1 HL.out.symm]; rfl), rfl⟩
  · have HW := hide hrow
    clear hrow
    go_enter Try.func33, Try.ntmps33
    go_wp2
    go_loop [0, 5] (fun r' i => ∃ k : Nat, k ≤ n ∧ i = .int .i64 k ∧ r' = .int .u32 (M.eat r (l.take k) : Nat)) (fun _ i => n - (intOf i).toNat)
    case atStart => exact ⟨0, Nat.zero_le _, rfl, rfl⟩
    case round =>
      obtain ⟨k, hk, rfl, rfl⟩ := hrel
      have hr' := M.eat_lt (l.take k) (take_lt l HD.out k) hr
      by_cases hlt : k < n
      · have hdec : decide ((k : Int) < (n : Int)) = true := decide_eq_true (by omega)
        have hc := HW.out k hlt
        have hd := getD_lt l HD.out k
        have HS : Hid (M.eat r (l.take (k + 1)) = M.feed 8 (M.eat r (l.take k)) (l.getD k 0)) := by
          show _ = _
          rw [take_snoc l k (by have := HL.out; omega), M.eat_snoc, M.feed8 _ _ hd]
        generalize M.eat r (l.take k) = q at *
        generalize l.getD k 0 = d at *
        go_wp2
        go_loop [0, 6] (fun r' i => ∃ j : Nat, j ≤ 8 ∧ i = .int .i64 j ∧ r' = .int .u32 (M.feed j q d : Nat)) (fun _ i => 8 - (intOf i).toNat)
        case atStart => exact ⟨0, by omega, rfl, rfl⟩
        case round =>
          obtain ⟨j, hj, rfl, rfl⟩ := hrel
          by_cases hj8 : j < 8
          · have hb := bit8_at d j hd
            have hf := M.feed_lt j d hr'
            have HF : Hid (M.feed (j + 1) q d = M.Z (M.feed j q d ^^^ (d / 2 ^ j % 2))) := rfl
            go_wp2_with (go_at_call 45; refine (bit_any _ (d / 2 ^ j % 2) hf (by omega) _).mono ?_; rintro e w' ⟨rfl, rfl⟩)
            exact ⟨⟨j + 1, by omega, by go_num, by rw [HF.out]⟩, by simp [intOf]; omega⟩
          · obtain rfl : j = 8 := by omega
            go_wp2
            exact ⟨⟨k + 1, by omega, by go_num, by rw [HS.out]⟩, by simp [intOf]; omega⟩
      · go_wp2
        go_ret
        exact ⟨ret_int (by rw [List.take_of_length_le (by have := HL.out; omega)]), rfl⟩

theorem take_max (a : Option Addr) (n c : Nat) (l : List Nat) (w : World) (h : Rd w a n l) :
    Calls Try.prog 33 #[.int .u32 4294967295, .slice a n c] w fun e w' => e = .returned (.int .u32 (M.eat (M.neg 0) l : Nat)) ∧ w' = w := by
  have h1 := take_any (M.neg 0) (M.neg_lt 0) a n c l w h
  have e : ((M.neg 0 : Nat) : Int) = 4294967295 := by decide
  rw [e] at h1
  exact h1

theorem refSum_any (a : Option Addr) (n c : Nat) (l : List Nat) (w : World) (h : Rd w a n l) :
    Calls Try.prog 22 #[.slice a n c] w fun e w' => e = .returned (.int .u32 (M.more 0 l : Nat)) ∧ w' = w := by
  have hlt := M.eat_lt l h.2.2.1 (M.neg_lt 0)
  have hng := neg_max _ hlt
  have HM : Hid (M.more 0 l = M.neg (M.eat (M.neg 0) l)) := rfl
  have HH := hide h
  clear h
  go_enter Try.func22, Try.ntmps22
  go_wp2_with (go_at_call 33; refine (take_max _ _ _ _ _ HH.out).mono ?_; rintro e w' ⟨rfl, rfl⟩)
  go_ret
  exact ⟨ret_int (by rw [HM.out]), rfl⟩

theorem refMore_any (s : Nat) (hs : s < 4294967296) (a : Option Addr) (n c : Nat) (l : List Nat) (w : World) (h : Rd w a n l) :
    Calls Try.prog 23 #[.int .u32 (s : Int), .slice a n c] w fun e w' => e = .returned (.int .u32 (M.more s l : Nat)) ∧ w' = w := by
  have hlt := M.eat_lt l h.2.2.1 (M.neg_lt s)
  have hng0 := neg_max s hs
  have hng := neg_max _ hlt
  have HM : Hid (M.more s l = M.neg (M.eat (M.neg s) l)) := rfl
  have HH := hide h
  clear h
  go_enter Try.func23, Try.ntmps23
  go_wp2_with fail
  refine (take_any (M.neg s) (M.neg_lt s) _ _ _ _ _ HH.out).mono ?_
  rintro e w' ⟨rfl, rfl⟩
  go_wp2
  go_ret
  exact ⟨ret_int (by rw [HM.out]), rfl⟩

end Go.Proofs.Ytgjiaajeionofaa
