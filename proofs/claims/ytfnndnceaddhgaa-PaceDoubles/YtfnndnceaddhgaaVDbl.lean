/- PaceDoubles, PaceEnds: the walks. -/
import Derived.Test.YtfnndnceaddhgaaVKno
namespace Go.Proofs.Ytfnndnceaddhgaa
open Go.RowKit

theorem doubles_walk (base top k : Int) (w : World) (b0 : -9223372036854775808 ≤ base) (b1 : base ≤ 9223372036854775807) (t0 : -9223372036854775808 ≤ top) (t1 : top ≤ 9223372036854775807) (k0 : -9223372036854775808 ≤ k) (k1 : k ≤ 9223372036854775807) :
    Calls Try.prog 7 #[.int .i64 base, .int .i64 top, .int .i64 k] w fun e w' => e = .returned (.bool true) ∧ Below w.heap.size w w' := by
  have p1 := hide (fun w => delayOf_any base b0 b1 w)
  have p2 := hide (fun w => delayOf_any top t0 t1 w)
  have p3 := hide (fun w => pick_any k 9223372036854775806 k0 k1 (by decide) (by decide) w)
  have hb := V.pk_lt base 1099511627777 (by decide)
  have hm := V.pk_lt top 1099511627777 (by decide)
  have hj := V.pk_lt k 9223372036854775806 (by decide)
  generalize V.pk base 1099511627777 = b at *
  generalize V.pk top 1099511627777 = m at *
  generalize V.pk k 9223372036854775806 = j at *
  have d1 := hide (fun w => delay_any b m 0 (by omega) (by omega) (by decide) w)
  have d2' := fun w => delay_any b m j (by omega) (by omega) (by omega) w
  have d3' := fun w => delay_any b m (j + 1) (by omega) (by omega) (by omega) w
  rw [show ((j + 1 : Nat) : Int) = 1 + (j : Int) by omega] at d2'
  rw [show ((j + 1 + 1 : Nat) : Int) = 1 + (j : Int) + 1 by omega] at d3'
  have d2 := hide d2'
  have d3 := hide d3'
  clear d2' d3'
  have hX := V.dbl_le b m j
  have h0 : V.dbl b m 0 = min b m := rfl
  have hY : V.dbl b m (j + 1) = min (2 * V.dbl b m j) m := rfl
  have hmn := V.dbl_mono b m 0 j (by omega)
  generalize V.dbl b m (j + 1) = Y at *
  generalize V.dbl b m 0 = F at *
  generalize V.dbl b m j = X at *
  have HF := hide h0
  have HY := hide hY
  have hFm : F ≤ m := by omega
  have hYm : Y ≤ m := by omega
  have hFb : F = b ∨ (¬ F = b ∧ F = m ∧ ¬ b < m) := by omega
  have hYY : (2 * X ≤ m ∧ Y = 2 * X) ∨ (¬ 2 * X ≤ m ∧ Y = m) := by omega
  clear h0 hY
  go_enter Try.func7, Try.ntmps7
  go_wp2_with fail
  go_at_call 9
  refine (known_any _).mono ?_
  rintro e w2 ⟨rfl, hbl⟩
  have HB := hide hbl
  clear hbl
  go_wp2_with fail
  go_at_call 13
  refine (p1.out _).mono ?_
  rintro e w3 ⟨rfl, rfl⟩
  go_wp2_with fail
  go_at_call 13
  refine (p2.out _).mono ?_
  rintro e w3 ⟨rfl, rfl⟩
  go_wp2_with fail
  go_at_call 14
  refine (p3.out _).mono ?_
  rintro e w3 ⟨rfl, rfl⟩
  go_wp2_with fail
  go_at_call 15
  refine (d1.out _).mono ?_
  rintro e w3 ⟨rfl, rfl⟩
  go_wp2_with fail
  go_at_call 15
  refine (d2.out _).mono ?_
  rintro e w3 ⟨rfl, rfl⟩
  go_wp2_with fail
  go_at_call 15
  refine (d3.out _).mono ?_
  rintro e w3 ⟨rfl, rfl⟩
  clear d1 d2 d3 p1 p2 p3 HF HY
  rcases hFb with rfl | ⟨hf1, rfl, hf2⟩
  all_goals rcases hYY with ⟨hy1, rfl⟩ | ⟨hy1, rfl⟩
  all_goals go_wp2_with fail
  all_goals go_ret
  all_goals exact ⟨rfl, HB.out⟩

theorem ends_walk (base top k : Int) (w : World) (b0 : -9223372036854775808 ≤ base) (b1 : base ≤ 9223372036854775807) (t0 : -9223372036854775808 ≤ top) (t1 : top ≤ 9223372036854775807) (k0 : -9223372036854775808 ≤ k) (k1 : k ≤ 9223372036854775807) :
    Calls Try.prog 8 #[.int .i64 base, .int .i64 top, .int .i64 k] w fun e w' => e = .returned (.bool true) ∧ Below w.heap.size w w' := by
  have p1 := hide (fun w => pick_any base 1099511627776 b0 b1 (by decide) (by decide) w)
  have p2 := hide (fun w => delayOf_any top t0 t1 w)
  have p3 := hide (fun w => pick_any k 9223372036854775000 k0 k1 (by decide) (by decide) w)
  have hb := V.pk_lt base 1099511627776 (by decide)
  have hm := V.pk_lt top 1099511627777 (by decide)
  have hj := V.pk_lt k 9223372036854775000 (by decide)
  generalize V.pk base 1099511627776 = b at *
  generalize V.pk top 1099511627777 = m at *
  generalize V.pk k 9223372036854775000 = j at *
  have d1' := fun w => delay_any (1 + b) m (40 + j) (by omega) (by omega) (by omega) w
  have d2' := fun w => delay_any 0 m (40 + j) (by omega) (by omega) (by omega) w
  have hX : V.dbl (1 + b) m (40 + j) = m := V.dbl_pos _ _ _ (by omega) (Nat.le_trans (show m ≤ 2 ^ 40 by omega) (Nat.pow_le_pow_right (by decide) (by omega)))
  have hY : V.dbl 0 m (40 + j) = 0 := by rw [V.dbl_eq]; omega
  rw [hX, show ((1 + b : Nat) : Int) = 1 + (b : Int) by omega, show ((40 + j + 1 : Nat) : Int) = 41 + (j : Int) by omega] at d1'
  rw [hY, show ((40 + j + 1 : Nat) : Int) = 41 + (j : Int) by omega] at d2'
  have d1 := hide d1'
  have d2 := hide d2'
  clear d1' d2' hX hY
  go_enter Try.func8, Try.ntmps8
  go_wp2_with fail
  go_at_call 9
  refine (known_any _).mono ?_
  rintro e w2 ⟨rfl, hbl⟩
  have HB := hide hbl
  clear hbl
  go_wp2_with fail
  go_at_call 14
  refine (p1.out _).mono ?_
  rintro e w3 ⟨rfl, rfl⟩
  go_wp2_with fail
  go_at_call 13
  refine (p2.out _).mono ?_
  rintro e w3 ⟨rfl, rfl⟩
  go_wp2_with fail
  go_at_call 14
  refine (p3.out _).mono ?_
  rintro e w3 ⟨rfl, rfl⟩
  go_wp2_with fail
  go_at_call 15
  refine (d1.out _).mono ?_
  rintro e w3 ⟨rfl, rfl⟩
  go_wp2_with fail
  go_at_call 15
  refine (d2.out _).mono ?_
  rintro e w3 ⟨rfl, rfl⟩
  clear d1 d2 p1 p2 p3
  go_wp2_with fail
  go_ret
  exact ⟨rfl, HB.out⟩
end Go.Proofs.Ytfnndnceaddhgaa
