/- known: the law's own examples. -/
import Derived.Test.YtgnploeobgheaaaDoorCTime
namespace Go.Proofs.YtgnploeobgheaaaDoor
open Go.RowKit

theorem within_any (n a b : Int) (w : World) :
    Calls Tryd.prog 13 #[.int .i64 n, .int .i64 a, .int .i64 b] w fun e w' => e = .returned (.bool (decide (a ≤ n ∧ n ≤ b))) ∧ w' = w := by
  by_cases h1 : a ≤ n
  · by_cases h2 : n ≤ b
    · go_enter Tryd.func13, Tryd.ntmps13
      go_wp2
      go_ret
      exact ⟨by simp [h1, h2], rfl⟩
    · go_enter Tryd.func13, Tryd.ntmps13
      go_wp2
      go_ret
      exact ⟨by simp [h2], rfl⟩
  · go_enter Tryd.func13, Tryd.ntmps13
    go_wp2
    go_ret
    exact ⟨by rw [decide_eq_false (by omega)]; rfl, rfl⟩
theorem within_yes (n a b : Int) (h1 : a ≤ n) (h2 : n ≤ b) (w : World) :
    Calls Tryd.prog 13 #[.int .i64 n, .int .i64 a, .int .i64 b] w fun e w' => e = .returned (.bool true) ∧ w' = w := by
  have := within_any n a b w
  rw [decide_eq_true ⟨h1, h2⟩] at this; exact this
theorem within_no (n a b : Int) (h : n < a ∨ b < n) (w : World) :
    Calls Tryd.prog 13 #[.int .i64 n, .int .i64 a, .int .i64 b] w fun e w' => e = .returned (.bool false) ∧ w' = w := by
  have := within_any n a b w
  rw [decide_eq_false (by omega)] at this; exact this

theorem at_known (w : World) (hT : Tab w) : Calls Tryd.prog 9 #[.int .i64 951868799] w fun e w' => e = .returned (.tuple #[dat 2000 2 29 23 59 59 2, .int .i64 0]) ∧ Below w.heap.size w w' := by
  have h := at_in 951868799 (by decide) (by decide) w hT
  have e0 : K.Y 951868799 = 2000 := by decide
  have e1 : K.M 951868799 = 2 := by decide
  have e2 : K.D 951868799 = 29 := by decide
  have e3 : K.hh 951868799 = 23 := by decide
  have e4 : K.mm 951868799 = 59 := by decide
  have e5 : K.ss 951868799 = 59 := by decide
  have e6 : K.W 951868799 = 2 := by decide
  simp only [datOf, e0, e1, e2, e3, e4, e5, e6] at h
  exact h
theorem time_known (k : Int) (w : World) (hT : Tab w) : Calls Tryd.prog 15 #[dat 2000 2 29 23 59 59 k] w fun e w' => e = .returned (.tuple #[.int .i64 951868799, .int .i64 0]) ∧ Below w.heap.size w w' :=
  have e : K.secs 2000 2 29 23 59 59 = 951868799 := by decide
  e ▸ time_ok 2000 2 29 23 59 59 k ⟨by decide, by decide, by decide, by decide, by decide, by decide, by decide, by decide, by decide, by decide, by decide⟩ (by decide) w hT
theorem days_known (w : World) (hT : Tab w) : Calls Tryd.prog 22 #[.int .i64 2000, .int .i64 2] w fun e w' => e = .returned (.tuple #[.int .i64 29, .int .i64 0]) ∧ w' = w :=
  have e : K.dim 2000 2 = 29 := by decide
  e ▸ days_in 2000 2 (by decide) (by decide) (by decide) (by decide) w hT
theorem leap_known (w : World) : Calls Tryd.prog 23 #[.int .i64 2000] w fun e w' => e = .returned (.bool true) ∧ w' = w :=
  have e : K.lpB 2000 = true := by decide
  e ▸ leap_any 2000 w
theorem leap_known' (w : World) : Calls Tryd.prog 23 #[.int .i64 1900] w fun e w' => e = .returned (.bool false) ∧ w' = w :=
  have e : K.lpB 1900 = false := by decide
  e ▸ leap_any 1900 w

set_option maxHeartbeats 1000000 in
theorem known_any (w : World) (hT : Tab w) :
    Calls Tryd.prog 11 #[] w fun e w' => e = .returned (.bool true) ∧ Below w.heap.size w w' := by
  go_enter Tryd.func11, Tryd.ntmps11
  go_wp2_with fail
  go_at_call 9
  refine (at_known _ hT).mono ?_
  rintro e w1 ⟨rfl, hb1⟩
  have hT1 := hT.keep hb1
  go_wp2_with fail
  go_at_call 15
  refine (time_known _ _ (hT1.alloc _)).mono ?_
  rintro e w2 ⟨rfl, hb2⟩
  have hT2 := (hT1.alloc _).keep hb2
  obtain ⟨x0, x1, x2, x3, x4, x5, x6, xl, _⟩ := (DatAt.new _ _ _ _ _ _ _ _ _).keep hb2
  have B2 := hide ((hb1.alloc hb1.size _).trans (hb2.mono (Nat.le_trans hb1.size (by simp))))
  clear hb1 hb2
  generalize hg : w1.heap.size = g at *
  go_wp2_with fail
  go_at_call 22
  refine (days_known _ hT2).mono ?_
  rintro e w' ⟨rfl, rfl⟩
  go_wp2_with fail
  go_at_call 23
  refine (leap_known _).mono ?_
  rintro e w' ⟨rfl, rfl⟩
  go_wp2_with fail
  go_at_call 23
  refine (leap_known' _).mono ?_
  rintro e w' ⟨rfl, rfl⟩
  go_wp2_with fail
  go_ret
  exact ⟨rfl, B2.out⟩
end Go.Proofs.YtgnploeobgheaaaDoor
