/- within, fits, ahead: the laws' own helpers. -/
import Derived.Test.YtgnploeobgheaaaDoorCLift
namespace Go.Proofs.YtgnploeobgheaaaDoor
open Go.RowKit

theorem fits_yes (y m d h i s k : Int) (hO : K.Ok y m d h i s) (hy : y ≤ 146138514283) (w : World) (hT : Tab w) :
    Calls Tryd.prog 14 #[dat y m d h i s k] w fun e w' => e = .returned (.bool true) ∧ Below w.heap.size w w' := by
  obtain ⟨y0, m1, m2, d1, d2, h1, h2, i1, i2, s1, s2⟩ := hO
  go_enter Tryd.func14, Tryd.ntmps14
  go_wp2_with fail
  go_at_call 22
  refine (days_in _ _ (by omega) (by omega) (by omega) (by omega) _ (hT.alloc _)).mono ?_
  rintro e w' ⟨rfl, rfl⟩
  go_wp2_with (go_at_call 13; refine (within_yes _ _ _ (by omega) (by omega) _).mono ?_; rintro e w' ⟨rfl, rfl⟩)
  go_ret
  exact ⟨rfl, (Below.refl _ _).alloc (Nat.le_refl _) _⟩

theorem fits_no (y m d h i s k : Int) (hN : ¬ (K.Ok y m d h i s ∧ y ≤ 146138514283)) (w : World) (hT : Tab w) :
    Calls Tryd.prog 14 #[dat y m d h i s k] w fun e w' => e = .returned (.bool false) ∧ Below w.heap.size w w' := by
  by_cases hym : y < 1970 ∨ 146138514283 < y ∨ m < 1 ∨ 12 < m
  · clear hN
    have HN := hide hym
    clear hym
    go_enter Tryd.func14, Tryd.ntmps14
    go_wp2_with fail
    go_at_call 22
    refine (days_out _ _ HN.out _).mono ?_
    rintro e w' ⟨rfl, rfl⟩
    go_wp2_with fail
    go_ret
    exact ⟨rfl, (Below.refl _ _).alloc (Nat.le_refl _) _⟩
  · have HN : Hid (¬ (1 ≤ d ∧ d ≤ K.dim y m ∧ 0 ≤ h ∧ h ≤ 23 ∧ 0 ≤ i ∧ i ≤ 59 ∧ 0 ≤ s ∧ s ≤ 59)) := fun ⟨a, b, c, d, e, f, g, j⟩ => hN ⟨⟨by omega, by omega, by omega, a, b, c, d, e, f, g, j⟩, by omega⟩
    obtain ⟨y0, y1, m1, m2⟩ : 1970 ≤ y ∧ y ≤ 146138514283 ∧ 1 ≤ m ∧ m ≤ 12 := by omega
    clear hN hym
    go_enter Tryd.func14, Tryd.ntmps14
    go_wp2_with fail
    go_at_call 22
    refine (days_in _ _ (by omega) (by omega) (by omega) (by omega) _ (hT.alloc _)).mono ?_
    rintro e w' ⟨rfl, rfl⟩
    go_wp2_with fail
    go_at_call 13
    by_cases hd : 1 ≤ d ∧ d ≤ K.dim y m
    · refine (within_yes _ _ _ hd.1 hd.2 _).mono ?_
      rintro e w' ⟨rfl, rfl⟩
      go_wp2_with fail
      go_at_call 13
      by_cases hh : 0 ≤ h ∧ h ≤ 23
      · refine (within_yes _ _ _ hh.1 hh.2 _).mono ?_
        rintro e w' ⟨rfl, rfl⟩
        go_wp2_with fail
        go_at_call 13
        by_cases hi : 0 ≤ i ∧ i ≤ 59
        · refine (within_yes _ _ _ hi.1 hi.2 _).mono ?_
          rintro e w' ⟨rfl, rfl⟩
          go_wp2_with fail
          go_at_call 13
          refine (within_no _ _ _ (by have := HN.out; omega) _).mono ?_
          rintro e w' ⟨rfl, rfl⟩
          go_wp2_with fail
          go_ret
          exact ⟨rfl, (Below.refl _ _).alloc (Nat.le_refl _) _⟩
        · refine (within_no _ _ _ (by omega) _).mono ?_
          rintro e w' ⟨rfl, rfl⟩
          go_wp2_with fail
          go_ret
          exact ⟨rfl, (Below.refl _ _).alloc (Nat.le_refl _) _⟩
      · refine (within_no _ _ _ (by omega) _).mono ?_
        rintro e w' ⟨rfl, rfl⟩
        go_wp2_with fail
        go_ret
        exact ⟨rfl, (Below.refl _ _).alloc (Nat.le_refl _) _⟩
    · refine (within_no _ _ _ (by omega) _).mono ?_
      rintro e w' ⟨rfl, rfl⟩
      go_wp2_with fail
      go_ret
      exact ⟨rfl, (Below.refl _ _).alloc (Nat.le_refl _) _⟩
end Go.Proofs.YtgnploeobgheaaaDoor
