/- Package cron: that no date matches. -/
import Derived.Test.YtbgioclbjbmicaaDoorXSpan
namespace Go.Proofs.YtbgioclbjbmicaaDoor
open Go.RowKit

def neverTo (S : X.Sets) (m d : Nat) : Prop := ∀ m' d' : Nat, 1 ≤ m' → m' ≤ 12 → 1 ≤ d' → (d' : Int) ≤ K.dim 2000 m' → (m' < m ∨ m' = m ∧ d' < d) → S (180 + m') = true → X.enough S = false ∧ S (120 + d') = false
theorem neverTo_step {S : X.Sets} {m d : Nat} (h : neverTo S m d) (hc : S (180 + m) = true → X.enough S = false ∧ S (120 + d) = false) : neverTo S m (d + 1) := by
  intro m' d' h1 h2 h3 h4 h5 h6
  by_cases e : m' = m ∧ d' = d
  · obtain ⟨rfl, rfl⟩ := e; exact hc h6
  · exact h m' d' h1 h2 h3 h4 (by omega) h6
theorem neverTo_month {S : X.Sets} {m L d : Nat} (h : neverTo S m d) (hd : L + 1 ≤ d) (hL : K.dim 2000 (m : Int) = L) : neverTo S (m + 1) 1 := by
  intro m' d' h1 h2 h3 h4 h5 h6
  by_cases e : m' = m
  · subst e; exact h m' d' h1 h2 h3 h4 (by omega) h6
  · exact h m' d' h1 h2 h3 h4 (by omega) h6
theorem neverTo_end {S : X.Sets} {m : Nat} (h : neverTo S m 1) (hm : ¬ m ≤ 12) : X.never S := fun m' d' h1 h2 h3 h4 h6 => h m' d' h1 h2 h3 h4 (by omega) h6
set_option maxHeartbeats 1000000 in
theorem never_any (g : Nat) (S : X.Sets) (w : World) (hE : Env w) (hX : ExprAt w g S) :
    Calls Tryd.prog 31 #[.pointer (some ⟨g, 0, none⟩)] w fun e w' => ∃ b : Bool, e = .returned (.bool b) ∧ (b = true → X.never S) ∧ Below w.heap.size w w' := by
  go_enter Tryd.func31, Tryd.ntmps31
  go_wp2_with fail
  go_at_call 51
  refine (enough_any g S _ hE hX).mono ?_
  rintro e w1 ⟨rfl, hb1⟩
  have hE1 := hE.keep hb1
  have hX1 := hX.keep hb1
  clear hE hX
  have c6 := hE1.bnd 6 (by decide)
  have c7 := hE1.bnd 7 (by decide)
  have e6 : bnds.getD 6 0 = 1 := rfl
  have e7 : bnds.getD 7 0 = 12 := rfl
  rw [e6] at c6
  rw [e7] at c7
  go_wp2_with fail
  have hl2 : ∀ m : Nat, 28 ≤ K.dim 2000 (m : Int) ∧ K.dim 2000 (m : Int) ≤ 31 := fun m => K.dim_pos 2000 m
  have HB1 := hide hb1
  clear hb1 c6 c7
  go_loopw [4] (fun m' wx => ∃ m : Nat, 1 ≤ m ∧ m ≤ 13 ∧ m' = .int .i64 m ∧ Hid (neverTo S m 1) ∧ Below w1.heap.size w1 wx) (fun m' _ => 13 - (intOf m').toNat)
  case atStart => exact ⟨1, by omega, by omega, rfl, fun m' d' h1 h2 h3 h4 h5 => by omega, Below.refl _ _⟩
  case round =>
    obtain ⟨m, hm1, hm2, rfl, HN, hbx⟩ := hrel
    have hEx := hE1.keep hbx
    have hXx := hX1.keep hbx
    have c7 := hEx.bnd 7 (by decide)
    rw [e7] at c7
    by_cases hm : m ≤ 12
    · go_wp2_with fail
      go_at_call 48
      refine (days_in 2000 m (by omega) (by omega) (by omega) (by omega) _ hEx.tab).mono ?_
      rintro e w2 ⟨rfl, rfl⟩
      obtain ⟨L, hL⟩ : ∃ L : Nat, K.dim 2000 (m : Int) = L := ⟨(K.dim 2000 (m : Int)).toNat, by have := hl2 m; omega⟩
      have hL1 := hl2 m
      rw [hL] at hL1 ⊢
      go_wp2_with fail
      go_loopw [7] (fun d' wy => ∃ d : Nat, 1 ≤ d ∧ d ≤ L + 1 ∧ d' = .int .i64 d ∧ Hid (neverTo S m d) ∧ Below w1.heap.size w1 wy) (fun d' _ => L + 1 - (intOf d').toNat)
      case atStart => exact ⟨1, by omega, by omega, rfl, HN, hbx⟩
      case round =>
        obtain ⟨d, hd1, hd2, rfl, HM, hby⟩ := hrel
        have hXy := hX1.keep hby
        have x0 := hXy.c (180 + m) (by omega)
        have x1 := hXy.c (120 + d) (by omega)
        by_cases hd : d ≤ L
        · cases h1 : S (180 + m) <;> cases h2 : X.enough S <;> cases h3 : S (120 + d) <;> rw [h1] at x0 <;> rw [h3] at x1
          all_goals go_wp2_with fail
          all_goals first
            | exact ⟨⟨d + 1, by omega, by omega, by go_num, neverTo_step HM.out (by simp [h1, h2, h3]), hby⟩, by simp [intOf]; omega⟩
            | (go_ret; exact ⟨false, rfl, (fun h => by cases h), HB1.out.trans (hby.mono HB1.out.size)⟩)
        · go_wp2_with fail
          exact ⟨⟨m + 1, by omega, by omega, by go_num, neverTo_month HM.out (by omega) hL, hby⟩, by simp [intOf]; omega⟩
    · go_wp2_with fail
      go_ret
      exact ⟨true, rfl, (fun _ => neverTo_end HN.out hm), HB1.out.trans (hbx.mono HB1.out.size)⟩
end Go.Proofs.YtbgioclbjbmicaaDoor
