/- CalendarAges. -/
import Derived.Test.YtgnploeobgheaabDoorCLift
namespace Go.Proofs.YtgnploeobgheaabDoor
open Go.ChangeShapes Go.WideShapes Go.ChangeAt Go.RowKit

namespace K
theorem len_age (y : Int) : len (y + 400) = len y := by
  have : lp (y + 400) ↔ lp y := by unfold lp; omega
  by_cases h : lp y
  · rw [len_pos h, len_pos (this.2 h)]
  · rw [len_neg h, len_neg (fun k => h (this.1 k))]
theorem ny_age (y : Int) : ny (y + 400) = ny y + 146097 := by unfold ny; omega
theorem dim_age (y m : Int) : dim (y + 400) m = dim y m := by unfold dim; rw [len_age]
theorem cum_age (y m : Int) : cum (y + 400) m = cum y m := by unfold cum; rw [len_age]
/-- 400 years later. -/
theorem ages (t : Int) (h : 0 ≤ t) : Y (t + 12622780800) = Y t + 400 ∧ M (t + 12622780800) = M t ∧ D (t + 12622780800) = D t ∧ hh (t + 12622780800) = hh t ∧ mm (t + 12622780800) = mm t ∧ ss (t + 12622780800) = ss t ∧ W (t + 12622780800) = W t := by
  obtain ⟨k, hs⟩ := forth t h
  have hw : W (t + 12622780800) = W t := by unfold W; omega
  generalize Y t = y at *
  generalize M t = m at *
  generalize D t = d at *
  generalize hh t = a at *
  generalize mm t = b at *
  generalize ss t = c at *
  obtain ⟨y0, m1, m2, d1, d2, h1, h2, i1, i2, s1, s2⟩ := k
  obtain ⟨_, a1, a2, a3, a4, a5, a6⟩ := back (y := y + 400) (m := m) (d := d) (h := a) (i := b) (s := c) ⟨by omega, m1, m2, d1, by rw [dim_age]; exact d2, h1, h2, i1, i2, s1, s2⟩
  have q : secs (y + 400) m d a b c = t + 12622780800 := by rw [← hs]; unfold secs; rw [ny_age, cum_age]; omega
  rw [q] at a1 a2 a3 a4 a5 a6
  exact ⟨a1, a2, a3, a4, a5, a6, hw⟩
end K

theorem DatAt.set0 {w : World} {g : Nat} {y m d h i s k : Int} (a : DatAt w g y m d h i s k) (y' : Int) : DatAt (w.setCell ⟨g, 0, none⟩ (.int .i64 y')) g y' m d h i s k := by
  obtain ⟨x0, x1, x2, x3, x4, x5, x6, xl, xf⟩ := a
  constructor
  case lt => simpa using xl
  case fr => intro j; simp [xf]
  case c0 => exact World.cell?_setCell_same _ _ _ x0
  all_goals (rw [World.cell?_setCell_other _ _ _ _ (by simp)]; assumption)

set_option maxHeartbeats 2000000 in
theorem ages_walk (t : Int) (w : World) (hT : Tab w) :
    Calls Tryd.prog 3 #[.int .i64 t] w fun e w' => e = .returned (.bool true) ∧ Below w.heap.size w w' := by
  go_enter Tryd.func3, Tryd.ntmps3
  go_wp2_with fail
  go_at_call 5
  refine (known_any _ hT).mono ?_
  rintro e w1 ⟨rfl, hb1⟩
  have hT1 := hT.keep hb1
  have B1 := hide hb1
  clear hb1
  go_wp2_with fail
  go_at_call 6
  by_cases ht : 0 ≤ t ∧ t ≤ 4611686005804607104
  · refine (within_yes _ _ _ ht.1 ht.2 _).mono ?_
    rintro e w1 ⟨rfl, rfl⟩
    go_wp2_with fail
    go_at_call 7
    refine (at_in t ht.1 (by omega) _ hT1).mono ?_
    rintro e w2 ⟨rfl, hb2⟩
    have hT2 := hT1.keep hb2
    have B2 := hide (Below.after B1.out hb2)
    clear hb2 B1
    go_wp2_with fail
    go_at_call 7
    obtain ⟨e0, e1, e2, e3, e4, e5, e6⟩ := K.ages t ht.1
    have hat := fun w hT => at_in (t + 12622780800) (by omega) (by omega) w hT
    simp only [datOf, e0, e1, e2, e3, e4, e5, e6] at hat
    refine (hat _ (hT2.alloc _)).mono ?_
    clear hat e0 e1 e2 e3 e4 e5 e6
    rintro e w3 ⟨rfl, hb3⟩
    have A3 := (DatAt.new _ _ _ _ _ _ _ _ _).keep hb3
    have B3 := hide (Below.after (Below.put B2.out _) hb3)
    have l2 := B2.out.size
    have y1 := K.y_of_le ht.1 (show t ≤ 4611686018427387904 by omega)
    have y0 := (K.forth t ht.1).1.y0
    clear hb3 B2
    generalize hg2 : w2.heap.size = g2 at *
    obtain ⟨x0, x1, x2, x3, x4, x5, x6, xl, xf⟩ := A3
    have xf0 := xf 0
    go_wp2_with fail
    go_ret
    exact ⟨rfl, Below.put (B3.out.setCell (p := ⟨g2, 0, none⟩) l2 _) _⟩
  · refine (within_no _ _ _ (by omega) _).mono ?_
    rintro e w1 ⟨rfl, rfl⟩
    go_wp2_with fail
    go_ret
    exact ⟨rfl, B1.out⟩
namespace Ages
set_option maxRecDepth 100000 in
theorem lifted (os : Os) (started : os.Started) (H : Type) (enc : TypeId × Value → H) :
    ReturnsInHanded {} Tryd.checked os 3 .any (fun w args => (Rows.calendarAgesSpec.pre enc Tryd.prog Tryd.f3 [] false w args ∧ laidMetH Tryd.prog laid1 w) ∧ sizedMet enc Tryd.prog Tryd.f3 (OpenSpec.ofChange Rows.calendarAgesSpec) false w args)
      (Rows.calendarAgesSpec.post enc Tryd.prog Tryd.f3 false true false false) := by
  refine returnsInHanded_of_change_and (C := Tryd.checked) (X := fun w _ => laidMetH Tryd.prog laid1 w) (fun _ _ _ hh h => h.of_heap hh) own started (by kernel_rfl) Tryd.func3
    (ChangeSpec.witness_shaped (enc := enc) (C := Tryd.checked) (os := os) (X := fun w _ => laidMetH Tryd.prog laid1 w) false (World.doorLaid Tryd.prog 400 os) #[.int .i64 0] 8 rfl (World.shaped_of_RefB (by kernel_rfl) (by kernel_rfl)) (by kernel_rfl) (by kernel_rfl) (by kernel_rfl) (door_met os _)) ?_
  intro W base args ds gs before hval0 hW _ _ hL _
  have hval : ∀ (j : Nat) t v, Tryd.f3.params[j]? = some t → args[j]? = some v → Value.okWide Tryd.prog W .any base t v := hval0
  have hW' := hW
  obtain ⟨p, q, hA0, hV, rfl, hfz, hnd⟩ := hW
  have hA : DataW.TrodAll enc Tryd.prog W 0 (fun _ => true) true Tryd.f3.params.toList args.toList ds p := hA0
  rw [Tryd.params3] at hA hval
  obtain ⟨v0, d0, rfl, rfl, h0⟩ := trodAll_one hA
  obtain ⟨rfl, rfl⟩ := trodVars_none hV
  obtain ⟨a0, rfl, rfl, rfl, wf0⟩ := open_int Tryd.underlying3 (hval 0 3 v0 rfl rfl) h0
  have bd0 := bounds_i64 wf0
  clear hA0 hval0
  refine (ages_walk a0 W (tab_of_laid hL)).mono fun e W' ⟨he, bel⟩ => ?_
  subst he
  exact ⟨_, rfl, _, _, _, [], _, [], hW', trodAll_mk1 (shut_bool Tryd.underlying4 _), trodAll_mk1 (shut_int Tryd.underlying3 wf0), rfl, bel.frame _, fun h => by cases h⟩

theorem row : Rows.CalendarAgesSaid :=
  OpenClaim.holds_of_wide 3 Tryd.f3 rfl rfl rfl rfl rfl rfl rfl ⟨rfl, rfl, rfl, rfl, rfl⟩ rfl rfl rfl rfl rfl (by kernel_rfl) Tryd.func3 (by kernel_rfl)
    (of_decide_eq_true (by kernel_rfl)) (by unfold Func.isWrapper; first | (rw [if_pos (by decide +kernel)]; kernel_rfl) | (rw [if_neg (by decide +kernel)]; exact ⟨rfl, rfl⟩))
    (fun os started H enc _ => lifted os started H enc)
end Ages

theorem calendarAges_holds : Rows.CalendarAgesCardSaid :=
  Claim7.holds_tied_plain_at .later [] [.data] true (true, "c4dd1d94f2540cadb057e1f6fd03f51b289b76310077dc8f0f36bad669ba0ce5") false
    Ages.row (fun _ h => by cases h) (by kernel_rfl) (fun _ h => by cases h) calendarAges_row_tie rfl ⟨rfl, rfl⟩ (by kernel_rfl) rfl
    (fun f fn hf hfn => by
      obtain rfl : f = 3 := Option.some.inj ((show Tryd.prog.funcNamed "escapement/escapementlaw03.CalendarAges" = some 3 by kernel_rfl).symm.trans hf) |>.symm
      obtain rfl : fn = Tryd.f3 := (Option.some.inj (Tryd.func3.symm.trans hfn)).symm
      exact ⟨by kernel_rfl, fun j t ht => by
        rw [Tryd.params3] at ht
        have hm : t ∈ [3] := by simpa using Array.mem_of_getElem? ht
        have hall : ([3].all fun u => !Tryd.prog.wantsStandIn u) = true := by kernel_rfl
        exact (show Tryd.prog.wantsStandIn t = false by simpa using List.all_eq_true.1 hall t hm)⟩)
    (by kernel_rfl)
#print axioms calendarAges_holds
end Go.Proofs.YtgnploeobgheaabDoor
