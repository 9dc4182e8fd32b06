/- CalendarThere. -/
import Derived.Test.YtgnploeobgheaaaDoorCFits
namespace Go.Proofs.YtgnploeobgheaaaDoor
open Go.ChangeShapes Go.WideShapes Go.ChangeAt Go.RowKit

set_option maxHeartbeats 1000000 in
theorem there_walk (t k : Int) (w : World) (hT : Tab w) :
    Calls Tryd.prog 5 #[.int .i64 t, .int .i64 k] w fun e w' => e = .returned (.bool true) ∧ Below w.heap.size w w' := by
  go_enter Tryd.func5, Tryd.ntmps5
  go_wp2_with fail
  go_at_call 11
  refine (known_any _ hT).mono ?_
  rintro e w1 ⟨rfl, hb1⟩
  have hT1 := hT.keep hb1
  go_wp2_with fail
  go_at_call 9
  by_cases ht : 0 ≤ t ∧ t ≤ 4611686018427387904
  · refine (at_in t ht.1 ht.2 _ hT1).mono ?_
    rintro e w2 ⟨rfl, hb2⟩
    have hT2 := hT1.keep hb2
    have B2 := hide (hb1.trans (hb2.mono hb1.size))
    clear hb1 hb2
    go_wp2_with (go_at_call 13; refine (within_yes _ _ _ (by omega) (by omega) _).mono ?_; rintro e w' ⟨rfl, rfl⟩)
    go_at_call 14
    have hf := K.forth t ht.1
    have hy := K.y_of_le ht.1 ht.2
    refine (fits_yes _ _ _ _ _ _ _ hf.1 hy _ (hT2.alloc _)).mono ?_
    rintro e w3 ⟨rfl, hb3⟩
    have hT3 := (hT2.alloc _).keep hb3
    obtain ⟨x0, x1, x2, x3, x4, x5, x6, xl, xf⟩ := (DatAt.new _ _ _ _ _ _ _ _ _).keep hb3
    have xf6 := xf 6
    have B3 := hide ((B2.out.alloc B2.out.size _).trans (hb3.mono (Nat.le_trans B2.out.size (by simp))))
    have gl := B2.out.size
    clear hb3 B2
    have H1 := hide hf.1
    have H2 := hide hf.2
    have hw : (K.W t != (t / 86400 + 4) % 7) = false := by
      have : K.W t = (t / 86400 + 4) % 7 := by unfold K.W; omega
      rw [this]; simp
    have hsum : (K.hh t * 3600 + K.mm t * 60 + K.ss t == t % 86400) = true := by
      have : K.hh t * 3600 + K.mm t * 60 + K.ss t = t % 86400 := by unfold K.hh K.mm K.ss; omega
      rw [this]; simp
    have r1 := hf.1.h1
    have r2 := hf.1.h2
    have r3 := hf.1.i1
    have r4 := hf.1.i2
    have r5 := hf.1.s1
    have r6 := hf.1.s2
    clear hf
    generalize hg : w2.heap.size = g at *
    go_wp2_with fail
    go_at_call 15
    have ht := time_ok _ _ _ _ _ _ k H1.out (by rw [H2.out]; exact ht.2) _ (hT3.setCell (p := ⟨g, 6, none⟩) (by have := hT.size; show 0 < g; omega) (.int .i64 k))
    rw [H2.out] at ht
    refine ht.mono ?_
    rintro e w4 ⟨rfl, hb4⟩
    have gl' : w.heap.size ≤ w3.heap.size := B3.out.size
    have sz : (w3.setCell ⟨g, 6, none⟩ (.int .i64 k)).heap.size = w3.heap.size := by simp
    have D4 := (DatAt.set6 ⟨x0, x1, x2, x3, x4, x5, x6, xl, xf⟩ k).keep hb4
    have B4 := hide ((B3.out.setCell (p := ⟨g, 6, none⟩) gl (.int .i64 k)).trans (hb4.mono (by rw [sz]; exact gl')))
    clear hb4 x0 x1 x2 x3 x4 x5 x6 xl xf6 xf sz
    obtain ⟨x0, x1, x2, x3, x4, x5, x6, xl, xf⟩ := D4
    go_wp2_with fail
    go_ret
    exact ⟨rfl, B4.out⟩
  · refine (at_out t (by omega) _).mono ?_
    rintro e w2 ⟨rfl, hb2⟩
    have B2 := hide (hb1.trans (hb2.mono hb1.size))
    clear hb1 hb2
    go_wp2_with (go_at_call 13; refine (within_no _ _ _ (by omega) _).mono ?_; rintro e w' ⟨rfl, rfl⟩)
    go_ret
    exact ⟨rfl, B2.out.alloc B2.out.size _⟩

namespace There
set_option maxRecDepth 100000 in
theorem lifted (os : Os) (started : os.Started) (H : Type) (enc : TypeId × Value → H) :
    ReturnsInHanded {} Tryd.checked os 5 .any (fun w args => (Rows.calendarThereSpec.pre enc Tryd.prog Tryd.f5 [] false w args ∧ laidMetH Tryd.prog laid1 w) ∧ sizedMet enc Tryd.prog Tryd.f5 (OpenSpec.ofChange Rows.calendarThereSpec) false w args)
      (Rows.calendarThereSpec.post enc Tryd.prog Tryd.f5 false true false false) := by
  refine returnsInHanded_of_change_and (C := Tryd.checked) (X := fun w _ => laidMetH Tryd.prog laid1 w) (fun _ _ _ hh h => h.of_heap hh) own started (by kernel_rfl) Tryd.func5
    (ChangeSpec.witness_shaped (enc := enc) (C := Tryd.checked) (os := os) (X := fun w _ => laidMetH Tryd.prog laid1 w) false (World.doorLaid Tryd.prog 400 os) #[.int .i64 0, .int .i64 0] 8 rfl (World.shaped_of_RefB (by kernel_rfl) (by kernel_rfl)) (by kernel_rfl) (by kernel_rfl) (by kernel_rfl) (door_met os _)) ?_
  intro W base args ds gs before hval0 hW _ _ hL _
  have hval : ∀ (j : Nat) t v, Tryd.f5.params[j]? = some t → args[j]? = some v → Value.okWide Tryd.prog W .any base t v := hval0
  have hW' := hW
  obtain ⟨p, q, hA0, hV, rfl, hfz, hnd⟩ := hW
  have hA : DataW.TrodAll enc Tryd.prog W 0 (fun _ => true) true Tryd.f5.params.toList args.toList ds p := hA0
  rw [Tryd.params5] at hA hval
  obtain ⟨v0, v1, d0, d1, p0, p1, rfl, rfl, rfl, h0, h1⟩ := trodAll_two hA
  obtain ⟨rfl, rfl⟩ := trodVars_none hV
  obtain ⟨a0, rfl, rfl, rfl, wf0⟩ := open_int Tryd.underlying3 (hval 0 3 v0 rfl rfl) h0
  have bd0 := bounds_i64 wf0
  obtain ⟨a1, rfl, rfl, rfl, wf1⟩ := open_int Tryd.underlying3 (hval 1 3 v1 rfl rfl) h1
  have bd1 := bounds_i64 wf1
  clear hA0 hval0
  refine (there_walk a0 a1 W (tab_of_laid hL)).mono fun e W' ⟨he, bel⟩ => ?_
  subst he
  exact ⟨_, rfl, _, _, _, [], _, [], hW', trodAll_mk1 (shut_bool Tryd.underlying4 _), trodAll_mk2 (shut_int Tryd.underlying3 wf0) (shut_int Tryd.underlying3 wf1), rfl, bel.frame _, fun h => by cases h⟩

theorem row : Rows.CalendarThereSaid :=
  OpenClaim.holds_of_wide 5 Tryd.f5 rfl rfl rfl rfl rfl rfl rfl ⟨rfl, rfl, rfl, rfl, rfl⟩ rfl rfl rfl rfl rfl (by kernel_rfl) Tryd.func5 (by kernel_rfl)
    (of_decide_eq_true (by kernel_rfl)) (by unfold Func.isWrapper; first | (rw [if_pos (by decide +kernel)]; kernel_rfl) | (rw [if_neg (by decide +kernel)]; exact ⟨rfl, rfl⟩))
    (fun os started H enc _ => lifted os started H enc)
end There

theorem calendarThere_holds : Rows.CalendarThereCardSaid :=
  Claim7.holds_tied_plain_at .later [] [.data] true (true, "cad9ec3becb05483b7260e15eecd4e18993932f9ad14cc2e998860af4b19dbcf") false
    There.row (fun _ h => by cases h) (by kernel_rfl) (fun _ h => by cases h) calendarThere_row_tie rfl ⟨rfl, rfl⟩ (by kernel_rfl) rfl
    (fun f fn hf hfn => by
      obtain rfl : f = 5 := Option.some.inj ((show Tryd.prog.funcNamed "escapement/escapementlaw03.CalendarThere" = some 5 by kernel_rfl).symm.trans hf) |>.symm
      obtain rfl : fn = Tryd.f5 := (Option.some.inj (Tryd.func5.symm.trans hfn)).symm
      exact ⟨by kernel_rfl, fun j t ht => by
        rw [Tryd.params5] at ht
        have hm : t ∈ [3] := by simpa using Array.mem_of_getElem? ht
        have hall : ([3].all fun u => !Tryd.prog.wantsStandIn u) = true := by kernel_rfl
        exact (show Tryd.prog.wantsStandIn t = false by simpa using List.all_eq_true.1 hall t hm)⟩)
    (by kernel_rfl)
#print axioms calendarThere_holds
end Go.Proofs.YtgnploeobgheaaaDoor
