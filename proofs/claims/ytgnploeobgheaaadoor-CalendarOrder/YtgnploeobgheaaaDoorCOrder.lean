/- CalendarOrder. -/
import Derived.Test.YtgnploeobgheaaaDoorCAhead
namespace Go.Proofs.YtgnploeobgheaaaDoor
open Go.ChangeShapes Go.WideShapes Go.ChangeAt Go.RowKit

theorem ahead_of (a b : Int) (ha : 0 ≤ a) (hb : 0 ≤ b) : K.LtB (K.Y a) (K.M a) (K.D a) (K.hh a) (K.mm a) (K.ss a) (K.Y b) (K.M b) (K.D b) (K.hh b) (K.mm b) (K.ss b) = decide (a < b) := by
  have ka := K.forth a ha
  have kb := K.forth b hb
  have := K.lt_iff ka.1 kb.1
  rw [ka.2, kb.2] at this
  unfold K.LtB
  exact decide_eq_decide.2 this

set_option maxHeartbeats 1000000 in
theorem order_walk (a b : Int) (w : World) (hT : Tab w) :
    Calls Tryd.prog 7 #[.int .i64 a, .int .i64 b] w fun e w' => e = .returned (.bool true) ∧ Below w.heap.size w w' := by
  go_enter Tryd.func7, Tryd.ntmps7
  go_wp2_with fail
  go_at_call 11
  refine (known_any _ hT).mono ?_
  rintro e w1 ⟨rfl, hb1⟩
  have hT1 := hT.keep hb1
  have B1 := hide hb1
  clear hb1
  go_wp2_with fail
  go_at_call 13
  by_cases ha : 0 ≤ a ∧ a ≤ 4611686018427387904
  · refine (within_yes _ _ _ ha.1 ha.2 _).mono ?_
    rintro e w1 ⟨rfl, rfl⟩
    go_wp2_with fail
    go_at_call 13
    by_cases hb : 0 ≤ b ∧ b ≤ 4611686018427387904
    · refine (within_yes _ _ _ hb.1 hb.2 _).mono ?_
      rintro e w1 ⟨rfl, rfl⟩
      go_wp2_with fail
      go_at_call 9
      refine (at_in a ha.1 ha.2 _ hT1).mono ?_
      rintro e w2 ⟨rfl, hb2⟩
      have hT2 := hT1.keep hb2
      have B2 := hide (B1.out.trans (hb2.mono B1.out.size))
      clear hb2 B1
      go_wp2_with fail
      go_at_call 9
      refine (at_in b hb.1 hb.2 _ (hT2.alloc _)).mono ?_
      rintro e w3 ⟨rfl, hb3⟩
      have DA := (DatAt.new _ _ _ _ _ _ _ _ _).keep hb3
      have B3 := hide (Below.after (Below.put B2.out _) hb3)
      have hA := hide (fun w => (ahead_of a b ha.1 hb.1) ▸ ahead_any (K.Y a) (K.M a) (K.D a) (K.hh a) (K.mm a) (K.ss a) (K.W a) (K.Y b) (K.M b) (K.D b) (K.hh b) (K.mm b) (K.ss b) (K.W b) w)
      have hC := hide (fun w => (ahead_of b a hb.1 ha.1) ▸ ahead_any (K.Y b) (K.M b) (K.D b) (K.hh b) (K.mm b) (K.ss b) (K.W b) (K.Y a) (K.M a) (K.D a) (K.hh a) (K.mm a) (K.ss a) (K.W a) w)
      clear hb3 B2
      obtain ⟨x0, x1, x2, x3, x4, x5, x6, xl, _⟩ := id DA
      generalize hg : w2.heap.size = g at *
      go_wp2_with fail
      go_at_call 16
      refine (hA.out _).mono ?_
      rintro e w4 ⟨rfl, hb4⟩
      have DA4 := (DA.alloc _).keep hb4
      have DB4 := (DatAt.new _ _ _ _ _ _ _ _ _).keep hb4
      have B4 := hide (Below.after (Below.put B3.out _) hb4)
      clear hb4 B3 x0 x1 x2 x3 x4 x5 x6 xl DA hA
      generalize hg3 : w3.heap.size = g3 at *
      obtain ⟨x0, x1, x2, x3, x4, x5, x6, xl, _⟩ := DA4
      obtain ⟨z0, z1, z2, z3, z4, z5, z6, zl, _⟩ := DB4
      go_wp2_with fail
      go_at_call 16
      refine (hC.out _).mono ?_
      rintro e w5 ⟨rfl, hb5⟩
      have B5 := hide (Below.after B4.out hb5)
      clear hb5 B4
      go_wp2_with fail
      go_ret
      exact ⟨rfl, B5.out⟩
    · refine (within_no _ _ _ (by omega) _).mono ?_
      rintro e w1 ⟨rfl, rfl⟩
      go_wp2_with fail
      go_ret
      exact ⟨rfl, B1.out⟩
  · refine (within_no _ _ _ (by omega) _).mono ?_
    rintro e w1 ⟨rfl, rfl⟩
    go_wp2_with fail
    go_ret
    exact ⟨rfl, B1.out⟩
namespace Order
set_option maxRecDepth 100000 in
theorem lifted (os : Os) (started : os.Started) (H : Type) (enc : TypeId × Value → H) :
    ReturnsInHanded {} Tryd.checked os 7 .any (fun w args => (Rows.calendarOrderSpec.pre enc Tryd.prog Tryd.f7 [] false w args ∧ laidMetH Tryd.prog laid1 w) ∧ sizedMet enc Tryd.prog Tryd.f7 (OpenSpec.ofChange Rows.calendarOrderSpec) false w args)
      (Rows.calendarOrderSpec.post enc Tryd.prog Tryd.f7 false true false false) := by
  refine returnsInHanded_of_change_and (C := Tryd.checked) (X := fun w _ => laidMetH Tryd.prog laid1 w) (fun _ _ _ hh h => h.of_heap hh) own started (by kernel_rfl) Tryd.func7
    (ChangeSpec.witness_shaped (enc := enc) (C := Tryd.checked) (os := os) (X := fun w _ => laidMetH Tryd.prog laid1 w) false (World.doorLaid Tryd.prog 400 os) #[.int .i64 0, .int .i64 0] 8 rfl (World.shaped_of_RefB (by kernel_rfl) (by kernel_rfl)) (by kernel_rfl) (by kernel_rfl) (by kernel_rfl) (door_met os _)) ?_
  intro W base args ds gs before hval0 hW _ _ hL _
  have hval : ∀ (j : Nat) t v, Tryd.f7.params[j]? = some t → args[j]? = some v → Value.okWide Tryd.prog W .any base t v := hval0
  have hW' := hW
  obtain ⟨p, q, hA0, hV, rfl, hfz, hnd⟩ := hW
  have hA : DataW.TrodAll enc Tryd.prog W 0 (fun _ => true) true Tryd.f7.params.toList args.toList ds p := hA0
  rw [Tryd.params7] at hA hval
  obtain ⟨v0, v1, d0, d1, p0, p1, rfl, rfl, rfl, h0, h1⟩ := trodAll_two hA
  obtain ⟨rfl, rfl⟩ := trodVars_none hV
  obtain ⟨a0, rfl, rfl, rfl, wf0⟩ := open_int Tryd.underlying3 (hval 0 3 v0 rfl rfl) h0
  have bd0 := bounds_i64 wf0
  obtain ⟨a1, rfl, rfl, rfl, wf1⟩ := open_int Tryd.underlying3 (hval 1 3 v1 rfl rfl) h1
  have bd1 := bounds_i64 wf1
  clear hA0 hval0
  refine (order_walk a0 a1 W (tab_of_laid hL)).mono fun e W' ⟨he, bel⟩ => ?_
  subst he
  exact ⟨_, rfl, _, _, _, [], _, [], hW', trodAll_mk1 (shut_bool Tryd.underlying4 _), trodAll_mk2 (shut_int Tryd.underlying3 wf0) (shut_int Tryd.underlying3 wf1), rfl, bel.frame _, fun h => by cases h⟩

theorem row : Rows.CalendarOrderSaid :=
  OpenClaim.holds_of_wide 7 Tryd.f7 rfl rfl rfl rfl rfl rfl rfl ⟨rfl, rfl, rfl, rfl, rfl⟩ rfl rfl rfl rfl rfl (by kernel_rfl) Tryd.func7 (by kernel_rfl)
    (of_decide_eq_true (by kernel_rfl)) (by unfold Func.isWrapper; first | (rw [if_pos (by decide +kernel)]; kernel_rfl) | (rw [if_neg (by decide +kernel)]; exact ⟨rfl, rfl⟩))
    (fun os started H enc _ => lifted os started H enc)
end Order

theorem calendarOrder_holds : Rows.CalendarOrderCardSaid :=
  Claim7.holds_tied_plain_at .later [] [.data] true (true, "cad9ec3becb05483b7260e15eecd4e18993932f9ad14cc2e998860af4b19dbcf") false
    Order.row (fun _ h => by cases h) (by kernel_rfl) (fun _ h => by cases h) calendarOrder_row_tie rfl ⟨rfl, rfl⟩ (by kernel_rfl) rfl
    (fun f fn hf hfn => by
      obtain rfl : f = 7 := Option.some.inj ((show Tryd.prog.funcNamed "escapement/escapementlaw03.CalendarOrder" = some 7 by kernel_rfl).symm.trans hf) |>.symm
      obtain rfl : fn = Tryd.f7 := (Option.some.inj (Tryd.func7.symm.trans hfn)).symm
      exact ⟨by kernel_rfl, fun j t ht => by
        rw [Tryd.params7] at ht
        have hm : t ∈ [3] := by simpa using Array.mem_of_getElem? ht
        have hall : ([3].all fun u => !Tryd.prog.wantsStandIn u) = true := by kernel_rfl
        exact (show Tryd.prog.wantsStandIn t = false by simpa using List.all_eq_true.1 hall t hm)⟩)
    (by kernel_rfl)
#print axioms calendarOrder_holds
end Go.Proofs.YtgnploeobgheaaaDoor
