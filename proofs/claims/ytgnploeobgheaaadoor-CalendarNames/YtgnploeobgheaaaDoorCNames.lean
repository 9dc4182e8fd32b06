/- CalendarNames. -/
import Derived.Test.YtgnploeobgheaaaDoorCRef
namespace Go.Proofs.YtgnploeobgheaaaDoor
open Go.ChangeShapes Go.WideShapes Go.ChangeAt Go.RowKit

theorem at_last (w : World) (hT : Tab w) :
    Calls Tryd.prog 9 #[.int .i64 4611686018427387904] w fun e w' => (∃ m d h i s k : Int, e = .returned (.tuple #[dat 146138514283 m d h i s k, .int .i64 0])) ∧ Below w.heap.size w w' := by
  refine (at_in _ (by decide) (by decide) w hT).mono ?_
  rintro e w' ⟨rfl, hb⟩
  exact ⟨⟨K.M 4611686018427387904, K.D 4611686018427387904, K.hh 4611686018427387904, K.mm 4611686018427387904, K.ss 4611686018427387904, K.W 4611686018427387904, by rw [datOf, K.y_of_last]⟩, hb⟩

set_option maxHeartbeats 1000000 in
theorem names_walk (w : World) (hT : Tab w) :
    Calls Tryd.prog 3 #[] w fun e w' => e = .returned (.bool true) ∧ Below w.heap.size w w' := by
  go_enter Tryd.func3, Tryd.ntmps3
  go_wp2_with fail
  go_at_call 9
  refine (at_last _ hT).mono ?_
  rintro e w1 ⟨⟨m, d, h, i, s, k, rfl⟩, hb1⟩
  have hT1 := hT.keep hb1
  have B1 := hide hb1
  clear hb1
  go_wp2_with fail
  go_at_call 10
  refine (lastYear_any _).mono ?_
  rintro e w2 ⟨rfl, hb2⟩
  have D2 := (DatAt.new _ _ _ _ _ _ _ _ _).keep hb2
  have hT2 := (hT1.alloc _).keep hb2
  have B2 := hide (Below.after (Below.put B1.out _) hb2)
  clear hb2 B1
  generalize hg1 : w1.heap.size = g1 at *
  obtain ⟨x0, x1, x2, x3, x4, x5, x6, xl, xf⟩ := D2
  go_wp2_with fail
  go_at_call 11
  refine (known_any _ hT2).mono ?_
  rintro e w3 ⟨rfl, hb3⟩
  have B3 := hide (Below.after B2.out hb3)
  clear hb3 B2
  go_wp2_with fail
  go_ret
  exact ⟨rfl, B3.out⟩
namespace Names
set_option maxRecDepth 100000 in
theorem lifted (os : Os) (started : os.Started) (H : Type) (enc : TypeId × Value → H) :
    ReturnsInHanded {} Tryd.checked os 3 .any (fun w args => (Rows.calendarNamesSpec.pre enc Tryd.prog Tryd.f3 [] false w args ∧ laidMetH Tryd.prog laid1 w) ∧ sizedMet enc Tryd.prog Tryd.f3 (OpenSpec.ofChange Rows.calendarNamesSpec) false w args)
      (Rows.calendarNamesSpec.post enc Tryd.prog Tryd.f3 false true false false) := by
  refine returnsInHanded_of_change_and (C := Tryd.checked) (X := fun w _ => laidMetH Tryd.prog laid1 w) (fun _ _ _ hh h => h.of_heap hh) own started (by kernel_rfl) Tryd.func3
    (ChangeSpec.witness_shaped (enc := enc) (C := Tryd.checked) (os := os) (X := fun w _ => laidMetH Tryd.prog laid1 w) false (World.doorLaid Tryd.prog 400 os) #[] 8 rfl (World.shaped_of_RefB (by kernel_rfl) (by kernel_rfl)) (by kernel_rfl) (by kernel_rfl) (by kernel_rfl) (door_met os _)) ?_
  intro W base args ds gs before hval0 hW _ _ hL _
  have hval : ∀ (j : Nat) t v, Tryd.f3.params[j]? = some t → args[j]? = some v → Value.okWide Tryd.prog W .any base t v := hval0
  have hW' := hW
  obtain ⟨p, q, hA0, hV, rfl, hfz, hnd⟩ := hW
  have hA : DataW.TrodAll enc Tryd.prog W 0 (fun _ => true) true Tryd.f3.params.toList args.toList ds p := hA0
  rw [Tryd.params3] at hA hval
  obtain ⟨rfl, rfl, rfl⟩ := trodAll_none hA
  obtain ⟨rfl, rfl⟩ := trodVars_none hV
  clear hA0 hval0
  refine (names_walk  W (tab_of_laid hL)).mono fun e W' ⟨he, bel⟩ => ?_
  subst he
  exact ⟨_, rfl, _, _, _, [], _, [], hW', trodAll_mk1 (shut_bool Tryd.underlying4 _), trodAll_mk0 , rfl, bel.frame _, fun h => by cases h⟩

theorem row : Rows.CalendarNamesSaid :=
  OpenClaim.holds_of_wide 3 Tryd.f3 rfl rfl rfl rfl rfl rfl rfl ⟨rfl, rfl, rfl, rfl, rfl⟩ rfl rfl rfl rfl rfl (by kernel_rfl) Tryd.func3 (by kernel_rfl)
    (of_decide_eq_true (by kernel_rfl)) (by unfold Func.isWrapper; first | (rw [if_pos (by decide +kernel)]; kernel_rfl) | (rw [if_neg (by decide +kernel)]; exact ⟨rfl, rfl⟩))
    (fun os started H enc _ => lifted os started H enc)
end Names

theorem calendarNames_holds : Rows.CalendarNamesCardSaid :=
  Claim7.holds_tied_plain_at .later [] [.data] true (true, "cad9ec3becb05483b7260e15eecd4e18993932f9ad14cc2e998860af4b19dbcf") false
    Names.row (fun _ h => by cases h) (by kernel_rfl) (fun _ h => by cases h) calendarNames_row_tie rfl ⟨rfl, rfl⟩ (by kernel_rfl) rfl
    (fun f fn hf hfn => by
      obtain rfl : f = 3 := Option.some.inj ((show Tryd.prog.funcNamed "escapement/escapementlaw03.CalendarNames" = some 3 by kernel_rfl).symm.trans hf) |>.symm
      obtain rfl : fn = Tryd.f3 := (Option.some.inj (Tryd.func3.symm.trans hfn)).symm
      exact ⟨by kernel_rfl, fun j t ht => by
        rw [Tryd.params3] at ht
        simp at ht⟩)
    (by kernel_rfl)
#print axioms calendarNames_holds
end Go.Proofs.YtgnploeobgheaaaDoor
