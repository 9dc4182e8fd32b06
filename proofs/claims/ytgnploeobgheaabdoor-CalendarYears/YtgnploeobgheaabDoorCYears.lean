/- CalendarYears. -/
import Derived.Test.YtgnploeobgheaabDoorCLift
namespace Go.Proofs.YtgnploeobgheaabDoor
open Go.ChangeShapes Go.WideShapes Go.ChangeAt Go.RowKit

theorem ret_bool {b : Bool} (h : b = true) : Ending.returned (.bool b) = .returned (.bool true) := by rw [h]

theorem time_new (y : Int) (h0 : 1970 ≤ y) (h1 : y ≤ 146138514283) (w : World) (hT : Tab w) :
    Calls Tryd.prog 8 #[dat y 1 1 0 0 0 0] w fun e w' => e = .returned (.tuple #[.int .i64 (K.ny y * 86400), .int .i64 0]) ∧ Below w.heap.size w w' := by
  have e : K.secs y 1 1 0 0 0 = K.ny y * 86400 := by unfold K.secs; rw [K.cum_one]; omega
  have hd := K.dim_pos y 1
  have hm := K.ny_mono h1
  have hv : K.ny 146138514283 * 86400 ≤ 4611686018427387904 := by decide
  have := time_ok y 1 1 0 0 0 0 ⟨h0, by decide, by decide, by decide, by omega, by decide, by decide, by decide, by decide, by decide, by decide⟩ (by rw [e]; omega) w hT
  rw [e] at this
  exact this

theorem at_last (w : World) (hT : Tab w) :
    Calls Tryd.prog 7 #[.int .i64 4611686018427387904] w fun e w' => (∃ m d h i s k : Int, e = .returned (.tuple #[dat 146138514283 m d h i s k, .int .i64 0])) ∧ Below w.heap.size w w' := by
  refine (at_in _ (by decide) (by decide) w hT).mono ?_
  rintro e w' ⟨rfl, hb⟩
  exact ⟨⟨K.M 4611686018427387904, K.D 4611686018427387904, K.hh 4611686018427387904, K.mm 4611686018427387904, K.ss 4611686018427387904, K.W 4611686018427387904, by rw [datOf, K.y_of_last]⟩, hb⟩

set_option maxHeartbeats 2000000 in
theorem years_out (y x z d : Int) (hy : y < 1970 ∨ 146138514283 ≤ y) (w : World) (hT : Tab w)
    (H1 : ∀ w, Tab w → Calls Tryd.prog 8 #[dat y 1 1 0 0 0 0] w fun e w' => e = .returned (.tuple #[.int .i64 x, .int .i64 31]) ∧ Below w.heap.size w w')
    (H2 : ∀ w, Tab w → Calls Tryd.prog 8 #[dat (wrap64 (y + 1)) 1 1 0 0 0 0] w fun e w' => e = .returned (.tuple #[.int .i64 z, .int .i64 d]) ∧ Below w.heap.size w w') :
    Calls Tryd.prog 4 #[.int .i64 y] w fun e w' => e = .returned (.bool true) ∧ Below w.heap.size w w' := by
  have K1 := hide H1
  have K2 := hide H2
  have HY := hide hy
  clear H1 H2 hy
  go_enter Tryd.func4, Tryd.ntmps4
  go_wp2_with fail
  go_at_call 5
  refine (known_any _ hT).mono ?_
  rintro e w1 ⟨rfl, hb1⟩
  have hT1 := hT.keep hb1
  have B1 := hide hb1
  clear hb1
  go_wp2_with fail
  go_at_call 8
  refine (K1.out _ hT1).mono ?_
  rintro e w2 ⟨rfl, hb2⟩
  have hT2 := hT1.keep hb2
  have B2 := hide (Below.after B1.out hb2)
  clear hb2 B1
  go_wp2_with fail
  go_at_call 8
  refine (K2.out _ hT2).mono ?_
  rintro e w3 ⟨rfl, hb3⟩
  have hT3 := hT2.keep hb3
  have B3 := hide (Below.after B2.out hb3)
  clear hb3 B2
  go_wp2_with fail
  go_at_call 7
  refine (at_last _ hT3).mono ?_
  rintro e w4 ⟨⟨m', d', h', i', s', k', rfl⟩, hb4⟩
  have B4 := hide (Below.after B3.out hb4)
  clear hb4 B3
  by_cases hl : y < 1970
  · go_wp2_with fail
    go_ret
    exact ⟨rfl, Below.put B4.out _⟩
  · have hl' : 146138514283 ≤ y := by have := HY.out; omega
    go_wp2_with fail
    go_ret
    exact ⟨rfl, Below.put B4.out _⟩

set_option maxHeartbeats 2000000 in
theorem years_out' (y x z : Int) (hy : y < 1970 ∨ 146138514283 ≤ y) (w : World) (hT : Tab w)
    (H1 : ∀ w, Tab w → Calls Tryd.prog 8 #[dat y 1 1 0 0 0 0] w fun e w' => e = .returned (.tuple #[.int .i64 x, .int .i64 0]) ∧ Below w.heap.size w w')
    (H2 : ∀ w, Tab w → Calls Tryd.prog 8 #[dat (wrap64 (y + 1)) 1 1 0 0 0 0] w fun e w' => e = .returned (.tuple #[.int .i64 z, .int .i64 31]) ∧ Below w.heap.size w w') :
    Calls Tryd.prog 4 #[.int .i64 y] w fun e w' => e = .returned (.bool true) ∧ Below w.heap.size w w' := by
  have K1 := hide H1
  have K2 := hide H2
  have HY := hide hy
  clear H1 H2 hy
  go_enter Tryd.func4, Tryd.ntmps4
  go_wp2_with fail
  go_at_call 5
  refine (known_any _ hT).mono ?_
  rintro e w1 ⟨rfl, hb1⟩
  have hT1 := hT.keep hb1
  have B1 := hide hb1
  clear hb1
  go_wp2_with fail
  go_at_call 8
  refine (K1.out _ hT1).mono ?_
  rintro e w2 ⟨rfl, hb2⟩
  have hT2 := hT1.keep hb2
  have B2 := hide (Below.after B1.out hb2)
  clear hb2 B1
  go_wp2_with fail
  go_at_call 8
  refine (K2.out _ hT2).mono ?_
  rintro e w3 ⟨rfl, hb3⟩
  have hT3 := hT2.keep hb3
  have B3 := hide (Below.after B2.out hb3)
  clear hb3 B2
  go_wp2_with fail
  go_at_call 7
  refine (at_last _ hT3).mono ?_
  rintro e w4 ⟨⟨m', d', h', i', s', k', rfl⟩, hb4⟩
  have B4 := hide (Below.after B3.out hb4)
  clear hb4 B3
  by_cases hl : y < 1970
  · go_wp2_with fail
    go_ret
    exact ⟨rfl, Below.put B4.out _⟩
  · have hl' : 146138514283 ≤ y := by have := HY.out; omega
    go_wp2_with fail
    go_ret
    exact ⟨rfl, Below.put B4.out _⟩


set_option maxHeartbeats 2000000 in
theorem years_in (y : Int) (y0 : 1970 ≤ y) (y1 : y ≤ 146138514282) (w : World) (hT : Tab w) :
    Calls Tryd.prog 4 #[.int .i64 y] w fun e w' => e = .returned (.bool true) ∧ Below w.heap.size w w' := by
  have hn := K.ny_le y y0
  have hn' := K.ny_le (y + 1) (by omega)
  have hl := K.len_cases y
  have HS := hide (K.ny_succ y)
  have HE := hide (K.cum_end y)
  go_enter Tryd.func4, Tryd.ntmps4
  go_wp2_with fail
  go_at_call 5
  refine (known_any _ hT).mono ?_
  rintro e w1 ⟨rfl, hb1⟩
  have hT1 := hT.keep hb1
  have B1 := hide hb1
  clear hb1
  go_wp2_with fail
  go_at_call 8
  refine (time_new y y0 (by omega) _ hT1).mono ?_
  rintro e w2 ⟨rfl, hb2⟩
  have hT2 := hT1.keep hb2
  have B2 := hide (Below.after B1.out hb2)
  clear hb2 B1
  go_wp2_with fail
  go_at_call 8
  refine (time_new (y + 1) (by omega) (by omega) _ hT2).mono ?_
  rintro e w3 ⟨rfl, hb3⟩
  have hT3 := hT2.keep hb3
  have B3 := hide (Below.after B2.out hb3)
  clear hb3 B2
  go_wp2_with fail
  go_loop [9, 10] (fun al mv => ∃ q : Int, 1 ≤ q ∧ q ≤ 13 ∧ mv = .int .i64 q ∧ al = .int .i64 (K.cum y q)) (fun _ mv => (14 - intOf mv).toNat)
  case atStart => exact ⟨1, by omega, by omega, rfl, by rw [K.cum_one]⟩
  case round =>
    obtain ⟨q, q1, q2, rfl, rfl⟩ := hrel
    have hcm := K.cum_mono y q 13 (by omega) (by omega) (by omega)
    have hcp := K.cum_mono y 1 q (by omega) (by omega) (by omega)
    rw [K.cum_one] at hcp
    rw [HE.out] at hcm
    by_cases hlt : q ≤ 12
    · have HC := hide (K.cum_succ y q q1 hlt)
      have hd := K.dim_pos y q
      go_wp2_with (go_at_call 9; refine (days_in _ _ (by omega) (by omega) (by omega) (by omega) _ hT3).mono ?_; rintro e w' ⟨rfl, rfl⟩)
      have hs := HC.out
      exact ⟨⟨q + 1, by omega, by omega, rfl, by rw [hs]⟩, by simp [intOf]; omega⟩
    · obtain rfl : q = 13 := by omega
      rw [HE.out]
      by_cases hlp : K.lp y
      · have hv : K.len y = 366 := K.len_pos hlp
        have hs := HS.out
        rw [hv] at hs ⊢
        have hdec := K.lpB_true hlp
        go_wp2_with (go_at_call 10; refine (leap_any _ _).mono ?_; rintro e w' ⟨rfl, rfl⟩; rw [hdec])
        go_ret
        exact ⟨ret_bool (show ((K.ny y + 366) * 86400 - K.ny y * 86400 == 31622400) = true by rw [beq_iff_eq]; omega), B3.out⟩
      · have hv : K.len y = 365 := K.len_neg hlp
        have hs := HS.out
        rw [hv] at hs ⊢
        have hdec := K.lpB_false hlp
        go_wp2_with (go_at_call 10; refine (leap_any _ _).mono ?_; rintro e w' ⟨rfl, rfl⟩; rw [hdec])
        go_ret
        exact ⟨ret_bool (show ((K.ny y + 365) * 86400 - K.ny y * 86400 == 31536000) = true by rw [beq_iff_eq]; omega), B3.out⟩

theorem years_walk (y : Int) (w : World) (hT : Tab w) (h1 : -9223372036854775808 ≤ y) (h2 : y ≤ 9223372036854775807) :
    Calls Tryd.prog 4 #[.int .i64 y] w fun e w' => e = .returned (.bool true) ∧ Below w.heap.size w w' := by
  by_cases a1 : y < 1969
  · have e : wrap64 (y + 1) = y + 1 := IntWalk.wrap64_in _ ⟨by omega, by omega⟩
    exact years_out y _ _ _ (by omega) w hT (fun w _ => time_no _ _ _ _ _ _ _ (by omega) w) (fun w _ => time_no _ _ _ _ _ _ _ (by omega) w)
  · by_cases a2 : y = 1969
    · subst a2
      have e : wrap64 (1969 + 1) = 1970 := IntWalk.wrap64_in _ ⟨by omega, by omega⟩
      exact years_out 1969 _ _ _ (by omega) w hT (fun w _ => time_no _ _ _ _ _ _ _ (by omega) w) (fun w hT => by rw [e]; exact time_new 1970 (by omega) (by omega) w hT)
    · by_cases a3 : y ≤ 146138514282
      · exact years_in y (by omega) a3 w hT
      · by_cases a4 : y = 146138514283
        · have e : wrap64 (y + 1) = y + 1 := IntWalk.wrap64_in _ ⟨by omega, by omega⟩
          exact years_out' y _ _ (by omega) w hT (fun w hT => time_new y (by omega) (by omega) w hT) (fun w _ => time_no _ _ _ _ _ _ _ (by omega) w)
        · refine years_out y _ _ _ (by omega) w hT (fun w _ => time_no _ _ _ _ _ _ _ (by omega) w) (fun w _ => time_no _ _ _ _ _ _ _ ?_ w)
          unfold wrap64
          omega
namespace Years
set_option maxRecDepth 100000 in
theorem lifted (os : Os) (started : os.Started) (H : Type) (enc : TypeId × Value → H) :
    ReturnsInHanded {} Tryd.checked os 4 .any (fun w args => (Rows.calendarYearsSpec.pre enc Tryd.prog Tryd.f4 [] false w args ∧ laidMetH Tryd.prog laid1 w) ∧ sizedMet enc Tryd.prog Tryd.f4 (OpenSpec.ofChange Rows.calendarYearsSpec) false w args)
      (Rows.calendarYearsSpec.post enc Tryd.prog Tryd.f4 false true false false) := by
  refine returnsInHanded_of_change_and (C := Tryd.checked) (X := fun w _ => laidMetH Tryd.prog laid1 w) (fun _ _ _ hh h => h.of_heap hh) own started (by kernel_rfl) Tryd.func4
    (ChangeSpec.witness_shaped (enc := enc) (C := Tryd.checked) (os := os) (X := fun w _ => laidMetH Tryd.prog laid1 w) false (World.doorLaid Tryd.prog 400 os) #[.int .i64 0] 8 rfl (World.shaped_of_RefB (by kernel_rfl) (by kernel_rfl)) (by kernel_rfl) (by kernel_rfl) (by kernel_rfl) (door_met os _)) ?_
  intro W base args ds gs before hval0 hW _ _ hL _
  have hval : ∀ (j : Nat) t v, Tryd.f4.params[j]? = some t → args[j]? = some v → Value.okWide Tryd.prog W .any base t v := hval0
  have hW' := hW
  obtain ⟨p, q, hA0, hV, rfl, hfz, hnd⟩ := hW
  have hA : DataW.TrodAll enc Tryd.prog W 0 (fun _ => true) true Tryd.f4.params.toList args.toList ds p := hA0
  rw [Tryd.params4] at hA hval
  obtain ⟨v0, d0, rfl, rfl, h0⟩ := trodAll_one hA
  obtain ⟨rfl, rfl⟩ := trodVars_none hV
  obtain ⟨a0, rfl, rfl, rfl, wf0⟩ := open_int Tryd.underlying3 (hval 0 3 v0 rfl rfl) h0
  have bd0 := bounds_i64 wf0
  clear hA0 hval0
  refine (years_walk a0 W (tab_of_laid hL) (by omega) (by omega)).mono fun e W' ⟨he, bel⟩ => ?_
  subst he
  exact ⟨_, rfl, _, _, _, [], _, [], hW', trodAll_mk1 (shut_bool Tryd.underlying4 _), trodAll_mk1 (shut_int Tryd.underlying3 wf0), rfl, bel.frame _, fun h => by cases h⟩

theorem row : Rows.CalendarYearsSaid :=
  OpenClaim.holds_of_wide 4 Tryd.f4 rfl rfl rfl rfl rfl rfl rfl ⟨rfl, rfl, rfl, rfl, rfl⟩ rfl rfl rfl rfl rfl (by kernel_rfl) Tryd.func4 (by kernel_rfl)
    (of_decide_eq_true (by kernel_rfl)) (by unfold Func.isWrapper; first | (rw [if_pos (by decide +kernel)]; kernel_rfl) | (rw [if_neg (by decide +kernel)]; exact ⟨rfl, rfl⟩))
    (fun os started H enc _ => lifted os started H enc)
end Years

theorem calendarYears_holds : Rows.CalendarYearsCardSaid :=
  Claim7.holds_tied_plain_at .later [] [.data] true (true, "c4dd1d94f2540cadb057e1f6fd03f51b289b76310077dc8f0f36bad669ba0ce5") false
    Years.row (fun _ h => by cases h) (by kernel_rfl) (fun _ h => by cases h) calendarYears_row_tie rfl ⟨rfl, rfl⟩ (by kernel_rfl) rfl
    (fun f fn hf hfn => by
      obtain rfl : f = 4 := Option.some.inj ((show Tryd.prog.funcNamed "escapement/escapementlaw03.CalendarYears" = some 4 by kernel_rfl).symm.trans hf) |>.symm
      obtain rfl : fn = Tryd.f4 := (Option.some.inj (Tryd.func4.symm.trans hfn)).symm
      exact ⟨by kernel_rfl, fun j t ht => by
        rw [Tryd.params4] at ht
        have hm : t ∈ [3] := by simpa using Array.mem_of_getElem? ht
        have hall : ([3].all fun u => !Tryd.prog.wantsStandIn u) = true := by kernel_rfl
        exact (show Tryd.prog.wantsStandIn t = false by simpa using List.all_eq_true.1 hall t hm)⟩)
    (by kernel_rfl)
#print axioms calendarYears_holds
end Go.Proofs.YtgnploeobgheaabDoor
