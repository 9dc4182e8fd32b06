/- CalendarTomorrow. -/
import Derived.Test.YtgnploeobgheaaaDoorCLift
namespace Go.Proofs.YtgnploeobgheaaaDoor
open Go.ChangeShapes Go.WideShapes Go.ChangeAt Go.RowKit

namespace K
/-- The date a day later: its year, its month, its day. -/
theorem next_day (t : Int) (h : 0 ≤ t) :
    Y (t + 86400) = (if D t = dim (Y t) (M t) ∧ M t = 12 then Y t + 1 else Y t) ∧
    M (t + 86400) = (if D t = dim (Y t) (M t) then (if M t = 12 then 1 else M t + 1) else M t) ∧
    D (t + 86400) = (if D t = dim (Y t) (M t) then 1 else D t + 1) ∧ hh (t + 86400) = hh t ∧ mm (t + 86400) = mm t ∧ ss (t + 86400) = ss t ∧ W (t + 86400) = (W t + 1) % 7 := by
  obtain ⟨k, hs⟩ := forth t h
  have hw : W (t + 86400) = (W t + 1) % 7 := by unfold W; omega
  generalize hY : Y t = y at *
  generalize hM : M t = m at *
  generalize hD : D t = d at *
  generalize hh t = a at *
  generalize mm t = b at *
  generalize ss t = c at *
  obtain ⟨y0, m1, m2, d1, d2, h1, h2, i1, i2, s1, s2⟩ := k
  have p1 := dim_pos (y + 1) 1
  have p2 := dim_pos y (m + 1)
  have p3 := cum_succ y m m1 m2
  have p4 := ny_succ y
  have p5 := cum_one (y + 1)
  have p6 := cum_end y
  by_cases e : d = dim y m
  · by_cases e2 : m = 12
    · subst e2
      obtain ⟨_, a1, a2, a3, a4, a5, a6⟩ := back (y := y + 1) (m := 1) (d := 1) (h := a) (i := b) (s := c) ⟨by omega, by omega, by omega, by omega, by omega, h1, h2, i1, i2, s1, s2⟩
      have q : secs (y + 1) 1 1 a b c = t + 86400 := by rw [← hs]; unfold secs; rw [show (12 : Int) + 1 = 13 from rfl] at p3; omega
      rw [q] at a1 a2 a3 a4 a5 a6
      exact ⟨by simp [e, a1], by simp [e, a2], by simp [e, a3], a4, a5, a6, hw⟩
    · obtain ⟨_, a1, a2, a3, a4, a5, a6⟩ := back (y := y) (m := m + 1) (d := 1) (h := a) (i := b) (s := c) ⟨by omega, by omega, by omega, by omega, by omega, h1, h2, i1, i2, s1, s2⟩
      have q : secs y (m + 1) 1 a b c = t + 86400 := by rw [← hs]; unfold secs; omega
      rw [q] at a1 a2 a3 a4 a5 a6
      exact ⟨by simp [e2, a1], by simp [e, e2, a2], by simp [e, a3], a4, a5, a6, hw⟩
  · obtain ⟨_, a1, a2, a3, a4, a5, a6⟩ := back (y := y) (m := m) (d := d + 1) (h := a) (i := b) (s := c) ⟨by omega, by omega, by omega, by omega, by omega, h1, h2, i1, i2, s1, s2⟩
    have q : secs y m (d + 1) a b c = t + 86400 := by rw [← hs]; unfold secs; omega
    rw [q] at a1 a2 a3 a4 a5 a6
    exact ⟨by simp [e, a1], by simp [e, a2], by simp [e, a3], a4, a5, a6, hw⟩

/-- A second later, within the minute. -/
theorem next_second (t : Int) (_h : 0 ≤ t) (hs : ss t < 59) : Y (t + 1) = Y t ∧ M (t + 1) = M t ∧ D (t + 1) = D t ∧ hh (t + 1) = hh t ∧ mm (t + 1) = mm t ∧ ss (t + 1) = ss t + 1 ∧ W (t + 1) = W t := by
  have q : (t + 1) / 86400 = t / 86400 := by unfold ss at hs; omega
  have y : Y (t + 1) = Y t := by unfold Y; rw [q]
  have m : M (t + 1) = M t := by unfold M; rw [y, q]
  refine ⟨y, m, by unfold D; rw [y, m, q], ?_, ?_, ?_, by unfold W; rw [q]⟩
  · unfold hh; unfold ss at hs; omega
  · unfold mm; unfold ss at hs; omega
  · unfold ss at *; omega
theorem next_minute (t : Int) (_h : 0 ≤ t) (hs : ss t = 59) : ss (t + 1) = 0 ∧ mm (t + 1) = (mm t + 1) % 60 ∧ ((0 < mm (t + 1) ∧ hh (t + 1) = hh t) ∨ (mm (t + 1) = 0 ∧ hh (t + 1) = (hh t + 1) % 24)) := by
  unfold ss mm hh at *
  omega
end K

set_option maxHeartbeats 1000000 in
theorem tomorrow_year (y d h i s k : Int) (y0 : 1970 ≤ y) (y1 : y ≤ 146138514283) (d1 : 1 ≤ d) (d2 : d ≤ 31) (k1 : 0 ≤ k) (k2 : k ≤ 6) (e : d = K.dim y 12) (w : World) (hT : Tab w) :
    Calls Tryd.prog 17 #[dat y 12 d h i s k, dat (y + 1) 1 1 h i s ((k + 1) % 7)] w fun e w' => e = .returned (.bool true) ∧ Below w.heap.size w w' := by
  have E := hide e
  clear e
  go_enter Tryd.func17, Tryd.ntmps17
  go_wp2_with fail
  go_at_call 22
  have hd := days_in y 12 y0 y1 (by decide) (by decide) _ ((hT.alloc (Obj.cells #[.int .i64 y, .int .i64 12, .int .i64 d, .int .i64 h, .int .i64 i, .int .i64 s, .int .i64 k] 23)).alloc (Obj.cells #[.int .i64 (y + 1), .int .i64 1, .int .i64 1, .int .i64 h, .int .i64 i, .int .i64 s, .int .i64 ((k + 1) % 7)] 23))
  rw [← E.out] at hd
  refine hd.mono ?_
  clear hd E
  rintro e w' ⟨rfl, rfl⟩
  go_wp2_with fail
  go_ret
  exact ⟨rfl, Below.put (Below.put (Below.put (Below.refl _ _) _) _) _⟩

set_option maxHeartbeats 1000000 in
theorem tomorrow_month (y m d h i s k : Int) (y0 : 1970 ≤ y) (y1 : y ≤ 146138514283) (m1 : 1 ≤ m) (m2 : m ≤ 12) (d1 : 1 ≤ d) (d2 : d ≤ 31) (k1 : 0 ≤ k) (k2 : k ≤ 6) (e : d = K.dim y m) (e2 : ¬ m = 12) (w : World) (hT : Tab w) :
    Calls Tryd.prog 17 #[dat y m d h i s k, dat y (m + 1) 1 h i s ((k + 1) % 7)] w fun e w' => e = .returned (.bool true) ∧ Below w.heap.size w w' := by
  go_enter Tryd.func17, Tryd.ntmps17
  go_wp2_with fail
  go_at_call 22
  refine (days_in _ _ y0 y1 m1 m2 _ ((hT.alloc _).alloc _)).mono ?_
  rintro e w' ⟨rfl, rfl⟩
  go_wp2_with fail
  go_ret
  exact ⟨rfl, Below.put (Below.put (Below.put (Below.refl _ _) _) _) _⟩

set_option maxHeartbeats 1000000 in
theorem tomorrow_day (y m d h i s k : Int) (y0 : 1970 ≤ y) (y1 : y ≤ 146138514283) (m1 : 1 ≤ m) (m2 : m ≤ 12) (d1 : 1 ≤ d) (d2 : d ≤ 31) (k1 : 0 ≤ k) (k2 : k ≤ 6) (e : ¬ d = K.dim y m) (w : World) (hT : Tab w) :
    Calls Tryd.prog 17 #[dat y m d h i s k, dat y m (d + 1) h i s ((k + 1) % 7)] w fun e w' => e = .returned (.bool true) ∧ Below w.heap.size w w' := by
  go_enter Tryd.func17, Tryd.ntmps17
  go_wp2_with fail
  go_at_call 22
  refine (days_in _ _ y0 y1 m1 m2 _ ((hT.alloc _).alloc _)).mono ?_
  rintro e w' ⟨rfl, rfl⟩
  go_wp2_with fail
  go_ret
  exact ⟨rfl, Below.put (Below.put (Below.put (Below.refl _ _) _) _) _⟩

theorem tomorrow_of (t : Int) (h0 : 0 ≤ t) (h1 : t + 86400 ≤ 4611686018427387904) (w : World) (hT : Tab w) :
    Calls Tryd.prog 17 #[datOf t, datOf (t + 86400)] w fun e w' => e = .returned (.bool true) ∧ Below w.heap.size w w' := by
  obtain ⟨a1, a2, a3, a4, a5, a6, a7⟩ := K.next_day t h0
  obtain ⟨⟨y0, m1, m2, d1, d2, _, _, _, _, _, _⟩, _⟩ := K.forth t h0
  have y1 := K.y_of_le h0 (show t ≤ 4611686018427387904 by omega)
  have hd := K.dim_pos (K.Y t) (K.M t)
  have k1 : 0 ≤ K.W t := by unfold K.W; omega
  have k2 : K.W t ≤ 6 := by unfold K.W; omega
  by_cases e : K.D t = K.dim (K.Y t) (K.M t)
  · by_cases e2 : K.M t = 12
    · rw [if_pos ⟨e, e2⟩] at a1
      rw [if_pos e, if_pos e2] at a2
      rw [if_pos e] at a3
      simp only [datOf, a1, a2, a3, a4, a5, a6, a7, e2]
      rw [e2] at e
      exact tomorrow_year _ _ _ _ _ _ y0 y1 d1 (by omega) k1 k2 e w hT
    · rw [if_neg (fun h => e2 h.2)] at a1
      rw [if_pos e, if_neg e2] at a2
      rw [if_pos e] at a3
      simp only [datOf, a1, a2, a3, a4, a5, a6, a7]
      exact tomorrow_month _ _ _ _ _ _ _ y0 y1 m1 m2 d1 (by omega) k1 k2 e e2 w hT
  · rw [if_neg (fun h => e h.1)] at a1
    rw [if_neg e] at a2
    rw [if_neg e] at a3
    simp only [datOf, a1, a2, a3, a4, a5, a6, a7]
    exact tomorrow_day _ _ _ _ _ _ _ y0 y1 m1 m2 d1 (by omega) k1 k2 e w hT

set_option maxHeartbeats 2000000 in
theorem tomorrow_walk (t : Int) (w : World) (hT : Tab w) :
    Calls Tryd.prog 8 #[.int .i64 t] w fun e w' => e = .returned (.bool true) ∧ Below w.heap.size w w' := by
  go_enter Tryd.func8, Tryd.ntmps8
  go_wp2_with fail
  go_at_call 11
  refine (known_any _ hT).mono ?_
  rintro e w1 ⟨rfl, hb1⟩
  have hT1 := hT.keep hb1
  have B1 := hide hb1
  clear hb1
  go_wp2_with fail
  go_at_call 13
  by_cases ht : 0 ≤ t ∧ t ≤ 4611686018427301504
  · refine (within_yes _ _ _ ht.1 ht.2 _).mono ?_
    rintro e w1 ⟨rfl, rfl⟩
    go_wp2_with fail
    go_at_call 9
    refine (at_in t ht.1 (by omega) _ hT1).mono ?_
    rintro e w2 ⟨rfl, hb2⟩
    have hT2 := hT1.keep hb2
    have B2 := hide (Below.after B1.out hb2)
    clear hb2 B1
    go_wp2_with fail
    go_at_call 9
    refine (at_in (t + 86400) (by omega) (by omega) _ (hT2.alloc _)).mono ?_
    rintro e w3 ⟨rfl, hb3⟩
    have hT3 := (hT2.alloc _).keep hb3
    have A3 := (DatAt.new _ _ _ _ _ _ _ _ _).keep hb3
    have B3 := hide (Below.after (Below.put B2.out _) hb3)
    have l2 := B2.out.size
    clear hb3 B2
    generalize hg2 : w2.heap.size = g2 at *
    go_wp2_with fail
    go_at_call 9
    refine (at_in (t + 1) (by omega) (by omega) _ (hT3.alloc _)).mono ?_
    rintro e w4 ⟨rfl, hb4⟩
    have hT4 := (hT3.alloc _).keep hb4
    have A4 := (A3.alloc _).keep hb4
    have C4 := (DatAt.new _ _ _ _ _ _ _ _ _).keep hb4
    have B4 := hide (Below.after (Below.put B3.out _) hb4)
    have l3 := A3.lt
    clear hb4 B3 A3
    generalize hg3 : w3.heap.size = g3 at *
    obtain ⟨x0, x1, x2, x3, x4, x5, x6, xl, _⟩ := id A4
    obtain ⟨z0, z1, z2, z3, z4, z5, z6, zl, _⟩ := id C4
    go_wp2_with fail
    go_at_call 17
    refine (tomorrow_of t ht.1 (by omega) _ (hT4.alloc _)).mono ?_
    rintro e w5 ⟨rfl, hb5⟩
    have A5 := (A4.alloc _).keep hb5
    have C5 := (DatAt.new _ _ _ _ _ _ _ _ _).keep hb5
    have B5 := hide (Below.after (Below.put B4.out _) hb5)
    have l4 := A4.lt
    clear hb5 B4 A4 C4 x0 x1 x2 x3 x4 x5 x6 xl z0 z1 z2 z3 z4 z5 z6 zl
    generalize hg4 : w4.heap.size = g4 at *
    obtain ⟨x0, x1, x2, x3, x4, x5, x6, xl, _⟩ := id A5
    obtain ⟨z0, z1, z2, z3, z4, z5, z6, zl, _⟩ := id C5
    have r := (K.forth t ht.1).1.s2
    have r0 := (K.forth t ht.1).1.s1
    by_cases hs : K.ss t < 59
    · obtain ⟨e0, e1, e2, e3, e4, e5, e6⟩ := K.next_second t ht.1 hs
      rw [e0] at z0
      rw [e1] at z1
      rw [e2] at z2
      rw [e3] at z3
      rw [e4] at z4
      rw [e5] at z5
      rw [e6] at z6
      clear e0 e1 e2 e3 e4 e5 e6
      go_wp2_with fail
      go_ret
      exact ⟨rfl, Below.put B5.out _⟩
    · obtain ⟨e5, e4, e3⟩ := K.next_minute t ht.1 (by omega)
      have i1 := (K.forth t ht.1).1.i1
      have i2 := (K.forth t ht.1).1.i2
      have h1 := (K.forth t ht.1).1.h1
      have h2 := (K.forth t ht.1).1.h2
      rw [e5] at z5
      rw [e4] at z4 e3
      clear e5 e4 A5 C5
      rcases e3 with ⟨hp, e3⟩ | ⟨hp, e3⟩
      · rw [e3] at z3
        clear e3
        go_wp2_with fail
        go_ret
        exact ⟨rfl, Below.put B5.out _⟩
      · rw [e3] at z3
        clear e3
        go_wp2_with fail
        go_ret
        exact ⟨rfl, Below.put B5.out _⟩
  · refine (within_no _ _ _ (by omega) _).mono ?_
    rintro e w1 ⟨rfl, rfl⟩
    go_wp2_with fail
    go_ret
    exact ⟨rfl, B1.out⟩
namespace Tomorrow
set_option maxRecDepth 100000 in
theorem lifted (os : Os) (started : os.Started) (H : Type) (enc : TypeId × Value → H) :
    ReturnsInHanded {} Tryd.checked os 8 .any (fun w args => (Rows.calendarTomorrowSpec.pre enc Tryd.prog Tryd.f8 [] false w args ∧ laidMetH Tryd.prog laid1 w) ∧ sizedMet enc Tryd.prog Tryd.f8 (OpenSpec.ofChange Rows.calendarTomorrowSpec) false w args)
      (Rows.calendarTomorrowSpec.post enc Tryd.prog Tryd.f8 false true false false) := by
  refine returnsInHanded_of_change_and (C := Tryd.checked) (X := fun w _ => laidMetH Tryd.prog laid1 w) (fun _ _ _ hh h => h.of_heap hh) own started (by kernel_rfl) Tryd.func8
    (ChangeSpec.witness_shaped (enc := enc) (C := Tryd.checked) (os := os) (X := fun w _ => laidMetH Tryd.prog laid1 w) false (World.doorLaid Tryd.prog 400 os) #[.int .i64 0] 8 rfl (World.shaped_of_RefB (by kernel_rfl) (by kernel_rfl)) (by kernel_rfl) (by kernel_rfl) (by kernel_rfl) (door_met os _)) ?_
  intro W base args ds gs before hval0 hW _ _ hL _
  have hval : ∀ (j : Nat) t v, Tryd.f8.params[j]? = some t → args[j]? = some v → Value.okWide Tryd.prog W .any base t v := hval0
  have hW' := hW
  obtain ⟨p, q, hA0, hV, rfl, hfz, hnd⟩ := hW
  have hA : DataW.TrodAll enc Tryd.prog W 0 (fun _ => true) true Tryd.f8.params.toList args.toList ds p := hA0
  rw [Tryd.params8] at hA hval
  obtain ⟨v0, d0, rfl, rfl, h0⟩ := trodAll_one hA
  obtain ⟨rfl, rfl⟩ := trodVars_none hV
  obtain ⟨a0, rfl, rfl, rfl, wf0⟩ := open_int Tryd.underlying3 (hval 0 3 v0 rfl rfl) h0
  have bd0 := bounds_i64 wf0
  clear hA0 hval0
  refine (tomorrow_walk a0 W (tab_of_laid hL)).mono fun e W' ⟨he, bel⟩ => ?_
  subst he
  exact ⟨_, rfl, _, _, _, [], _, [], hW', trodAll_mk1 (shut_bool Tryd.underlying4 _), trodAll_mk1 (shut_int Tryd.underlying3 wf0), rfl, bel.frame _, fun h => by cases h⟩

theorem row : Rows.CalendarTomorrowSaid :=
  OpenClaim.holds_of_wide 8 Tryd.f8 rfl rfl rfl rfl rfl rfl rfl ⟨rfl, rfl, rfl, rfl, rfl⟩ rfl rfl rfl rfl rfl (by kernel_rfl) Tryd.func8 (by kernel_rfl)
    (of_decide_eq_true (by kernel_rfl)) (by unfold Func.isWrapper; first | (rw [if_pos (by decide +kernel)]; kernel_rfl) | (rw [if_neg (by decide +kernel)]; exact ⟨rfl, rfl⟩))
    (fun os started H enc _ => lifted os started H enc)
end Tomorrow

theorem calendarTomorrow_holds : Rows.CalendarTomorrowCardSaid :=
  Claim7.holds_tied_plain_at .later [] [.data] true (true, "cad9ec3becb05483b7260e15eecd4e18993932f9ad14cc2e998860af4b19dbcf") false
    Tomorrow.row (fun _ h => by cases h) (by kernel_rfl) (fun _ h => by cases h) calendarTomorrow_row_tie rfl ⟨rfl, rfl⟩ (by kernel_rfl) rfl
    (fun f fn hf hfn => by
      obtain rfl : f = 8 := Option.some.inj ((show Tryd.prog.funcNamed "escapement/escapementlaw03.CalendarTomorrow" = some 8 by kernel_rfl).symm.trans hf) |>.symm
      obtain rfl : fn = Tryd.f8 := (Option.some.inj (Tryd.func8.symm.trans hfn)).symm
      exact ⟨by kernel_rfl, fun j t ht => by
        rw [Tryd.params8] at ht
        have hm : t ∈ [3] := by simpa using Array.mem_of_getElem? ht
        have hall : ([3].all fun u => !Tryd.prog.wantsStandIn u) = true := by kernel_rfl
        exact (show Tryd.prog.wantsStandIn t = false by simpa using List.all_eq_true.1 hall t hm)⟩)
    (by kernel_rfl)
#print axioms calendarTomorrow_holds
end Go.Proofs.YtgnploeobgheaaaDoor
