/- CalendarBack. -/
import Derived.Test.YtgnploeobgheaaaDoorCFits
import Derived.Test.YtgnploeobgheaaaDoorCAhead
namespace Go.Proofs.YtgnploeobgheaaaDoor
open Go.ChangeShapes Go.WideShapes Go.ChangeAt Go.RowKit

/-- What lies behind a call: all older memory as it was. -/
def Aft (w w' : World) : Prop := Below w.heap.size w w'
theorem Aft.after {a w w' : World} (h : Aft a w) (k : Below w.heap.size w w') : Aft a w' := Below.after h k
theorem Aft.put {a w : World} (h : Aft a w) (o : Obj) : Aft a (w.alloc o) := Below.put h o
theorem Aft.set {a w : World} (h : Aft a w) {p : Addr} (hp : a.heap.size ≤ p.block) (u : Value) : Aft a (w.setCell p u) := Below.setCell h hp u
theorem Aft.first (w : World) (o : Obj) : Aft w (w.alloc o) := Below.put (Below.refl _ _) o

theorem DatAt.far {w : World} {g : Nat} {y m d h i s k : Int} (a : DatAt w g y m d h i s k) {p : Addr} (hp : p.block ≠ g) (u : Value) : DatAt (w.setCell p u) g y m d h i s k := by
  obtain ⟨x0, x1, x2, x3, x4, x5, x6, xl, xf⟩ := a
  constructor
  case lt => simpa using xl
  case fr => intro j; simp [xf]
  all_goals (rw [World.cell?_setCell_other _ _ _ _ (by intro e; rw [e] at hp; exact hp rfl)]; assumption)

/-- The last time's date. -/
theorem ahead_last (y m d h i s : Int) (hO : K.Ok y m d h i s) : K.LtB (K.Y 4611686018427387904) (K.M 4611686018427387904) (K.D 4611686018427387904) (K.hh 4611686018427387904) (K.mm 4611686018427387904) (K.ss 4611686018427387904) y m d h i s = decide (4611686018427387904 < K.secs y m d h i s) := by
  have ka := K.forth 4611686018427387904 (by decide)
  have := K.lt_iff ka.1 hO
  rw [ka.2] at this
  unfold K.LtB
  exact decide_eq_decide.2 this

set_option maxHeartbeats 2000000 in
theorem back_ok (y m d h i s k : Int) (hO : K.Ok y m d h i s) (hl : K.secs y m d h i s ≤ 4611686018427387904) (w : World) (hT : Tab w) :
    Calls Tryd.prog 6 #[dat y m d h i s k] w fun e w' => e = .returned (.bool true) ∧ Below w.heap.size w w' := by
  obtain ⟨b0, bY, bM, bD, bh, bi, bs⟩ := K.back hO
  have hy := K.y_of_le b0 hl
  rw [bY] at hy
  have hat := fun w hT => at_in (K.secs y m d h i s) b0 hl w hT
  simp only [datOf, bY, bM, bD, bh, bi, bs] at hat
  have HA := hide hat
  have hah := ahead_last y m d h i s hO
  rw [decide_eq_false (show ¬ 4611686018427387904 < K.secs y m d h i s by omega)] at hah
  have HL := hide (fun k k' w => hah ▸ ahead_any (K.Y 4611686018427387904) (K.M 4611686018427387904) (K.D 4611686018427387904) (K.hh 4611686018427387904) (K.mm 4611686018427387904) (K.ss 4611686018427387904) k y m d h i s k' w)
  have HO := hide hO
  have HH := hide hl
  have HT := hide (fun w hT => time_ok y m d h i s k hO hl w hT)
  clear hat hah bY bM bD bh bi bs hO hl
  generalize K.secs y m d h i s = t at *
  go_enter Tryd.func6, Tryd.ntmps6
  go_wp2_with fail
  go_at_call 11
  refine (known_any _ (hT.alloc _)).mono ?_
  rintro e w1 ⟨rfl, hb1⟩
  have hT1 := (hT.alloc _).keep hb1
  have D1 := (DatAt.new _ _ _ _ _ _ _ _ _).keep hb1
  have B1 := (Aft.first _ _).after hb1
  clear hb1
  obtain ⟨x0, x1, x2, x3, x4, x5, x6, xl, _⟩ := id D1
  generalize hg : w.heap.size = g at *
  go_wp2_with fail
  go_at_call 15
  refine (HT.out _ hT1).mono ?_
  rintro e w2 ⟨rfl, hb2⟩
  have hT2 := hT1.keep hb2
  have D2 := D1.keep hb2
  have B2 := B1.after hb2
  clear hb2 B1 D1 x0 x1 x2 x3 x4 x5 x6 xl HT
  go_wp2_with fail
  go_at_call 9
  refine (at_in _ (by decide) (by decide) _ hT2).mono ?_
  rintro e w3 ⟨rfl, hb3⟩
  have hT3 := hT2.keep hb3
  have D3 := D2.keep hb3
  have B3 := B2.after hb3
  clear hb3 B2 D2
  go_wp2_with fail
  go_at_call 9
  refine (HA.out _ (hT3.alloc _)).mono ?_
  rintro e w4 ⟨rfl, hb4⟩
  have hT4 := (hT3.alloc _).keep hb4
  have D4 := (D3.alloc _).keep hb4
  have E4 := (DatAt.new _ _ _ _ _ _ _ _ _).keep hb4
  have B4 := (B3.put _).after hb4
  have l3 := D3.lt
  clear hb4 B3 D3 HA
  generalize hg3 : w3.heap.size = g3 at *
  obtain ⟨x0, x1, x2, x3, x4, x5, x6, xl, xf⟩ := id D4
  have xf6 := xf 6
  go_wp2_with fail
  go_at_call 14
  have hg0 : 0 < g := by rw [← hg]; exact hT.size
  refine (fits_yes _ _ _ _ _ _ _ HO.out hy _ ((hT4.setCell (p := ⟨g, 6, none⟩) hg0 _).alloc _)).mono ?_
  rintro e w5 ⟨rfl, hb5⟩
  have D5 := ((D4.set6 _).alloc _).keep hb5
  have E5 := ((E4.far (p := ⟨g, 6, none⟩) (Nat.ne_of_lt l3) _).alloc _).keep hb5
  have F5 := (DatAt.new _ _ _ _ _ _ _ _ _).keep hb5
  have l5 : g3 < w4.heap.size := E4.lt
  have B5 := ((B4.set (p := ⟨g, 6, none⟩) (Nat.le_of_eq hg) _).put _).after hb5
  clear hb5 B4 D4 E4 x0 x1 x2 x3 x4 x5 x6 xl xf xf6
  rw [show (w4.setCell ⟨g, 6, none⟩ (.int .i64 (K.W t))).heap.size = w4.heap.size by simp] at F5
  generalize hg5 : w4.heap.size = g5 at *
  obtain ⟨x0, x1, x2, x3, x4, x5, x6, xl, xf⟩ := D5
  obtain ⟨y0, y1, y2, y3, y4, y5, y6, yl, yf⟩ := E5
  obtain ⟨z0, z1, z2, z3, z4, z5, z6, zl, zf⟩ := F5
  go_wp2_with fail
  go_at_call 16
  refine (HL.out _ _ _).mono ?_
  rintro e w6 ⟨rfl, hb6⟩
  have B6 := B5.after hb6
  clear hb6 B5
  go_wp2_with fail
  go_ret
  exact ⟨rfl, B6⟩

set_option maxHeartbeats 2000000 in
theorem back_bad (y m d h i s k : Int) (hN : ¬ (K.Ok y m d h i s ∧ K.secs y m d h i s ≤ 4611686018427387904)) (w : World) (hT : Tab w) :
    Calls Tryd.prog 6 #[dat y m d h i s k] w fun e w' => e = .returned (.bool true) ∧ Below w.heap.size w w' := by
  have HT : Hid (∀ w, Tab w → Calls Tryd.prog 15 #[dat y m d h i s k] w fun e w' => e = .returned (.tuple #[.int .i64 0, .int .i64 31]) ∧ Below w.heap.size w w') := by
    intro w hT
    by_cases hym : y < 1970 ∨ 146138514283 < y ∨ m < 1 ∨ 12 < m
    · exact time_no y m d h i s k hym w
    · exact time_bad y m d h i s k (by omega) (by omega) (by omega) (by omega) hN w hT
  have HN := hide hN
  clear hN
  go_enter Tryd.func6, Tryd.ntmps6
  go_wp2_with fail
  go_at_call 11
  refine (known_any _ (hT.alloc _)).mono ?_
  rintro e w1 ⟨rfl, hb1⟩
  have hT1 := (hT.alloc _).keep hb1
  have D1 := (DatAt.new _ _ _ _ _ _ _ _ _).keep hb1
  have B1 := (Aft.first _ _).after hb1
  clear hb1
  obtain ⟨x0, x1, x2, x3, x4, x5, x6, xl, _⟩ := id D1
  generalize hg : w.heap.size = g at *
  go_wp2_with fail
  go_at_call 15
  refine (HT.out _ hT1).mono ?_
  rintro e w2 ⟨rfl, hb2⟩
  have hT2 := hT1.keep hb2
  have D2 := D1.keep hb2
  have B2 := B1.after hb2
  clear hb2 B1 D1 x0 x1 x2 x3 x4 x5 x6 xl HT
  go_wp2_with fail
  go_at_call 9
  refine (at_in _ (by decide) (by decide) _ hT2).mono ?_
  rintro e w3 ⟨rfl, hb3⟩
  have hT3 := hT2.keep hb3
  have D3 := D2.keep hb3
  have B3 := B2.after hb3
  clear hb3 B2 D2
  obtain ⟨x0, x1, x2, x3, x4, x5, x6, xl, xf⟩ := id D3
  go_wp2_with fail
  go_at_call 14
  by_cases hf : K.Ok y m d h i s ∧ y ≤ 146138514283
  · refine (fits_yes _ _ _ _ _ _ _ hf.1 hf.2 _ (hT3.alloc _)).mono ?_
    rintro e w4 ⟨rfl, hb4⟩
    have D4 := (D3.alloc _).keep hb4
    have E4 := (DatAt.new _ _ _ _ _ _ _ _ _).keep hb4
    have l3 := D3.lt
    have B4 := (B3.put _).after hb4
    clear hb4 B3 D3 x0 x1 x2 x3 x4 x5 x6 xl xf
    generalize hg3 : w3.heap.size = g3 at *
    have hah := ahead_last y m d h i s hf.1
    rw [decide_eq_true (show 4611686018427387904 < K.secs y m d h i s from Int.not_le.1 (fun h3 => HN.out ⟨hf.1, h3⟩))] at hah
    have HL := hide (fun k k' w => hah ▸ ahead_any (K.Y 4611686018427387904) (K.M 4611686018427387904) (K.D 4611686018427387904) (K.hh 4611686018427387904) (K.mm 4611686018427387904) (K.ss 4611686018427387904) k y m d h i s k' w)
    clear hah hf
    obtain ⟨x0, x1, x2, x3, x4, x5, x6, xl, xf⟩ := D4
    obtain ⟨y0, y1, y2, y3, y4, y5, y6, yl, yf⟩ := E4
    go_wp2_with fail
    go_at_call 16
    refine (HL.out _ _ _).mono ?_
    rintro e w6 ⟨rfl, hb6⟩
    have B6 := B4.after hb6
    clear hb6 B4
    go_wp2_with fail
    go_ret
    exact ⟨rfl, B6⟩
  · refine (fits_no _ _ _ _ _ _ _ hf _ (hT3.alloc _)).mono ?_
    rintro e w4 ⟨rfl, hb4⟩
    have B4 := (B3.put _).after hb4
    clear hb4 B3
    go_wp2_with fail
    go_ret
    exact ⟨rfl, B4⟩

theorem back_walk (y m d h i s k : Int) (w : World) (hT : Tab w) :
    Calls Tryd.prog 6 #[dat y m d h i s k] w fun e w' => e = .returned (.bool true) ∧ Below w.heap.size w w' := by
  by_cases hN : K.Ok y m d h i s ∧ K.secs y m d h i s ≤ 4611686018427387904
  · exact back_ok y m d h i s k hN.1 hN.2 w hT
  · exact back_bad y m d h i s k hN w hT
namespace Back
set_option maxRecDepth 100000 in
theorem lifted (os : Os) (started : os.Started) (H : Type) (enc : TypeId × Value → H) :
    ReturnsInHanded {} Tryd.checked os 6 .any (fun w args => (Rows.calendarBackSpec.pre enc Tryd.prog Tryd.f6 [] false w args ∧ laidMetH Tryd.prog laid1 w) ∧ sizedMet enc Tryd.prog Tryd.f6 (OpenSpec.ofChange Rows.calendarBackSpec) false w args)
      (Rows.calendarBackSpec.post enc Tryd.prog Tryd.f6 false true false false) := by
  refine returnsInHanded_of_change_and (C := Tryd.checked) (X := fun w _ => laidMetH Tryd.prog laid1 w) (fun _ _ _ hh h => h.of_heap hh) own started (by kernel_rfl) Tryd.func6
    (ChangeSpec.witness_shaped (enc := enc) (C := Tryd.checked) (os := os) (X := fun w _ => laidMetH Tryd.prog laid1 w) false (World.doorLaid Tryd.prog 400 os) #[.agg #[.int .i64 0, .int .i64 0, .int .i64 0, .int .i64 0, .int .i64 0, .int .i64 0, .int .i64 0]] 8 rfl (World.shaped_of_RefB (by kernel_rfl) (by kernel_rfl)) (by kernel_rfl) (by kernel_rfl) (by kernel_rfl) (door_met os _)) ?_
  intro W base args ds gs before hval0 hW _ _ hL _
  have hval : ∀ (j : Nat) t v, Tryd.f6.params[j]? = some t → args[j]? = some v → Value.okWide Tryd.prog W .any base t v := hval0
  have hW' := hW
  obtain ⟨p, q, hA0, hV, rfl, hfz, hnd⟩ := hW
  have hA : DataW.TrodAll enc Tryd.prog W 0 (fun _ => true) true Tryd.f6.params.toList args.toList ds p := hA0
  rw [Tryd.params6] at hA hval
  obtain ⟨v0, d0, rfl, rfl, h0⟩ := trodAll_one hA
  obtain ⟨rfl, rfl⟩ := trodVars_none hV
  have k0 := h0
  have lt0 : ∀ x ∈ p, x.block < W.heap.size := by obtain ⟨m, hm⟩ := k0; exact DataW.trod_lt m _ _ _ hm
  obtain ⟨x0, x1, x2, x3, x4, x5, x6, y0, y1, y2, y3, y4, y5, y6, n, rfl, hd, g0, g1, g2, g3, g4, g5, g6⟩ := open7 Tryd.underlying23 (by kernel_rfl) (by kernel_rfl) (hval 0 23 v0 rfl rfl) h0
  obtain ⟨b0, e0, _, bf0⟩ := DataW.trod_int Tryd.underlying3 g0
  obtain ⟨b1, e1, _, bf1⟩ := DataW.trod_int Tryd.underlying3 g1
  obtain ⟨b2, e2, _, bf2⟩ := DataW.trod_int Tryd.underlying3 g2
  obtain ⟨b3, e3, _, bf3⟩ := DataW.trod_int Tryd.underlying3 g3
  obtain ⟨b4, e4, _, bf4⟩ := DataW.trod_int Tryd.underlying3 g4
  obtain ⟨b5, e5, _, bf5⟩ := DataW.trod_int Tryd.underlying3 g5
  obtain ⟨b6, e6, _, bf6⟩ := DataW.trod_int Tryd.underlying3 g6
  simp at e0 e1 e2 e3 e4 e5 e6
  subst e0 e1 e2 e3 e4 e5 e6
  clear hA0 hval0
  refine (back_walk b0 b1 b2 b3 b4 b5 b6 W (tab_of_laid hL)).mono fun e W' ⟨he, bel⟩ => ?_
  subst he
  exact ⟨_, rfl, _, _, _, [], _, [], hW', trodAll_mk1 (shut_bool Tryd.underlying4 _), trodAll_mk1 (Below.trod laidOut (by kernel_rfl) (of_decide_eq_true (by kernel_rfl)) k0 bel lt0), rfl, bel.frame _, fun h => by cases h⟩

theorem row : Rows.CalendarBackSaid :=
  OpenClaim.holds_of_wide 6 Tryd.f6 rfl rfl rfl rfl rfl rfl rfl ⟨rfl, rfl, rfl, rfl, rfl⟩ rfl rfl rfl rfl rfl (by kernel_rfl) Tryd.func6 (by kernel_rfl)
    (of_decide_eq_true (by kernel_rfl)) (by unfold Func.isWrapper; first | (rw [if_pos (by decide +kernel)]; kernel_rfl) | (rw [if_neg (by decide +kernel)]; exact ⟨rfl, rfl⟩))
    (fun os started H enc _ => lifted os started H enc)
end Back

theorem calendarBack_holds : Rows.CalendarBackCardSaid :=
  Claim7.holds_tied_plain_at .later [] [.data] true (true, "cad9ec3becb05483b7260e15eecd4e18993932f9ad14cc2e998860af4b19dbcf") false
    Back.row (fun _ h => by cases h) (by kernel_rfl) (fun _ h => by cases h) calendarBack_row_tie rfl ⟨rfl, rfl⟩ (by kernel_rfl) rfl
    (fun f fn hf hfn => by
      obtain rfl : f = 6 := Option.some.inj ((show Tryd.prog.funcNamed "escapement/escapementlaw03.CalendarBack" = some 6 by kernel_rfl).symm.trans hf) |>.symm
      obtain rfl : fn = Tryd.f6 := (Option.some.inj (Tryd.func6.symm.trans hfn)).symm
      exact ⟨by kernel_rfl, fun j t ht => by
        rw [Tryd.params6] at ht
        have hm : t ∈ [23] := by simpa using Array.mem_of_getElem? ht
        have hall : ([23].all fun u => !Tryd.prog.wantsStandIn u) = true := by kernel_rfl
        exact (show Tryd.prog.wantsStandIn t = false by simpa using List.all_eq_true.1 hall t hm)⟩)
    (by kernel_rfl)
#print axioms calendarBack_holds
end Go.Proofs.YtgnploeobgheaaaDoor
