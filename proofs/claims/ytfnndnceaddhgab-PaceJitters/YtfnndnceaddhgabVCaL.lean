/- PaceJitters, PaceChances, PaceWaits, lifted. -/
import Derived.Test.YtfnndnceaddhgabVLft
import Derived.Test.YtfnndnceaddhgabVCha
import Derived.Test.YtfnndnceaddhgabVWaW
namespace Go.Proofs.Ytfnndnceaddhgab
open Go.ChangeShapes Go.WideShapes Go.ChangeAt Go.RowKit Go.Joins Go.Deep

/-- a case -/
abbrev V.Ca := Nat × Int × Int × Int × Int
def V.Ca.In (q : V.Ca) : Prop := V.i64 q.2.1 ∧ V.i64 q.2.2.1 ∧ V.i64 q.2.2.2.1 ∧ V.i64 q.2.2.2.2
theorem cells_case : Try.prog.cellsOf 24 = 5 := by kernel_rfl
set_option maxRecDepth 100000 in
theorem open_case {H : Type} {enc : TypeId × Value → H} {W : World} {r : Reach} {b0 : Nat} {v : Value} {d : DataW H} {p : List MemPlace}
    (hv : Value.okWide Try.prog W r b0 24 v) (h : DataW.Trod enc Try.prog W 0 (fun _ => true) true 24 v d p) (_hw : ∀ k ∈ d.weights Try.prog 24, k ≤ reachBytes) :
    ∃ q : V.Ca, v = .agg #[.int .u64 q.1, .int .i64 q.2.1, .int .i64 q.2.2.1, .int .i64 q.2.2.2.1, .int .i64 q.2.2.2.2] ∧ V.Ca.In q := by
  obtain ⟨cs, rfl, hl, k, h⟩ := struct_cells Try.underlying24 hv h
  rw [cells_case] at hl
  obtain ⟨xs, k1, hk, hxy, _, hxl, hff⟩ := DataW.trod_struct Try.underlying24 h
  obtain ⟨cs⟩ := cs
  match xs, hxl, cs, hl with
  | [y0, y1, y2, y3, y4], _, [v0, v1, v2, v3, v4], _ =>
    have g0 := hff 0 _ rfl
    have g1 := hff 1 _ rfl
    have g2 := hff 2 _ rfl
    have g3 := hff 3 _ rfl
    have g4 := hff 4 _ rfl
    simp [cells_u64, cells_int] at g0 g1 g2 g3 g4
    obtain ⟨z0, rfl, c0⟩ := one_u64 g0
    obtain ⟨z1, rfl, c1⟩ := one_int g1
    obtain ⟨z2, rfl, c2⟩ := one_int g2
    obtain ⟨z3, rfl, c3⟩ := one_int g3
    obtain ⟨z4, rfl, c4⟩ := one_int g4
    exact ⟨(z0, z1, z2, z3, z4), rfl, c1, c2, c3, c4⟩
theorem jitters_walk' (bt : Int) (q : V.Ca) (W : World) (h : V.Ca.In q) (b0 : -9223372036854775808 ≤ bt) (b1 : bt ≤ 9223372036854775807) :
    Calls Try.prog 3 #[.agg #[.int .u64 q.1, .int .i64 q.2.1, .int .i64 q.2.2.1, .int .i64 q.2.2.2.1, .int .i64 q.2.2.2.2], .int .i64 bt] W fun e w' => e = .returned (.bool true) ∧ Below W.heap.size W w' :=
  jitters_walk _ _ _ _ _ _ W h.1 h.2.1 h.2.2.1 h.2.2.2 ⟨b0, b1⟩
theorem chances_walk' (q : V.Ca) (W : World) (h : V.Ca.In q) :
    Calls Try.prog 4 #[.agg #[.int .u64 q.1, .int .i64 q.2.1, .int .i64 q.2.2.1, .int .i64 q.2.2.2.1, .int .i64 q.2.2.2.2]] W fun e w' => e = .returned (.bool true) ∧ Below W.heap.size W w' :=
  chances_walk _ _ _ _ _ W h.1 h.2.1 h.2.2.1 h.2.2.2

namespace PaceJitters
set_option maxRecDepth 100000 in
theorem lifted (os : Os) (started : os.Started) (H : Type) (enc : TypeId × Value → H) :
    ReturnsInHanded {} Try.checked os 3 .any (Rows.paceJittersSpec.pre6 enc Try.prog Try.f3 Rows.paceJittersRow.domain false) (Rows.paceJittersSpec.post enc Try.prog Try.f3 false true false false) := by
  refine returnsInHanded_of_change_sized (C := Try.checked) own started (by kernel_rfl) Try.func3
    (ChangeSpec.witness6 (enc := enc) (C := Try.checked) false ⟨#[], #[.agg #[.int .u64 0, .int .i64 0, .int .i64 0, .int .i64 0, .int .i64 0], .int .i64 0], []⟩ 8 (by kernel_rfl) (by kernel_rfl) (by kernel_rfl) (by kernel_rfl)) ?_
  intro W base args ds gs before hval0 hW _ hsz0 _
  have hsz : (DataW.weightsEach Try.prog (Try.f3.params.toList ++ Rows.paceJittersSpec.plain.varTypes Try.prog) (ds ++ gs)).all (· ≤ reachBytes) = true := hsz0
  have hval : ∀ (j : Nat) t v, Try.f3.params[j]? = some t → args[j]? = some v → Value.okWide Try.prog W .any base t v := hval0
  have hW' := hW
  obtain ⟨p, q, hA0, hV, rfl, hfz, hnd⟩ := hW
  have hA : DataW.TrodAll enc Try.prog W 0 (fun _ => true) true Try.f3.params.toList args.toList ds p := hA0
  rw [Try.params3] at hA hval hsz
  obtain ⟨v0, v1, d0, d1, p0, p1, rfl, rfl, rfl, h0, h1⟩ := trodAll_two hA
  obtain ⟨rfl, rfl⟩ := trodVars_none hV
  have lt0 : ∀ x ∈ p0, x.block < W.heap.size := by obtain ⟨m, hm⟩ := h0; exact DataW.trod_lt m _ _ _ hm
  obtain ⟨q0, rfl, hq0⟩ := open_case (hval 0 24 v0 rfl rfl) h0 (weigh hsz (j := 0) rfl rfl)
  obtain ⟨x1, rfl, rfl, rfl, wf1⟩ := open_int Try.underlying3 (hval 1 3 v1 rfl rfl) h1
  have bd1 := bounds_i64 wf1
  clear hA0 hval0
  refine (jitters_walk' x1 q0 W hq0 (by omega) (by omega)).mono fun e W' ⟨he, bel⟩ => ?_
  subst he
  exact ⟨_, rfl, _, _, _, [], _, [], hW', trodAll_mk1 (shut_bool Try.underlying4 _), trodAll_mk2 (Below.trod laidOut (by kernel_rfl) (of_decide_eq_true (by kernel_rfl)) h0 bel lt0) (shut_int Try.underlying3 wf1), rfl, bel.frame _, fun h => by cases h⟩

theorem over : Rows.paceJittersRow.holds Try.pinned (OpenSpec.ofChange Rows.paceJittersSpec) :=
  OpenClaim.holds_of_wide 3 Try.f3 rfl rfl rfl rfl rfl rfl rfl ⟨rfl, rfl, rfl, rfl, rfl⟩ rfl rfl rfl rfl rfl (by kernel_rfl) Try.func3 (by kernel_rfl)
    (of_decide_eq_true (by kernel_rfl)) (by unfold Func.isWrapper; first | (rw [if_pos (by decide +kernel)]; kernel_rfl) | (rw [if_neg (by decide +kernel)]; exact ⟨rfl, rfl⟩))
    (fun os started H enc _ => lifted os started H enc)
end PaceJitters

theorem paceJitters_holds : Rows.PaceJittersSaid := PaceJitters.over
#print axioms paceJitters_holds
namespace PaceChances
set_option maxRecDepth 100000 in
theorem lifted (os : Os) (started : os.Started) (H : Type) (enc : TypeId × Value → H) :
    ReturnsInHanded {} Try.checked os 4 .any (Rows.paceChancesSpec.pre6 enc Try.prog Try.f4 Rows.paceChancesRow.domain false) (Rows.paceChancesSpec.post enc Try.prog Try.f4 false true false false) := by
  refine returnsInHanded_of_change_sized (C := Try.checked) own started (by kernel_rfl) Try.func4
    (ChangeSpec.witness6 (enc := enc) (C := Try.checked) false ⟨#[], #[.agg #[.int .u64 0, .int .i64 0, .int .i64 0, .int .i64 0, .int .i64 0]], []⟩ 8 (by kernel_rfl) (by kernel_rfl) (by kernel_rfl) (by kernel_rfl)) ?_
  intro W base args ds gs before hval0 hW _ hsz0 _
  have hsz : (DataW.weightsEach Try.prog (Try.f4.params.toList ++ Rows.paceChancesSpec.plain.varTypes Try.prog) (ds ++ gs)).all (· ≤ reachBytes) = true := hsz0
  have hval : ∀ (j : Nat) t v, Try.f4.params[j]? = some t → args[j]? = some v → Value.okWide Try.prog W .any base t v := hval0
  have hW' := hW
  obtain ⟨p, q, hA0, hV, rfl, hfz, hnd⟩ := hW
  have hA : DataW.TrodAll enc Try.prog W 0 (fun _ => true) true Try.f4.params.toList args.toList ds p := hA0
  rw [Try.params4] at hA hval hsz
  obtain ⟨v0, d0, rfl, rfl, h0⟩ := trodAll_one hA
  obtain ⟨rfl, rfl⟩ := trodVars_none hV
  have lt0 : ∀ x ∈ p, x.block < W.heap.size := by obtain ⟨m, hm⟩ := h0; exact DataW.trod_lt m _ _ _ hm
  obtain ⟨q0, rfl, hq0⟩ := open_case (hval 0 24 v0 rfl rfl) h0 (weigh hsz (j := 0) rfl rfl)
  clear hA0 hval0
  refine (chances_walk' q0 W hq0).mono fun e W' ⟨he, bel⟩ => ?_
  subst he
  exact ⟨_, rfl, _, _, _, [], _, [], hW', trodAll_mk1 (shut_bool Try.underlying4 _), trodAll_mk1 (Below.trod laidOut (by kernel_rfl) (of_decide_eq_true (by kernel_rfl)) h0 bel lt0), rfl, bel.frame _, fun h => by cases h⟩

theorem over : Rows.paceChancesRow.holds Try.pinned (OpenSpec.ofChange Rows.paceChancesSpec) :=
  OpenClaim.holds_of_wide 4 Try.f4 rfl rfl rfl rfl rfl rfl rfl ⟨rfl, rfl, rfl, rfl, rfl⟩ rfl rfl rfl rfl rfl (by kernel_rfl) Try.func4 (by kernel_rfl)
    (of_decide_eq_true (by kernel_rfl)) (by unfold Func.isWrapper; first | (rw [if_pos (by decide +kernel)]; kernel_rfl) | (rw [if_neg (by decide +kernel)]; exact ⟨rfl, rfl⟩))
    (fun os started H enc _ => lifted os started H enc)
end PaceChances

theorem paceChances_holds : Rows.PaceChancesSaid := PaceChances.over
#print axioms paceChances_holds
end Go.Proofs.Ytfnndnceaddhgab
