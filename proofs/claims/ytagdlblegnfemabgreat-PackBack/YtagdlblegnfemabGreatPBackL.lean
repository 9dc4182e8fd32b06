/- PackBack, lifted. -/
import Derived.Test.YtagdlblegnfemabGreatPBack
namespace Go.Proofs.YtagdlblegnfemabGreat
open Go.ChangeShapes Go.WideShapes Go.ChangeAt Go.RowKit Go.Joins Go.Deep

namespace PackBack
set_option maxRecDepth 100000 in
theorem lifted (os : Os) (started : os.Started) (H : Type) (enc : TypeId × Value → H) :
    ReturnsInHanded {} Tryz.checked os 3 .any (Rows.packBackSpec.pre6 enc Tryz.prog Tryz.f3 Rows.packBackRow.domain false) (Rows.packBackSpec.post enc Tryz.prog Tryz.f3 false true false false) := by
  refine returnsInHanded_of_change_sized (C := Tryz.checked) own started (by kernel_rfl) Tryz.func3
    (ChangeSpec.witness6 (enc := enc) (C := Tryz.checked) false ⟨#[], #[.agg #[.slice none 0 0, .slice none 0 0, .slice none 0 0, .slice none 0 0, .slice none 0 0, .slice none 0 0, .int .i64 0, .int .i64 0]], []⟩ 8 (by kernel_rfl) (by kernel_rfl) (by kernel_rfl) (by kernel_rfl)) ?_
  intro W base args ds gs before hval0 hW _ hsz0 _
  have hsz : (DataW.weightsEach Tryz.prog (Tryz.f3.params.toList ++ Rows.packBackSpec.plain.varTypes Tryz.prog) (ds ++ gs)).all (· ≤ reachBytes) = true := hsz0
  have hval : ∀ (j : Nat) t v, Tryz.f3.params[j]? = some t → args[j]? = some v → Value.okWide Tryz.prog W .any base t v := hval0
  have hW' := hW
  obtain ⟨p, q, hA0, hV, rfl, hfz, hnd⟩ := hW
  have hA : DataW.TrodAll enc Tryz.prog W 0 (fun _ => true) true Tryz.f3.params.toList args.toList ds p := hA0
  rw [Tryz.params3] at hA hval hsz
  obtain ⟨v0, d0, rfl, rfl, h0⟩ := trodAll_one hA
  obtain ⟨rfl, rfl⟩ := trodVars_none hV
  have lt0 : ∀ x ∈ p, x.block < W.heap.size := by obtain ⟨m, hm⟩ := h0; exact DataW.trod_lt m _ _ _ hm
  obtain ⟨c0, c1, c2, c3, c4, c5, c6, c7, y0, y1, y2, y3, y4, y5, y6, y7, n, rfl, hd, g0, g1, g2, g3, g4, g5, g6, g7⟩ := open8 Tryz.underlying29 (by kernel_rfl) (by kernel_rfl) (hval 0 29 v0 rfl rfl) h0
  have hw0 := weigh hsz (j := 0) rfl rfl
  rw [hd] at hw0
  obtain ⟨a6, e6, _, wf6⟩ := DataW.trod_int Tryz.underlying3 g6
  obtain ⟨a7, e7, _, wf7⟩ := DataW.trod_int Tryz.underlying3 g7
  have hw_0 := weigh_field Tryz.underlying29 hw0 (j := 0) rfl rfl
  have hw_1 := weigh_field Tryz.underlying29 hw0 (j := 1) rfl rfl
  have hw_2 := weigh_field Tryz.underlying29 hw0 (j := 2) rfl rfl
  have hw_3 := weigh_field Tryz.underlying29 hw0 (j := 3) rfl rfl
  have hw_5 := weigh_field Tryz.underlying29 hw0 (j := 5) rfl rfl
  obtain ⟨b0, m0, k0, l0, rfl, hl0, z0⟩ := trod_nums g0 hw_0
  obtain ⟨b1, m1, k1, l1, rfl, hl1⟩ := trod_words g1 hw_1
  obtain ⟨b2, m2, k2, l2, rfl, hl2⟩ := trod_flags g2 hw_2
  obtain ⟨b3, m3, k3, l3, rfl, hl3, z3⟩ := trod_strs g3 hw_3
  obtain ⟨b5, m5, k5, l5, rfl, hl5, z5⟩ := trod_rows g5 hw_5
  simp at e6 e7
  subst e6 e7
  clear hA0 hval0
  refine (back_walk a6 a7 b0 b1 b2 b3 b5 m0 k0 m1 k1 m2 k2 m3 k3 m5 k5 c4 l0 l1 l2 l3 l5 W hl0 hl1 hl2 hl3 hl5 z0 z3 z5).mono fun e W' ⟨he, bel⟩ => ?_
  subst he
  exact ⟨_, rfl, _, _, _, [], _, [], hW', trodAll_mk1 (shut_bool Tryz.underlying4 _), trodAll_mk1 (Below.trod laidOut (by kernel_rfl) (of_decide_eq_true (by kernel_rfl)) h0 bel lt0), rfl, bel.frame _, fun h => by cases h⟩

theorem over : Rows.packBackRow.holds Tryz.pinned (OpenSpec.ofChange Rows.packBackSpec) :=
  OpenClaim.holds_of_wide 3 Tryz.f3 rfl rfl rfl rfl rfl rfl rfl ⟨rfl, rfl, rfl, rfl, rfl⟩ rfl rfl rfl rfl rfl (by kernel_rfl) Tryz.func3 (by kernel_rfl)
    (of_decide_eq_true (by kernel_rfl)) (by unfold Func.isWrapper; first | (rw [if_pos (by decide +kernel)]; kernel_rfl) | (rw [if_neg (by decide +kernel)]; exact ⟨rfl, rfl⟩))
    (fun os started H enc _ => lifted os started H enc)
end PackBack

theorem packBack_holds : Rows.PackBackSaid := PackBack.over
#print axioms packBack_holds
end Go.Proofs.YtagdlblegnfemabGreat
