/- SumFar. -/
import Derived.Test.YtciehainhhkikabFrame
namespace Go.Proofs.Ytciehainhhkikab
open Go.ChangeShapes Go.WideShapes Go.ChangeAt Go.RowKit Go.Joins

theorem far_law (A B C : Nat) (X Y : Int) (h0 : 0 ≤ X) (h1 : 0 ≤ Y) : M.itZ (8 * Y.toNat) (M.itZ (8 * X.toNat) A ^^^ B) ^^^ C = M.itZ (8 * (X + Y).toNat) A ^^^ (M.itZ (8 * Y.toNat) B ^^^ C) := by
  rw [show (X + Y).toNat = X.toNat + Y.toNat by omega, Nat.mul_add, M.itZ_add, M.itZ_xor, Nat.xor_assoc]

set_option maxHeartbeats 1000000 in
theorem far_walk (A B C : Nat) (X Y : Int) (hA : A < 4294967296) (hB : B < 4294967296) (hC : C < 4294967296) (_hX : -9223372036854775808 ≤ X) (hX' : X ≤ 9223372036854775807) (_hY : -9223372036854775808 ≤ Y) (hY' : Y ≤ 9223372036854775807) (w : World) :
    Calls Try.prog 5 #[.agg #[.int .u32 (A : Int), .int .u32 (B : Int), .int .u32 (C : Int), .int .i64 X, .int .i64 Y]] w fun e w' => e = .returned (.bool true) ∧ Below w.heap.size w w' := by
  by_cases hx0 : X < 0
  · go_enter Try.func5, Try.ntmps5
    go_wp2_with (first | (go_at_call 6; refine (awake_any _).mono ?_; rintro e w1 ⟨rfl, hb1⟩; obtain ⟨hc, hf⟩ := bcell hb1) | (go_at_call 11; refine (join_neg _ _ _ (by omega) _).mono ?_; rintro e w' ⟨rfl, rfl⟩))
    go_ret
    exact ⟨rfl, ((Below.refl _ _).alloc (Nat.le_refl _) _).trans (hb1.mono (by simp))⟩
  · by_cases hy0 : Y < 0
    · go_enter Try.func5, Try.ntmps5
      go_wp2_with (first | (go_at_call 6; refine (awake_any _).mono ?_; rintro e w1 ⟨rfl, hb1⟩; obtain ⟨hc, hf⟩ := bcell hb1) | (go_at_call 11; refine (join_neg _ _ _ (by omega) _).mono ?_; rintro e w' ⟨rfl, rfl⟩))
      go_ret
      exact ⟨rfl, ((Below.refl _ _).alloc (Nat.le_refl _) _).trans (hb1.mono (by simp))⟩
    · by_cases hxy : 9223372036854775807 - Y < X
      · go_enter Try.func5, Try.ntmps5
        go_wp2_with (first | (go_at_call 6; refine (awake_any _).mono ?_; rintro e w1 ⟨rfl, hb1⟩; obtain ⟨hc, hf⟩ := bcell hb1) | (go_at_call 11; refine (join_neg _ _ _ (by omega) _).mono ?_; rintro e w' ⟨rfl, rfl⟩))
        go_ret
        exact ⟨rfl, ((Below.refl _ _).alloc (Nat.le_refl _) _).trans (hb1.mono (by simp))⟩
      · have hl := beq_cast (far_law A B C X Y (by omega) (by omega))
        have hx := xor32 A B hA hB
        have l1 := M.xor_lt32 (M.itZ_lt (8 * X.toNat) hA) hB
        have l2 := M.xor_lt32 (M.itZ_lt (8 * Y.toNat) hB) hC
        have HL := hide hl
        clear hl
        go_enter Try.func5, Try.ntmps5
        go_wp2_with (first | (go_at_call 6; refine (awake_any _).mono ?_; rintro e w1 ⟨rfl, hb1⟩; obtain ⟨hc, hf⟩ := bcell hb1))
        go_quiet ((go_at_call 11; exact (join_int _ _ _ (by assumption) (by assumption) (by omega) (by omega) _).mono (fun _ _ h => ⟨h.1, ⟨_, h.2⟩⟩)))
        go_wp2_with fail
        go_quiet ((go_at_call 11; exact (join_int _ _ _ (by assumption) (by assumption) (by omega) (by omega) _).mono (fun _ _ h => ⟨h.1, ⟨_, h.2⟩⟩)))
        have hl := HL.out
        go_wp2_with (go_at_call 11; refine (join_int _ _ _ (by assumption) (by assumption) (by omega) (by omega) _).mono ?_; rintro e w' ⟨rfl, rfl⟩)
        go_ret
        refine ⟨?_, ?_⟩
        · simp [M.itZ]
        · exact (((Below.refl _ _).alloc (Nat.le_refl _) _).trans (hb1.mono (by simp))).trans (below_draws _ _ _)

namespace Far
set_option maxRecDepth 100000 in
theorem lifted (os : Os) (started : os.Started) (H : Type) (enc : TypeId × Value → H) :
    ReturnsInHanded {} Try.checked os 5 .any (Rows.sumFarSpec.pre6 enc Try.prog Try.f5 Rows.sumFarRow.domain false) (Rows.sumFarSpec.post enc Try.prog Try.f5 false true false false) := by
  refine returnsInHanded_of_change (C := Try.checked) own started (by kernel_rfl) Try.func5
    (ChangeSpec.witness6 (enc := enc) (C := Try.checked) false ⟨#[], #[.agg #[.int .u32 0, .int .u32 0, .int .u32 0, .int .i64 0, .int .i64 0]], []⟩ 8 (by kernel_rfl) (by kernel_rfl) (by kernel_rfl) (by kernel_rfl)) ?_
  intro W base args ds gs before hval0 hW hcnd _
  have hval : ∀ (j : Nat) t v, Try.f5.params[j]? = some t → args[j]? = some v → Value.okWide Try.prog W .any base t v := hval0
  have hW' := hW
  obtain ⟨p, q, hA0, hV, rfl, hfz, hnd⟩ := hW
  have hA : DataW.TrodAll enc Try.prog W 0 (fun _ => true) true Try.f5.params.toList args.toList ds p := hA0
  rw [Try.params5] at hA hval
  obtain ⟨v0, d0, rfl, rfl, h0⟩ := trodAll_one hA
  obtain ⟨rfl, rfl⟩ := trodVars_none hV
  have k0 := h0
  have lt0 : ∀ x ∈ p, x.block < W.heap.size := by obtain ⟨m, hm⟩ := k0; exact DataW.trod_lt m _ _ _ hm
  obtain ⟨c0, c1, c2, c3, c4, y0, y1, y2, y3, y4, n, rfl, hd, g0, g1, g2, g3, g4⟩ := open5 Try.underlying36 (by kernel_rfl) (by kernel_rfl) (hval 0 36 v0 rfl rfl) h0
  obtain ⟨a0, e0, _, wf0⟩ := DataW.trod_int Try.underlying26 g0
  obtain ⟨a1, e1, _, wf1⟩ := DataW.trod_int Try.underlying26 g1
  obtain ⟨a2, e2, _, wf2⟩ := DataW.trod_int Try.underlying26 g2
  obtain ⟨a3, e3, _, wf3⟩ := DataW.trod_int Try.underlying3 g3
  obtain ⟨a4, e4, _, wf4⟩ := DataW.trod_int Try.underlying3 g4
  simp at e0 e1 e2 e3 e4
  subst e0 e1 e2 e3 e4
  clear hA0 hval0
  obtain ⟨A, rfl, hA'⟩ := u32_nat wf0
  obtain ⟨B, rfl, hB'⟩ := u32_nat wf1
  obtain ⟨C, rfl, hC'⟩ := u32_nat wf2
  have b3 := bounds_i64 wf3
  have b4 := bounds_i64 wf4
  refine (far_walk A B C a3 a4 hA' hB' hC' (by omega) (by omega) (by omega) (by omega) W).mono fun e W' ⟨he, bel⟩ => ?_
  subst he
  exact ⟨_, rfl, _, _, _, [], _, [], hW', trodAll_mk1 (shut_bool Try.underlying4 _), trodAll_mk1 (Below.trod laidOut (by kernel_rfl) (of_decide_eq_true (by kernel_rfl)) k0 bel lt0), rfl, bel.frame _, fun h => by cases h⟩

theorem over : Rows.sumFarRow.holds Try.pinned (OpenSpec.ofChange Rows.sumFarSpec) :=
  OpenClaim.holds_of_wide 5 Try.f5 rfl rfl rfl rfl rfl rfl rfl ⟨rfl, rfl, rfl, rfl, rfl⟩ rfl rfl rfl rfl rfl (by kernel_rfl) Try.func5 (by kernel_rfl)
    (of_decide_eq_true (by kernel_rfl)) (by unfold Func.isWrapper; first | (rw [if_pos (by decide +kernel)]; kernel_rfl) | (rw [if_neg (by decide +kernel)]; exact ⟨rfl, rfl⟩))
    (fun os started H enc _ => lifted os started H enc)

end Far

theorem sumFar_holds : Rows.SumFarSaid := Far.over
#print axioms sumFar_holds
end Go.Proofs.Ytciehainhhkikab
