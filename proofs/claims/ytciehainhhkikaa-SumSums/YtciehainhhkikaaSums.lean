/- SumSums. -/
import Derived.Test.YtciehainhhkikaaLent
import Derived.Test.YtciehainhhkikaaRef
import Derived.Test.YtciehainhhkikaaOpen
namespace Go.Proofs.Ytciehainhhkikaa
open Go.ChangeShapes Go.WideShapes Go.ChangeAt Go.RowKit Go.Joins

set_option maxHeartbeats 1000000 in
theorem sums_walk (a : Option Addr) (n c : Nat) (l : List Nat) (w : World) (h : Rd w a n l) (hsm : n ≤ 140737488351232) :
    Calls Try.prog 3 #[.slice a n c] w fun e w' => e = .returned (.bool true) ∧ Below w.heap.size w w' := by
  have hn := h.2.1
  obtain ⟨m, hm⟩ : ∃ m, m = n + 80 := ⟨_, rfl⟩
  have HM := hide hm
  have hnm : n ≤ m := by omega
  have hm48 : m < 281474976710656 := by omega
  have HH := hide h
  have HML : Hid (m = (marked l).length) := by show _ = _; rw [marked_length]; have := h.1; omega
  clear h hm
  go_enter Try.func3, Try.ntmps3
  go_wp2_with fail
  refine (awake_any _).mono ?_
  rintro e w1 ⟨rfl, hb1⟩
  have HB1 := hide hb1
  clear hb1
  go_wp2_with fail
  refine (lent_any _ _ _ _ _ (HH.out.keep HB1.out) hsm).mono ?_
  rintro e w2 ⟨g, rfl, hg2, ho2, hb2⟩
  have HGL : Hid (w.heap.size ≤ g) := Nat.le_trans HB1.out.size hg2
  clear hg2
  rw [← HM.out]
  have HB2 := hide (further HB1.out hb2)
  have HO2 := hide ho2
  clear ho2 hb2 HB1
  obtain ⟨a', hsl, _⟩ := slice0_rd (HO2.out.rdn m HML.out hm48 (marked_lt l HH.out.2.2.1)) m n (Nat.le_refl _) hnm
  have HR : Hid (∀ wx x, Own wx g (marked x) → n = x.length → (∀ d ∈ x, d < 256) → Rd wx a' n x) := by
    intro wx x ho hx hd
    obtain ⟨a2, hs2, hr2⟩ := slice0_rd (ho.rdn m (by rw [marked_length, ← hx]; exact HM.out) hm48 (marked_lt x hd)) m n (Nat.le_refl _) hnm
    have e := (hsl wx).symm.trans (hs2 wx)
    simp only [Result.ok.injEq, Value.slice.injEq, and_true] at e
    rw [e, ← marked_take x n hx]
    exact hr2
  go_wp2_with fail
  refine (sum_any _ _ _ _ _ (HR.out _ _ HO2.out HH.out.1 HH.out.2.2.1)).mono ?_
  rintro e w3 ⟨rfl, hb3⟩
  have HB3 := hide (further HB2.out hb3)
  have HO3 := hide (HO2.out.keep hb3)
  clear hb3 HB2 HO2
  go_wp2_with fail
  refine (kept_any _ _ _ _ _ _ _ HO3.out (HH.out.keep HB3.out) HM.out hsm).mono ?_
  rintro e w4 ⟨rfl, rfl⟩
  go_wp2_with fail
  refine (sum_any _ _ _ _ _ (HR.out _ _ HO3.out HH.out.1 HH.out.2.2.1)).mono ?_
  rintro e w5 ⟨rfl, hb5⟩
  have HB5 := hide (further HB3.out hb5)
  have HO5 := hide (HO3.out.keep hb5)
  clear hb5 HB3 HO3
  go_wp2_with fail
  refine (other_any _ _ _ _ _ (HH.out.keep HB5.out)).mono ?_
  rintro e w6 ⟨g6, rfl, _, ho6, _, hb6⟩
  have HO6 := hide (HO5.out.keep hb6)
  have HB6 := hide (further HB5.out hb6)
  obtain ⟨w7, hcp, ho7, hb7, _⟩ := copy_own HO6.out ho6 (by rw [oth_length]; exact HH.out.1) HML.out hnm
  have e7 : oth l ++ (marked l).drop n = marked (oth l) := by
    unfold marked
    rw [HH.out.1, List.drop_left]
  rw [e7] at ho7
  replace hb7 := hb7 _ _ HB6.out HGL.out
  have HO7 := hide ho7
  have HB7 := hide hb7
  clear e7 ho6 ho7 hb6 hb7 HO6 HB6 HB5 HO5
  go_wp2_with fail
  refine (sum_any _ _ _ _ _ (HR.out _ _ HO7.out (by rw [oth_length]; exact HH.out.1) (oth_lt l HH.out.2.2.1))).mono ?_
  rintro e w8 ⟨rfl, hb8⟩
  have HB8 := hide (further HB7.out hb8)
  clear hb8 HB7 HO7
  go_wp2_with fail
  refine (refSum_any _ _ _ _ _ (HH.out.keep HB8.out)).mono ?_
  rintro e w9 ⟨rfl, rfl⟩
  go_wp2_with fail
  refine (other_any _ _ _ _ _ (HH.out.keep HB8.out)).mono ?_
  rintro e w10 ⟨g10, rfl, _, _, r10, hb10⟩
  have HB10 := hide (further HB8.out hb10)
  have R10 := hide r10
  clear r10 hb10 HB8
  go_wp2_with fail
  refine (refSum_any _ _ _ _ _ R10.out).mono ?_
  rintro e w11 ⟨rfl, rfl⟩
  have e1 := beq_cast (rfl : M.more 0 l = M.more 0 l)
  have e2 := beq_cast (rfl : M.more 0 (oth l) = M.more 0 (oth l))
  go_wp2
  go_ret
  exact ⟨rfl, HB10.out⟩

namespace SumSums
set_option maxRecDepth 100000 in
theorem lifted (os : Os) (started : os.Started) (H : Type) (enc : TypeId × Value → H) :
    ReturnsInHanded {} Try.checked os 3 .any (Rows.sumSumsSpec.pre6 enc Try.prog Try.f3 Rows.sumSumsRow.domain false) (Rows.sumSumsSpec.post enc Try.prog Try.f3 false true false false) := by
  refine returnsInHanded_of_change_sized (C := Try.checked) own started (by kernel_rfl) Try.func3
    (ChangeSpec.witness6 (enc := enc) (C := Try.checked) false ⟨#[], #[.slice none 0 0], []⟩ 8 (by kernel_rfl) (by kernel_rfl) (by kernel_rfl) (by kernel_rfl)) ?_
  intro W base args ds gs before hval0 hW _ hsz0 _
  have hsz : (DataW.weightsEach Try.prog (Try.f3.params.toList ++ Rows.sumSumsSpec.plain.varTypes Try.prog) (ds ++ gs)).all (· ≤ reachBytes) = true := hsz0
  have hval : ∀ (j : Nat) t v, Try.f3.params[j]? = some t → args[j]? = some v → Value.okWide Try.prog W .any base t v := hval0
  have hW' := hW
  obtain ⟨p, q, hA0, hV, rfl, hfz, hnd⟩ := hW
  have hA : DataW.TrodAll enc Try.prog W 0 (fun _ => true) true Try.f3.params.toList args.toList ds p := hA0
  rw [Try.params3] at hA hval hsz
  obtain ⟨v0, d0, rfl, rfl, h0⟩ := trodAll_one hA
  obtain ⟨rfl, rfl⟩ := trodVars_none hV
  have lt0 : ∀ x ∈ p, x.block < W.heap.size := by obtain ⟨m, hm⟩ := h0; exact DataW.trod_lt m _ _ _ hm
  obtain ⟨a0, n0, c0, rfl⟩ := okWide_slice Try.underlying22 (hval 0 22 v0 rfl rfl)
  obtain ⟨l0, hl0, hc0⟩ := open_bytes h0 (weigh hsz (j := 0) rfl rfl)
  have sm0 := open_small h0 (weigh hsz (j := 0) rfl rfl)
  clear hA0 hval0
  refine (sums_walk a0 n0 c0 l0 W hl0 sm0).mono fun e W' ⟨he, bel⟩ => ?_
  subst he
  exact ⟨_, rfl, _, _, _, [], _, [], hW', trodAll_mk1 (shut_bool Try.underlying4 _), trodAll_mk1 (Below.trod laidOut (by kernel_rfl) (of_decide_eq_true (by kernel_rfl)) h0 bel lt0), rfl, bel.frame _, fun h => by cases h⟩

theorem over : Rows.sumSumsRow.holds Try.pinned (OpenSpec.ofChange Rows.sumSumsSpec) :=
  OpenClaim.holds_of_wide 3 Try.f3 rfl rfl rfl rfl rfl rfl rfl ⟨rfl, rfl, rfl, rfl, rfl⟩ rfl rfl rfl rfl rfl (by kernel_rfl) Try.func3 (by kernel_rfl)
    (of_decide_eq_true (by kernel_rfl)) (by unfold Func.isWrapper; first | (rw [if_pos (by decide +kernel)]; kernel_rfl) | (rw [if_neg (by decide +kernel)]; exact ⟨rfl, rfl⟩))
    (fun os started H enc _ => lifted os started H enc)
end SumSums

theorem sumSums_holds : Rows.SumSumsSaid := SumSums.over
#print axioms sumSums_holds
end Go.Proofs.Ytciehainhhkikaa
