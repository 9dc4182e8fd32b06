/- SumBursts. -/
import Derived.Test.YtciehainhhkikaaFlip
namespace Go.Proofs.Ytciehainhhkikaa
open Go.ChangeShapes Go.WideShapes Go.ChangeAt Go.RowKit Go.Joins

theorem burst_int (l : List Nat) (n p m : Nat) (hl : ∀ d ∈ l, d < 256) (hn : n = l.length) (hp : p ≤ 8 * n) : (M.othTo n p m 32 == (((M.more 0 l : Nat) : Int) != ((M.more 0 (M.flipTo l p m 32) : Nat) : Int))) = true := by
  subst hn
  have h := M.burst l p m hl hp
  have e : (((M.more 0 l : Nat) : Int) != ((M.more 0 (M.flipTo l p m 32) : Nat) : Int)) = (M.more 0 l != M.more 0 (M.flipTo l p m 32)) := by
    rw [Bool.eq_iff_iff, bne_iff_ne, bne_iff_ne]
    omega
  rw [e]; exact h

set_option maxHeartbeats 1000000 in
theorem bursts_walk (a : Option Addr) (n c : Nat) (l : List Nat) (at_ : Int) (m : Nat) (w : World) (h : Rd w a n l) (ha1 : -9223372036854775808 ≤ at_) (ha2 : at_ ≤ 9223372036854775807) (hm : m < 4294967296) :
    Calls Try.prog 8 #[.slice a n c, .int .i64 at_, .int .u32 (m : Int)] w fun e w' => e = .returned (.bool true) ∧ Below w.heap.size w w' := by
  have hn := h.2.1
  have HH := hide h
  clear h
  go_enter Try.func8, Try.ntmps8
  go_wp2_with fail
  refine (awake_any _).mono ?_
  rintro e w1 ⟨rfl, hb1⟩
  have HB1 := hide hb1
  clear hb1
  go_wp2_with fail
  refine (twin_ex _ _ _ _ _ (HH.out.keep HB1.out)).mono ?_
  rintro e w2 ⟨g2, rfl, _, ho2, r2, hb2⟩
  have HB2 := hide (further HB1.out hb2)
  have R2 := hide r2
  clear ho2 r2 hb2 HB1
  go_wp2_with fail
  refine (sum_any _ _ _ _ _ R2.out).mono ?_
  rintro e w3 ⟨rfl, hb3⟩
  have HB3 := hide (further HB2.out hb3)
  clear R2 hb3 HB2
  go_wp2_with fail
  refine (pick_any _ _ ha1 ha2 (by omega) (by omega) _).mono ?_
  rintro e w' ⟨p, rfl, hp, rfl⟩
  go_wp2_with fail
  refine (flipped_any _ _ _ _ _ _ _ (HH.out.keep HB3.out) (by omega) hm).mono ?_
  rintro e w4 ⟨g4, rfl, ho4, hb4⟩
  have HB4 := hide (further HB3.out hb4)
  have R4 := hide (ho4.rdn n (by rw [M.flip_length]; exact HH.out.1) hn (M.flip_lt l p m 32 HH.out.2.2.1))
  clear ho4 hb4 HB3
  go_wp2_with fail
  refine (sum_any _ _ _ _ _ R4.out).mono ?_
  rintro e w5 ⟨rfl, hb5⟩
  have HB5 := hide (further HB4.out hb5)
  have hbu := burst_int l n p m HH.out.2.2.1 HH.out.1 (by omega)
  clear hb5 HB4 R4
  go_wp2
  go_ret
  exact ⟨rfl, HB5.out⟩

namespace SumBursts
set_option maxRecDepth 100000 in
theorem lifted (os : Os) (started : os.Started) (H : Type) (enc : TypeId × Value → H) :
    ReturnsInHanded {} Try.checked os 8 .any (Rows.sumBurstsSpec.pre6 enc Try.prog Try.f8 Rows.sumBurstsRow.domain false) (Rows.sumBurstsSpec.post enc Try.prog Try.f8 false true false false) := by
  refine returnsInHanded_of_change_sized (C := Try.checked) own started (by kernel_rfl) Try.func8
    (ChangeSpec.witness6 (enc := enc) (C := Try.checked) false ⟨#[], #[.slice none 0 0, .int .i64 0, .int .u32 0], []⟩ 8 (by kernel_rfl) (by kernel_rfl) (by kernel_rfl) (by kernel_rfl)) ?_
  intro W base args ds gs before hval0 hW _ hsz0 _
  have hsz : (DataW.weightsEach Try.prog (Try.f8.params.toList ++ Rows.sumBurstsSpec.plain.varTypes Try.prog) (ds ++ gs)).all (· ≤ reachBytes) = true := hsz0
  have hval : ∀ (j : Nat) t v, Try.f8.params[j]? = some t → args[j]? = some v → Value.okWide Try.prog W .any base t v := hval0
  have hW' := hW
  obtain ⟨p, q, hA0, hV, rfl, hfz, hnd⟩ := hW
  have hA : DataW.TrodAll enc Try.prog W 0 (fun _ => true) true Try.f8.params.toList args.toList ds p := hA0
  rw [Try.params8] at hA hval hsz
  obtain ⟨v0, v1, v2, d0, d1, d2, p0, p1, p2, rfl, rfl, rfl, h0, h1, h2⟩ := trodAll_three hA
  obtain ⟨rfl, rfl⟩ := trodVars_none hV
  have lt0 : ∀ x ∈ p0, x.block < W.heap.size := by obtain ⟨m, hm⟩ := h0; exact DataW.trod_lt m _ _ _ hm
  obtain ⟨a0, n0, c0, rfl⟩ := okWide_slice Try.underlying22 (hval 0 22 v0 rfl rfl)
  obtain ⟨l0, hl0, hc0⟩ := open_bytes h0 (weigh hsz (j := 0) rfl rfl)
  obtain ⟨x1, rfl, rfl, rfl, wf1⟩ := open_int Try.underlying3 (hval 1 3 v1 rfl rfl) h1
  have bd1 := bounds_i64 wf1
  obtain ⟨x2, rfl, rfl, rfl, wf2⟩ := open_int Try.underlying25 (hval 2 25 v2 rfl rfl) h2
  obtain ⟨u2, rfl, hu2⟩ := u32_nat wf2
  clear hA0 hval0
  refine (bursts_walk a0 n0 c0 l0 x1 u2 W hl0 bd1.1 bd1.2 hu2).mono fun e W' ⟨he, bel⟩ => ?_
  subst he
  exact ⟨_, rfl, _, _, _, [], _, [], hW', trodAll_mk1 (shut_bool Try.underlying4 _), trodAll_mk3 (Below.trod laidOut (by kernel_rfl) (of_decide_eq_true (by kernel_rfl)) h0 bel lt0) (shut_int Try.underlying3 wf1) (shut_int Try.underlying25 wf2), rfl, bel.frame _, fun h => by cases h⟩

theorem over : Rows.sumBurstsRow.holds Try.pinned (OpenSpec.ofChange Rows.sumBurstsSpec) :=
  OpenClaim.holds_of_wide 8 Try.f8 rfl rfl rfl rfl rfl rfl rfl ⟨rfl, rfl, rfl, rfl, rfl⟩ rfl rfl rfl rfl rfl (by kernel_rfl) Try.func8 (by kernel_rfl)
    (of_decide_eq_true (by kernel_rfl)) (by unfold Func.isWrapper; first | (rw [if_pos (by decide +kernel)]; kernel_rfl) | (rw [if_neg (by decide +kernel)]; exact ⟨rfl, rfl⟩))
    (fun os started H enc _ => lifted os started H enc)
end SumBursts

theorem sumBursts_holds : Rows.SumBurstsSaid := SumBursts.over
#print axioms sumBursts_holds
end Go.Proofs.Ytciehainhhkikaa
