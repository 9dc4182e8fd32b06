/- CodecRefuses. -/
import Derived.Test.YtbjcckfhfbjchaaGreatCHb
import Derived.Test.YtbjcckfhfbjchaaGreatPOpen
namespace Go.Proofs.YtbjcckfhfbjchaaGreat
namespace Cd
open Go.RowKit Go.Deep

theorem set_lu {d : Ov} {v : Nat} (h : d.lu < 18446744073709551616) (hv : v ≤ 16) (j : Nat) : (setP d (vals v) j).lu < 18446744073709551616 := by
  match j with
  | 0 => exact h
  | 1 => exact h
  | 2 => exact h
  | 3 => exact h
  | 4 => exact h
  | 5 => exact h
  | 6 => exact h
  | 7 => show v < _; omega
  | n + 8 => exact h
theorem refuse_walk (y1 y2 : Int) (q : De) (w : World) (hq : q.In w) (a1 : -9223372036854775808 ≤ y1) (a2 : y1 ≤ 9223372036854775807) (b1 : -9223372036854775808 ≤ y2) (b2 : y2 ≤ 9223372036854775807) :
    Calls Tryz.prog 7 #[.agg q.row.toArray, .int .i64 y1, .int .i64 y2] w fun en w' => en = .returned (.bool true) ∧ Below w.heap.size w w' := by
  have hk := opv_k q hq.tx.2.2.1 hq.lu
  have p1 := pkk_lt (c := y1) (n := 9) (by decide)
  have p2 := pkk_lt (c := y2) (n := 16) (by decide)
  have p3 := pkk_lt (c := y2) (n := 1000) (by decide)
  obtain ⟨j, hj⟩ := Int.eq_ofNat_of_zero_le p1.1
  obtain ⟨u, hu⟩ := Int.eq_ofNat_of_zero_le p2.1
  have hki : (opv q).ki = 1 + pkk q.ki 9 := by
    have t := opv_ki q
    unfold opv
    generalize 1 + pkk q.ki 9 = k at *
    rcases (by omega : k = 1 ∨ k = 2 ∨ k = 3 ∨ k = 4 ∨ k = 5 ∨ k = 6 ∨ k = 7 ∨ k = 8 ∨ k = 9) with rfl | rfl | rfl | rfl | rfl | rfl | rfl | rfl | rfl <;> rfl
  have hkb := opv_ki q
  have hj9 : j < 9 := by omega
  have hv : 1 ≤ u + 1 ∧ u + 1 ≤ 16 := by omega
  refine refuse_core y1 y2 q w hq (opv q) j (u + 1) (u : Int) (pkk y2 1000) hj9 hv (by omega) (hide ⟨hk, by omega, by omega⟩)
    (hide fun h => ?_) (hide fun h => ?_) p3 (hide (set_b hk.b hv.1 hv.2 j)) (hide (by show (setP (opv q) (vals (u + 1)) j).ki ≤ _; rw [set_ki]; omega)) (hide (set_lu hk.ok.lu hv.2 j))
    (hide fun W h => opOf12_any q W h) (hide fun W => ?_) (hide fun W => ?_) (hide fun W => ?_) (hide fun W => ?_)
  · rw [hki] at h
    exact opk_set hkb hq.tx.2.2.1 hv.1 hv.2 h
  · by_cases e : j = 2 ∧ (u + 1) % 16 = 0
    · refine .inr ?_
      have h2 := h
      rw [hki] at h2
      rw [e.1] at h2 ⊢
      exact opk_same hkb e.2 h2
    · exact .inl (set_no hv.1 hj9 h fun h2 h3 => e ⟨h2, h3⟩)
  · have t := pick12_val y2 16 (by decide) ⟨b1, b2⟩ (by decide) W
    rw [hu] at t
    exact t
  · have t := pick12_val y1 9 (by decide) ⟨a1, a2⟩ (by decide) W
    rw [hj] at t
    exact t
  · exact pick12_val y2 1000 (by decide) ⟨b1, b2⟩ (by decide) W
  · have t := pick12_val ((u + 1 : Nat) : Int) 16 (by decide) ⟨by omega, by omega⟩ (by decide) W
    have e : pkk ((u + 1 : Nat) : Int) 16 = (((u + 1) % 16 : Nat) : Int) := by
      show (if ((u + 1 : Nat) : Int) < 0 then _ else _) % 16 = _
      rw [if_neg (by omega)]
      omega
    rw [e] at t
    exact t
end Cd
open Go.ChangeShapes Go.WideShapes Go.ChangeAt Go.RowKit Go.Joins Go.Deep
open Cd

namespace CodecRefuses
set_option maxRecDepth 100000 in
theorem lifted (os : Os) (started : os.Started) (H : Type) (enc : TypeId × Value → H) :
    ReturnsInHanded {} Tryz.checked os 7 .any (Rows.codecRefusesSpec.pre6 enc Tryz.prog Tryz.f7 Rows.codecRefusesRow.domain false) (Rows.codecRefusesSpec.post enc Tryz.prog Tryz.f7 false true false false) := by
  refine returnsInHanded_of_change_sized (C := Tryz.checked) own started (by kernel_rfl) Tryz.func7
    (ChangeSpec.witness6 (enc := enc) (C := Tryz.checked) false ⟨#[], #[.agg #[.int .i64 0, .slice none 0 0, .int .i64 0, .int .i64 0, .slice none 0 0, .int .u64 0], .int .i64 0, .int .i64 0], []⟩ 8 (by kernel_rfl) (by kernel_rfl) (by kernel_rfl) (by kernel_rfl)) ?_
  intro W base args ds gs before hval0 hW _ hsz0 _
  have hsz : (DataW.weightsEach Tryz.prog (Tryz.f7.params.toList ++ Rows.codecRefusesSpec.plain.varTypes Tryz.prog) (ds ++ gs)).all (· ≤ reachBytes) = true := hsz0
  have hval : ∀ (j : Nat) t v, Tryz.f7.params[j]? = some t → args[j]? = some v → Value.okWide Tryz.prog W .any base t v := hval0
  have hW' := hW
  obtain ⟨p, q, hA0, hV, rfl, hfz, hnd⟩ := hW
  have hA : DataW.TrodAll enc Tryz.prog W 0 (fun _ => true) true Tryz.f7.params.toList args.toList ds p := hA0
  rw [Tryz.params7] at hA hval hsz
  obtain ⟨v0, v1, v2, d0, d1, d2, p0, p1, p2, rfl, rfl, rfl, h0, h1, h2⟩ := trodAll_three hA
  obtain ⟨rfl, rfl⟩ := trodVars_none hV
  have lt0 : ∀ x ∈ p0, x.block < W.heap.size := by obtain ⟨m, hm⟩ := h0; exact DataW.trod_lt m _ _ _ hm
  obtain ⟨q0, rfl, hq0⟩ := open_deed (hval 0 27 v0 rfl rfl) h0 (weigh hsz (j := 0) rfl rfl)
  obtain ⟨x1, rfl, rfl, rfl, wf1⟩ := open_int Tryz.underlying3 (hval 1 3 v1 rfl rfl) h1
  have bd1 := bounds_i64 wf1
  obtain ⟨x2, rfl, rfl, rfl, wf2⟩ := open_int Tryz.underlying3 (hval 2 3 v2 rfl rfl) h2
  have bd2 := bounds_i64 wf2
  clear hA0 hval0
  refine (Cd.refuse_walk x1 x2 q0 W hq0 (by omega) (by omega) (by omega) (by omega)).mono fun e W' ⟨he, bel⟩ => ?_
  subst he
  exact ⟨_, rfl, _, _, _, [], _, [], hW', trodAll_mk1 (shut_bool Tryz.underlying4 _), trodAll_mk3 (Below.trod laidOut (by kernel_rfl) (of_decide_eq_true (by kernel_rfl)) h0 bel lt0) (shut_int Tryz.underlying3 wf1) (shut_int Tryz.underlying3 wf2), rfl, bel.frame _, fun h => by cases h⟩

theorem over : Rows.codecRefusesRow.holds Tryz.pinned (OpenSpec.ofChange Rows.codecRefusesSpec) :=
  OpenClaim.holds_of_wide 7 Tryz.f7 rfl rfl rfl rfl rfl rfl rfl ⟨rfl, rfl, rfl, rfl, rfl⟩ rfl rfl rfl rfl rfl (by kernel_rfl) Tryz.func7 (by kernel_rfl)
    (of_decide_eq_true (by kernel_rfl)) (by unfold Func.isWrapper; first | (rw [if_pos (by decide +kernel)]; kernel_rfl) | (rw [if_neg (by decide +kernel)]; exact ⟨rfl, rfl⟩))
    (fun os started H enc _ => lifted os started H enc)
end CodecRefuses

theorem codecRefuses_holds : Rows.CodecRefusesSaid := CodecRefuses.over
#print axioms codecRefuses_holds
end Go.Proofs.YtbjcckfhfbjchaaGreat
