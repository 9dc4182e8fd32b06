/- PaceMixes, lifted. -/
import Derived.Test.YtfnndnceaddhgaaVLft
import Derived.Test.YtfnndnceaddhgaaVMix
namespace Go.Proofs.Ytfnndnceaddhgaa
open Go.ChangeShapes Go.WideShapes Go.ChangeAt Go.RowKit Go.Joins Go.Deep

theorem bytes_u64 : Try.prog.bytesOf 23 = 8 := by kernel_rfl
theorem open_words {H : Type} {enc : TypeId × Value → H} {W : World} {a : Option Addr} {n c : Nat} {d : DataW H} {p : List MemPlace}
    (h : DataW.Trod enc Try.prog W 0 (fun _ => true) true 24 (.slice a n c) d p) (hw : ∀ k ∈ d.weights Try.prog 24, k ≤ reachBytes) : ∃ z, RdU W a n z := by
  obtain ⟨fuel, hf⟩ := h
  rcases open_ints Try.underlying24 Try.underlying23 cells_u64 hf with ⟨hcs, _⟩ | ⟨y, len, cap, zs, hcs, _, hl, hm, hz, hx, hcell, hwz⟩
  · simp [Value.cells] at hcs
    obtain ⟨rfl, rfl, rfl⟩ := hcs
    exact ⟨[], by decide, by simp, .inl rfl⟩
  · simp [Value.cells] at hcs
    obtain ⟨rfl, rfl, rfl⟩ := hcs
    simp only [if_true] at hz
    simp only [Prod.mk.injEq] at hx
    have hreach : c * 8 ≤ 140737488351232 := by
      have := hw (((lits (H := H) .u64 (zs.take n)).length + (lits (H := H) .u64 (zs.drop n)).length) * 8) (by
        rw [hx.1]
        simp [DataW.weights, Try.underlying24, bytes_u64])
      simp only [lits, List.length_map, List.length_take, List.length_drop, reachBytes] at this
      omega
    have key : ∀ i, 0 ≤ zs.getD i 0 ∧ zs.getD i 0 < 18446744073709551616 := fun i => by
      rw [List.getD_eq_getElem?_getD]
      rcases hi : zs[i]? with _ | x
      · simp
      · have := bounds_u64 (hwz x (List.mem_of_getElem? hi))
        simp only [Option.getD_some]
        omega
    have keyN : ∀ i, (zs.map Int.toNat).getD i 0 = (zs.getD i 0).toNat := fun i => by
      rw [List.getD_eq_getElem?_getD, List.getD_eq_getElem?_getD, List.getElem?_map]
      rcases zs[i]? with _ | x <;> simp
    refine ⟨zs.map Int.toNat, by omega, fun i => by rw [keyN]; have := key i; omega, ?_⟩
    by_cases h0 : n = 0
    · exact .inl h0
    · right
      obtain ⟨b, off, spot⟩ := y
      have hspot : spot = none := by simpa [Addr.add] using World.cell?_spot (hcell 0 (by omega))
      subst hspot
      have hc : ∀ i, i < n → W.cell? ⟨b, off + i, none⟩ = some (.int .u64 (((zs.map Int.toNat).getD i 0 : Nat) : Int)) := fun i hi => by
        have hadd : (⟨b, off, none⟩ : Addr).add i = ⟨b, off + i, none⟩ := by unfold Addr.add; split <;> simp_all
        rw [← hadd, hcell i (by omega), keyN, Int.toNat_of_nonneg (key i).1, List.getD_eq_getElem?_getD]
      refine ⟨b, off, rfl, ?_, hc⟩
      have := hc 0 (by omega)
      by_cases hz' : b < W.heap.size
      · exact hz'
      · simp [World.cell?, show W.heap[b]? = none by simp; omega] at this

namespace PaceMixes
set_option maxRecDepth 100000 in
theorem lifted (os : Os) (started : os.Started) (H : Type) (enc : TypeId × Value → H) :
    ReturnsInHanded {} Try.checked os 4 .any (Rows.paceMixesSpec.pre6 enc Try.prog Try.f4 Rows.paceMixesRow.domain false) (Rows.paceMixesSpec.post enc Try.prog Try.f4 false true false false) := by
  refine returnsInHanded_of_change_sized (C := Try.checked) own started (by kernel_rfl) Try.func4
    (ChangeSpec.witness6 (enc := enc) (C := Try.checked) false ⟨#[], #[.int .u64 0, .int .u64 0, .slice none 0 0], []⟩ 8 (by kernel_rfl) (by kernel_rfl) (by kernel_rfl) (by kernel_rfl)) ?_
  intro W base args ds gs before hval0 hW _ hsz0 _
  have hsz : (DataW.weightsEach Try.prog (Try.f4.params.toList ++ Rows.paceMixesSpec.plain.varTypes Try.prog) (ds ++ gs)).all (· ≤ reachBytes) = true := hsz0
  have hval : ∀ (j : Nat) t v, Try.f4.params[j]? = some t → args[j]? = some v → Value.okWide Try.prog W .any base t v := hval0
  have hW' := hW
  obtain ⟨p, q, hA0, hV, rfl, hfz, hnd⟩ := hW
  have hA : DataW.TrodAll enc Try.prog W 0 (fun _ => true) true Try.f4.params.toList args.toList ds p := hA0
  rw [Try.params4] at hA hval hsz
  obtain ⟨v0, v1, v2, d0, d1, d2, p0, p1, p2, rfl, rfl, rfl, h0, h1, h2⟩ := trodAll_three hA
  obtain ⟨rfl, rfl⟩ := trodVars_none hV
  obtain ⟨x0, rfl, rfl, rfl, wf0⟩ := open_int Try.underlying23 (hval 0 23 v0 rfl rfl) h0
  have bd0 := bounds_u64 wf0
  obtain ⟨u0, rfl⟩ := Int.eq_ofNat_of_zero_le (show 0 ≤ x0 by omega)
  obtain ⟨x1, rfl, rfl, rfl, wf1⟩ := open_int Try.underlying23 (hval 1 23 v1 rfl rfl) h1
  have bd1 := bounds_u64 wf1
  obtain ⟨u1, rfl⟩ := Int.eq_ofNat_of_zero_le (show 0 ≤ x1 by omega)
  have lt2 : ∀ x ∈ p2, x.block < W.heap.size := by obtain ⟨m, hm⟩ := h2; exact DataW.trod_lt m _ _ _ hm
  obtain ⟨a2, n2, c2, rfl⟩ := okWide_slice Try.underlying24 (hval 2 24 v2 rfl rfl)
  obtain ⟨l2, hl2⟩ := open_words h2 (weigh hsz (j := 2) rfl rfl)
  clear hA0 hval0
  refine (mixes_walk u0 u1 a2 n2 c2 l2 W (by omega) (by omega) hl2).mono fun e W' ⟨he, bel⟩ => ?_
  subst he
  exact ⟨_, rfl, _, _, _, [], _, [], hW', trodAll_mk1 (shut_bool Try.underlying4 _), trodAll_mk3 (shut_int Try.underlying23 wf0) (shut_int Try.underlying23 wf1) (Below.trod laidOut (by kernel_rfl) (of_decide_eq_true (by kernel_rfl)) h2 bel lt2), rfl, bel.frame _, fun h => by cases h⟩

theorem over : Rows.paceMixesRow.holds Try.pinned (OpenSpec.ofChange Rows.paceMixesSpec) :=
  OpenClaim.holds_of_wide 4 Try.f4 rfl rfl rfl rfl rfl rfl rfl ⟨rfl, rfl, rfl, rfl, rfl⟩ rfl rfl rfl rfl rfl (by kernel_rfl) Try.func4 (by kernel_rfl)
    (of_decide_eq_true (by kernel_rfl)) (by unfold Func.isWrapper; first | (rw [if_pos (by decide +kernel)]; kernel_rfl) | (rw [if_neg (by decide +kernel)]; exact ⟨rfl, rfl⟩))
    (fun os started H enc _ => lifted os started H enc)
end PaceMixes

theorem paceMixes_holds : Rows.PaceMixesSaid := PaceMixes.over
#print axioms paceMixes_holds
end Go.Proofs.Ytfnndnceaddhgaa
