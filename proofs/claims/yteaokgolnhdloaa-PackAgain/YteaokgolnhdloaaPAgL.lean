/- PackAgain: what came in, opened; the row. -/
import Derived.Test.YteaokgolnhdloaaPAgW
import Derived.Test.YteaokgolnhdloaaPOpen
import Derived.Deep.Matrix
namespace Go.Proofs.Yteaokgolnhdloaa
open Go.ChangeShapes Go.WideShapes Go.ChangeAt Go.RowKit Go.Joins Go.Deep
namespace Ag
theorem bytes_sl8 : Try.prog.bytesOf 22 = 24 := by kernel_rfl
theorem cells_sl8 : Try.prog.cellsOf 22 = 1 := by kernel_rfl
theorem mem_weightsAll {H : Type} {P : Program} {e : TypeId} : ∀ {l : List (DataW H)} {d : DataW H} {k : Nat}, d ∈ l → k ∈ d.weights P e → k ∈ DataW.weightsAll P e l := by
  intro l
  induction l with
  | nil => intro d k h; cases h
  | cons x l ih =>
    intro d k h hk
    simp only [DataW.weightsAll, List.mem_append]
    rcases List.mem_cons.1 h with rfl | h
    · exact .inl hk
    · exact .inr (ih h hk)
theorem open_rows {H : Type} {enc : TypeId × Value → H} {W : World} {a : Option Addr} {n c : Nat} {d : DataW H} {p : List MemPlace}
    (h : DataW.Trod enc Try.prog W 0 (fun _ => true) true 41 (.slice a n c) d p) (hw : ∀ k ∈ d.weights Try.prog 41, k ≤ reachBytes) :
    ∃ ls, Wm.RdC W a n ls ∧ n ≤ c ∧ (∀ l ∈ ls, l.length ≤ 140737488351232) := by
  obtain ⟨fuel, hf⟩ := h
  have hf : DataW.trod enc Try.prog W 0 (fun _ => true) true fuel 41 [.slice a n c] = some (d, p) := by simpa [Value.cells] using hf
  rcases open_int_rows Try.underlying41 Try.underlying22 Try.underlying5 cells_sl8 cells_u8 hf with ⟨hcs, _⟩ | ⟨ad, len, cap, A, L, C, Z, hcs, _, hl, hm, hx, hcell⟩
  · simp at hcs
    obtain ⟨rfl, rfl, rfl⟩ := hcs
    exact ⟨[], ⟨rfl, by omega, .inl rfl⟩, Nat.le_refl _, fun l hl => by cases hl⟩
  · simp at hcs
    obtain ⟨rfl, rfl, rfl⟩ := hcs
    simp only [Prod.mk.injEq] at hx
    rw [hx.1] at hw
    have hlen : n ≤ 140737488351232 := by
      have := hw ((((List.range n).map fun r => (intRow .u8 (A r) (L r) (Z r) : DataW H)).length + ((List.range (c - n)).map fun j => (intRow .u8 (A (n + j)) (L (n + j)) (Z (n + j)) : DataW H)).length) * 24) (by
        simp [DataW.weights, Try.underlying41, bytes_sl8])
      simp only [List.length_map, List.length_range, reachBytes] at this
      omega
    have hrow : ∀ i, i < n → ∃ l : List Nat, l = ((Z i).take (L i)).map Int.toNat ∧ W.cell? (ad.add i) = some (.slice (A i) l.length (C i)) ∧ Rd W (A i) l.length l ∧ (A i = none → C i = 0) ∧ l.length ≤ 140737488351232 := by
      intro i hi
      obtain ⟨h1, hLC, _, hZC, hwf, hA0, hA⟩ := hcell i (by omega)
      have hzl : (((Z i).take (L i)).map Int.toNat).length = L i := by rw [List.length_map, List.length_take]; omega
      have hLb : L i ≤ 140737488351232 := by
        cases hAi : A i with
        | none => have := hA0 hAi; omega
        | some a' =>
          have := hw (((lits (H := H) .u8 ((Z i).take (L i))).length + (lits (H := H) .u8 ((Z i).drop (L i))).length) * 1) (by
            simp only [DataW.weights, Try.underlying41, List.mem_cons, List.mem_append]
            refine .inr (.inl (mem_weightsAll (d := intRow .u8 (A i) (L i) (Z i)) (List.mem_map.2 ⟨i, List.mem_range.2 hi, rfl⟩) ?_))
            rw [hAi]
            simp [intRow, DataW.weights, Try.underlying22, bytes_u8])
          simp only [lits, List.length_map, List.length_take, List.length_drop, reachBytes] at this
          omega
      refine ⟨_, rfl, by rw [hzl]; exact h1, ?_, hA0, by rw [hzl]; exact hLb⟩
      rw [hzl]
      refine ⟨hzl.symm, by omega, fun d hd => ?_, ?_⟩
      · simp only [List.mem_map] at hd
        obtain ⟨z, hz', rfl⟩ := hd
        have := bounds_u8 (hwf z (List.mem_of_mem_take hz'))
        omega
      · by_cases h0 : L i = 0
        · exact .inl h0
        · right
          cases hAi : A i with
          | none => have := hA0 hAi; omega
          | some a' =>
            obtain ⟨_, hc⟩ := hA a' hAi
            obtain ⟨b, off, spot⟩ := a'
            have hspot : spot = none := by simpa [Addr.add] using World.cell?_spot (hc 0 (by omega))
            subst hspot
            refine ⟨b, off, rfl, fun j hj => ?_⟩
            have hadd : (⟨b, off, none⟩ : Addr).add j = ⟨b, off + j, none⟩ := by unfold Addr.add; split <;> simp_all
            rw [← hadd, hc j (by omega)]
            have hbi := range_u8 hwf j
            have e : (((Z i).take (L i)).map Int.toNat).getD j 0 = ((Z i).getD j 0).toNat := by
              simp only [List.getD_eq_getElem?_getD, List.getElem?_map, List.getElem?_take, if_pos hj]
              rw [List.getElem?_eq_getElem (show j < (Z i).length by omega)]
              rfl
            rw [e, List.getD_eq_getElem?_getD, Int.toNat_of_nonneg hbi.1]
    refine ⟨(List.range n).map fun i => ((Z i).take (L i)).map Int.toNat, ⟨by simp, by omega, ?_⟩, hl, fun l hl => ?_⟩
    · by_cases h0 : n = 0
      · exact .inl h0
      · right
        obtain ⟨b, off, spot⟩ := ad
        obtain ⟨_, _, h00, _⟩ := hrow 0 (by omega)
        have hspot : spot = none := by simpa [Addr.add] using World.cell?_spot h00
        subst hspot
        refine ⟨b, off, rfl, fun i l hi => ?_⟩
        have hin : i < n := by have := (List.getElem?_eq_some_iff.1 hi).1; simpa using this
        rw [List.getElem?_map, List.getElem?_range hin] at hi
        simp only [Option.map_some, Option.some.injEq] at hi
        subst hi
        obtain ⟨_, rfl, h1, h2, h3, _⟩ := hrow i hin
        have hadd : (⟨b, off, none⟩ : Addr).add i = ⟨b, off + i, none⟩ := by unfold Addr.add; split <;> simp_all
        rw [hadd] at h1
        exact ⟨_, _, h1, h2, h3⟩
    · simp only [List.mem_map, List.mem_range] at hl
      obtain ⟨i, hi, rfl⟩ := hl
      obtain ⟨_, rfl, _, _, _, h4⟩ := hrow i hi
      exact h4
end Ag
namespace PackAgain
set_option maxRecDepth 100000 in
theorem lifted (os : Os) (started : os.Started) (H : Type) (enc : TypeId × Value → H) :
    ReturnsInHanded {} Try.checked os 4 .any (Rows.packAgainSpec.pre6 enc Try.prog Try.f4 Rows.packAgainRow.domain false) (Rows.packAgainSpec.post enc Try.prog Try.f4 false true false false) := by
  refine returnsInHanded_of_change_sized (C := Try.checked) own started (by kernel_rfl) Try.func4
    (ChangeSpec.witness6 (enc := enc) (C := Try.checked) false ⟨#[], #[.slice none 0 0, .slice none 0 0, .slice none 0 0], []⟩ 8 (by kernel_rfl) (by kernel_rfl) (by kernel_rfl) (by kernel_rfl)) ?_
  intro W base args ds gs before hval0 hW _ hsz0 _
  have hsz : (DataW.weightsEach Try.prog (Try.f4.params.toList ++ Rows.packAgainSpec.plain.varTypes Try.prog) (ds ++ gs)).all (· ≤ reachBytes) = true := hsz0
  have hval : ∀ (j : Nat) t v, Try.f4.params[j]? = some t → args[j]? = some v → Value.okWide Try.prog W .any base t v := hval0
  have hW' := hW
  obtain ⟨p, q, hA0, hV, rfl, hfz, hnd⟩ := hW
  have hA : DataW.TrodAll enc Try.prog W 0 (fun _ => true) true Try.f4.params.toList args.toList ds p := hA0
  rw [Try.params4] at hA hval hsz
  obtain ⟨v0, v1, v2, d0, d1, d2, p0, p1, p2, rfl, rfl, rfl, h0, h1, h2⟩ := trodAll_three hA
  obtain ⟨rfl, rfl⟩ := trodVars_none hV
  have lt0 : ∀ x ∈ p0, x.block < W.heap.size := by obtain ⟨m, hm⟩ := h0; exact DataW.trod_lt m _ _ _ hm
  have lt1 : ∀ x ∈ p1, x.block < W.heap.size := by obtain ⟨m, hm⟩ := h1; exact DataW.trod_lt m _ _ _ hm
  have lt2 : ∀ x ∈ p2, x.block < W.heap.size := by obtain ⟨m, hm⟩ := h2; exact DataW.trod_lt m _ _ _ hm
  obtain ⟨a0, n0, c0, rfl⟩ := okWide_slice Try.underlying41 (hval 0 41 v0 rfl rfl)
  obtain ⟨a1, n1, c1, rfl⟩ := okWide_slice Try.underlying22 (hval 1 22 v1 rfl rfl)
  obtain ⟨a2, n2, c2, rfl⟩ := okWide_slice Try.underlying22 (hval 2 22 v2 rfl rfl)
  obtain ⟨ls, hls, _, _⟩ := Ag.open_rows h0 (weigh hsz (j := 0) rfl rfl)
  obtain ⟨l1, hl1, hc1, hz1⟩ := open_bytes h1 (weigh hsz (j := 1) rfl rfl)
  have hn1 : n1 ≤ 140737488351232 := by
    obtain ⟨fuel, hf⟩ := h1
    exact trod_small (x := (d1, p1)) (by simpa [Value.cells] using hf) (weigh hsz (j := 1) rfl rfl)
  obtain ⟨l2, hl2, _, _⟩ := open_bytes h2 (weigh hsz (j := 2) rfl rfl)
  clear hA0 hval0
  refine (Wm.ag_walk a0 n0 c0 ls a1 n1 c1 l1 a2 n2 c2 l2 W hls hl1 hz1 hn1 hl2).mono fun e W' ⟨he, bel⟩ => ?_
  subst he
  exact ⟨_, rfl, _, _, _, [], _, [], hW', trodAll_mk1 (shut_bool Try.underlying4 _), trodAll_mk3 (Below.trod laidOut (by kernel_rfl) (of_decide_eq_true (by kernel_rfl)) h0 bel lt0) (Below.trod laidOut (by kernel_rfl) (of_decide_eq_true (by kernel_rfl)) h1 bel lt1) (Below.trod laidOut (by kernel_rfl) (of_decide_eq_true (by kernel_rfl)) h2 bel lt2), rfl, bel.frame _, fun h => by cases h⟩

theorem over : Rows.packAgainRow.holds Try.pinned (OpenSpec.ofChange Rows.packAgainSpec) :=
  OpenClaim.holds_of_wide 4 Try.f4 rfl rfl rfl rfl rfl rfl rfl ⟨rfl, rfl, rfl, rfl, rfl⟩ rfl rfl rfl rfl rfl (by kernel_rfl) Try.func4 (by kernel_rfl)
    (of_decide_eq_true (by kernel_rfl)) (by unfold Func.isWrapper; first | (rw [if_pos (by decide +kernel)]; kernel_rfl) | (rw [if_neg (by decide +kernel)]; exact ⟨rfl, rfl⟩))
    (fun os started H enc _ => lifted os started H enc)
end PackAgain

theorem packAgain_holds : Rows.PackAgainSaid := PackAgain.over
#print axioms packAgain_holds
end Go.Proofs.Yteaokgolnhdloaa
