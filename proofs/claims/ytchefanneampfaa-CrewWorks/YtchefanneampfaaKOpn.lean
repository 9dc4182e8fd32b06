/- The laws of crew: what came in, opened. -/
import Derived.Test.YtchefanneampfaaRows
import Derived.Test.YtchefanneampfaaKAwk
import Derived.ProofKit
import Derived.OpenShut
import Derived.ChangeOld
import Derived.Below
import Derived.WalkSpells
import Derived.Lib.SmallJoins
import Derived.SizedLaws
import Derived.Deep.Fields
import Derived.Deep.Matrix
namespace Go.Proofs.Ytchefanneampfaa
namespace Cw
open Go.ChangeShapes Go.WideShapes Go.ChangeAt Go.RowKit Go.Joins Go.Deep

theorem own : ownKnob Try.prog.godebug = none := by kernel_rfl
theorem laidOut : laidOutB Try.prog = true := by kernel_rfl
theorem bytes_u8 : Try.prog.bytesOf 5 = 1 := by kernel_rfl
theorem cells_u8 : Try.prog.cellsOf 5 = 1 := by kernel_rfl
theorem bytes_sl8 : Try.prog.bytesOf 25 = 24 := by kernel_rfl
theorem cells_sl8 : Try.prog.cellsOf 25 = 1 := by kernel_rfl
/-- the weights of one argument -/
theorem weigh {H : Type} {ts : List TypeId} {ds : List (DataW H)} (h : (DataW.weightsEach Try.prog ts ds).all (· ≤ reachBytes) = true) {j : Nat} {t : TypeId} {d : DataW H} (ht : ts[j]? = some t) (hd : ds[j]? = some d) : ∀ k ∈ d.weights Try.prog t, k ≤ reachBytes := fun k hk => by
  have := List.all_eq_true.1 h _ (DataW.weights_mem_each ht hd k hk)
  simpa using this
theorem mem_weightsAll {H : Type} {P : Program} {e : TypeId} : ∀ {l : List (DataW H)} {d : DataW H} {k : Nat}, d ∈ l → k ∈ d.weights P e → k ∈ DataW.weightsAll P e l := by
  intro l
  induction l with
  | nil => intro d k h; cases h
  | cons x l ih =>
    intro d k h hk
    simp only [DataW.weightsAll, List.mem_append]
    rcases List.mem_cons.1 h with rfl | h
    · exact .inl hk
    · exact .inr (ih h hk)
theorem open_rows {H : Type} {enc : TypeId × Value → H} {W : World} {a : Option Addr} {n c : Nat} {d : DataW H} {p : List MemPlace}
    (h : DataW.Trod enc Try.prog W 0 (fun _ => true) true 22 (.slice a n c) d p) (hw : ∀ k ∈ d.weights Try.prog 22, k ≤ reachBytes) :
    ∃ ls, Ins W a n ls ∧ n ≤ c ∧ (∀ l ∈ ls, l.length ≤ 140737488351232) := by
  obtain ⟨fuel, hf⟩ := h
  have hf : DataW.trod enc Try.prog W 0 (fun _ => true) true fuel 22 [.slice a n c] = some (d, p) := by simpa [Value.cells] using hf
  rcases open_int_rows Try.underlying22 Try.underlying25 Try.underlying5 cells_sl8 cells_u8 hf with ⟨hcs, _⟩ | ⟨ad, len, cap, A, L, C, Z, hcs, _, hl, hm, hx, hcell⟩
  · simp at hcs
    obtain ⟨rfl, rfl, rfl⟩ := hcs
    exact ⟨[], ins_nil W, Nat.le_refl _, fun l hl => by cases hl⟩
  · simp at hcs
    obtain ⟨rfl, rfl, rfl⟩ := hcs
    simp only [Prod.mk.injEq] at hx
    rw [hx.1] at hw
    have hlen : n ≤ 140737488351232 := by
      have := hw ((((List.range n).map fun r => (intRow .u8 (A r) (L r) (Z r) : DataW H)).length + ((List.range (c - n)).map fun j => (intRow .u8 (A (n + j)) (L (n + j)) (Z (n + j)) : DataW H)).length) * 24) (by
        simp [DataW.weights, Try.underlying22, bytes_sl8])
      simp only [List.length_map, List.length_range, reachBytes] at this
      omega
    have hrow : ∀ i, i < n → ∃ l : List Nat, l = ((Z i).take (L i)).map Int.toNat ∧ W.cell? (ad.add i) = some (.slice (A i) l.length (C i)) ∧ Rd W (A i) l.length l ∧ (A i = none → C i = 0) ∧ l.length ≤ 140737488351232 := by
      intro i hi
      obtain ⟨h1, hLC, _, hZC, hwf, hA0, hA⟩ := hcell i (by omega)
      have hzl : (((Z i).take (L i)).map Int.toNat).length = L i := by rw [List.length_map, List.length_take]; omega
      have hLb : L i ≤ 140737488351232 := by
        cases hAi : A i with
        | none => have := hA0 hAi; omega
        | some a' =>
          have := hw (((lits (H := H) .u8 ((Z i).take (L i))).length + (lits (H := H) .u8 ((Z i).drop (L i))).length) * 1) (by
            simp only [DataW.weights, Try.underlying22, List.mem_cons, List.mem_append]
            refine .inr (.inl (mem_weightsAll (d := intRow .u8 (A i) (L i) (Z i)) (List.mem_map.2 ⟨i, List.mem_range.2 hi, rfl⟩) ?_))
            rw [hAi]
            simp [intRow, DataW.weights, Try.underlying25, bytes_u8])
          simp only [lits, List.length_map, List.length_take, List.length_drop, reachBytes] at this
          omega
      refine ⟨_, rfl, by rw [hzl]; exact h1, ?_, hA0, by rw [hzl]; exact hLb⟩
      rw [hzl]
      refine ⟨hzl.symm, by omega, fun d hd => ?_, ?_⟩
      · simp only [List.mem_map] at hd
        obtain ⟨z, hz', rfl⟩ := hd
        have := bounds_u8 (hwf z (List.mem_of_mem_take hz'))
        omega
      · by_cases h0 : L i = 0
        · exact .inl h0
        · right
          cases hAi : A i with
          | none => have := hA0 hAi; omega
          | some a' =>
            obtain ⟨_, hc⟩ := hA a' hAi
            obtain ⟨b, off, spot⟩ := a'
            have hspot : spot = none := by simpa [Addr.add] using World.cell?_spot (hc 0 (by omega))
            subst hspot
            refine ⟨b, off, rfl, fun j hj => ?_⟩
            have hadd : (⟨b, off, none⟩ : Addr).add j = ⟨b, off + j, none⟩ := by unfold Addr.add; split <;> simp_all
            rw [← hadd, hc j (by omega)]
            have hbi := range_u8 hwf j
            have e : (((Z i).take (L i)).map Int.toNat).getD j 0 = ((Z i).getD j 0).toNat := by
              simp only [List.getD_eq_getElem?_getD, List.getElem?_map, List.getElem?_take, if_pos hj]
              rw [List.getElem?_eq_getElem (show j < (Z i).length by omega)]
              rfl
            rw [e, List.getD_eq_getElem?_getD, Int.toNat_of_nonneg hbi.1]
    refine ⟨(List.range n).map fun i => ((Z i).take (L i)).map Int.toNat, ⟨by simp, by omega, ?_⟩, hl, fun l hl => ?_⟩
    · by_cases h0 : n = 0
      · exact .inl h0
      · right
        obtain ⟨b, off, spot⟩ := ad
        obtain ⟨_, _, h00, _⟩ := hrow 0 (by omega)
        have hspot : spot = none := by simpa [Addr.add] using World.cell?_spot h00
        subst hspot
        refine ⟨b, off, rfl, fun i l hi => ?_⟩
        have hin : i < n := by have := (List.getElem?_eq_some_iff.1 hi).1; simpa using this
        rw [List.getElem?_map, List.getElem?_range hin] at hi
        simp only [Option.map_some, Option.some.injEq] at hi
        subst hi
        obtain ⟨_, rfl, h1, h2, h3, _⟩ := hrow i hin
        have hadd : (⟨b, off, none⟩ : Addr).add i = ⟨b, off + i, none⟩ := by unfold Addr.add; split <;> simp_all
        rw [hadd] at h1
        exact ⟨_, _, h1, h2, h3⟩
    · simp only [List.mem_map, List.mem_range] at hl
      obtain ⟨i, hi, rfl⟩ := hl
      obtain ⟨_, rfl, _, _, _, h4⟩ := hrow i hi
      exact h4
end Cw
end Go.Proofs.Ytchefanneampfaa
