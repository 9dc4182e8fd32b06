/- Package source: names' numbers, rising, each once: the mathematics. -/
import Derived.Test.YtnhmmplheihojaaGreatDoorUMod
import Derived.Lib.SlicesCompact
namespace Go.Proofs.YtnhmmplheihojaaGreatDoor
namespace U

/-- rising lists of the same numbers are one -/
theorem rising_eq : ∀ {a b : List Int}, a.Pairwise (· < ·) → b.Pairwise (· < ·) → (∀ x, x ∈ a ↔ x ∈ b) → a = b
  | [], [], _, _, _ => rfl
  | [], y :: b, _, _, h => by have := (h y).2 (by simp); cases this
  | x :: a, [], _, _, h => by have := (h x).1 (by simp); cases this
  | x :: a, y :: b, ha, hb, h => by
    obtain ⟨h1, ha'⟩ := List.pairwise_cons.1 ha
    obtain ⟨h2, hb'⟩ := List.pairwise_cons.1 hb
    have hxy : x = y := by
      rcases List.mem_cons.1 ((h x).1 (by simp)) with e | e
      · exact e
      · rcases List.mem_cons.1 ((h y).2 (by simp)) with e' | e'
        · exact e'.symm
        · have := h1 y e'; have := h2 x e; omega
    subst hxy
    congr 1
    refine rising_eq ha' hb' fun z => ⟨fun hz => ?_, fun hz => ?_⟩
    · rcases List.mem_cons.1 ((h z).1 (by simp [hz])) with e | e
      · have := h1 z hz; omega
      · exact e
    · rcases List.mem_cons.1 ((h z).2 (by simp [hz])) with e | e
      · have := h2 z hz; omega
      · exact e
theorem compact_rising (zs : List Int) (hs : zs.Pairwise (· ≤ ·)) : (Lib.compact zs).Pairwise (· < ·) ∧ ∀ x, x ∈ Lib.compact zs ↔ x ∈ zs := by
  have hget : ∀ j, (hj : j < zs.length) → zs.toArray[j]! = zs[j] := fun j hj => by simp [hj]
  have key : ∀ m, m ≤ zs.length → (Lib.compactUpTo zs.toArray m).Pairwise (· < ·) ∧ ∀ x, x ∈ Lib.compactUpTo zs.toArray m ↔ x ∈ zs.take m := by
    intro m
    induction m with
    | zero => intro _; simp [Lib.compactUpTo]
    | succ m ih =>
      intro hm
      obtain ⟨i1, i2⟩ := ih (by omega)
      rw [Lib.compactUpTo_succ, Gr.take_snoc zs m zs[m] (List.getElem?_eq_getElem (by omega))]
      have hle : ∀ y ∈ zs.take m, y ≤ zs[m] := by
        intro y hy
        obtain ⟨j, hj, rfl⟩ := List.mem_iff_getElem.1 hy
        simp only [List.length_take] at hj
        simp only [List.getElem_take]
        exact List.pairwise_iff_getElem.1 hs j m (by omega) (by omega) (by omega)
      cases hk : Lib.keeps zs.toArray m with
      | true =>
        simp only [if_true]
        rw [hget m (by omega)]
        refine ⟨?_, fun x => ?_⟩
        · rw [List.pairwise_append]
          refine ⟨i1, by simp, fun a ha b hb => ?_⟩
          obtain rfl := List.mem_singleton.1 hb
          have h1 := hle a ((i2 a).1 ha)
          rcases Int.lt_or_le a zs[m] with h | h
          · exact h
          · exfalso
            have hm0 : m ≠ 0 := fun e => by subst e; simp [Lib.compactUpTo] at ha
            unfold Lib.keeps at hk
            have hk' := of_decide_eq_true hk
            rcases hk' with e | e
            · exact hm0 e
            · rw [hget m (by omega), hget (m - 1) (by omega)] at e
              have h2 : zs[m - 1] ≤ zs[m] := List.pairwise_iff_getElem.1 hs (m - 1) m (by omega) (by omega) (by omega)
              obtain ⟨j, hj, rfl⟩ := List.mem_iff_getElem.1 ((i2 a).1 ha)
              simp only [List.length_take] at hj
              simp only [List.getElem_take] at h h1
              have h3 : zs[j] ≤ zs[m - 1] := by
                rcases Nat.lt_or_ge j (m - 1) with h' | h'
                · exact List.pairwise_iff_getElem.1 hs j (m - 1) (by omega) (by omega) h'
                · have : j = m - 1 := by omega
                  subst this; omega
              omega
        · simp only [List.mem_append, i2]
      | false =>
        simp only [Bool.false_eq_true, if_false, List.append_nil]
        refine ⟨i1, fun x => ?_⟩
        rw [i2]
        simp only [List.mem_append, List.mem_singleton]
        refine ⟨.inl, ?_⟩
        rintro (h | rfl)
        · exact h
        · unfold Lib.keeps at hk
          have hk' := of_decide_eq_false hk
          have hm0 : m ≠ 0 := fun e => hk' (.inl e)
          have e : zs.toArray[m]! = zs.toArray[m - 1]! := Classical.byContradiction fun e => hk' (.inr e)
          rw [hget m (by omega), hget (m - 1) (by omega)] at e
          rw [e]
          exact List.mem_iff_getElem.2 ⟨m - 1, by simp; omega, by simp⟩
  obtain ⟨k1, k2⟩ := key zs.length (Nat.le_refl _)
  refine ⟨k1, fun x => ?_⟩
  have := k2 x
  rw [List.take_of_length_le (Nat.le_refl _)] at this
  exact this

/-- the numbers of names, as they are met -/
def nums (nds : List Pn) (names : List (List UInt8)) : List Nat := names.filterMap (idx nds)
theorem idx_lt {nds : List Pn} {n : List UInt8} {i : Nat} (h : idx nds n = some i) : i < nds.length := by
  unfold idx at h
  obtain ⟨h1, _⟩ := List.findIdx?_eq_some_iff_getElem.1 h
  exact h1
theorem edg_sort (nds : List Pn) (names : List (List UInt8)) (zs : List Int) (hz : zs = ((nums nds names).map fun (i : Nat) => (i : Int)).mergeSort fun x y => decide (x ≤ y)) :
    Lib.compact zs = ((List.range nds.length).filter fun i => names.any fun n => idx nds n == some i).map fun (i : Nat) => (i : Int) := by
  have hs : zs.Pairwise (· ≤ ·) := by
    rw [hz]
    have := List.pairwise_mergeSort (le := fun (x y : Int) => decide (x ≤ y)) (fun a b c h1 h2 => by simp at *; omega) (fun a b => by simp; omega) ((nums nds names).map fun (i : Nat) => (i : Int))
    exact this.imp (fun h => by simpa using h)
  obtain ⟨c1, c2⟩ := compact_rising zs hs
  refine rising_eq c1 ?_ fun x => ?_
  · rw [List.pairwise_map]
    have h1 : (List.range nds.length).Pairwise (· < ·) := List.pairwise_lt_range
    exact (h1.sublist List.filter_sublist).imp (fun h => by omega)
  · rw [c2, hz, List.mem_mergeSort]
    simp only [List.mem_map, List.mem_filter, List.mem_range, List.any_eq_true, beq_iff_eq, nums, List.mem_filterMap]
    constructor
    · rintro ⟨i, ⟨n, hn, hi⟩, rfl⟩
      exact ⟨i, ⟨idx_lt hi, n, hn, hi⟩, rfl⟩
    · rintro ⟨i, ⟨_, n, hn, hi⟩, rfl⟩
      exact ⟨i, ⟨n, hn, hi⟩, rfl⟩
end U
end Go.Proofs.YtnhmmplheihojaaGreatDoor
