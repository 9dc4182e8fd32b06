/- PackAgain: the lists that the law makes: each with three marks behind it, in a block of its own, and the row of them. -/
import Derived.Test.YteaokgolnhdloaaPAg1
import Derived.Test.YteaokgolnhdloaaPWoR
namespace Go.Proofs.Yteaokgolnhdloaa
namespace Wm
open Go.RowKit
open Ow (rd_pre)

structure Ns (B q : Nat) (G C L : Nat → Nat) (c : Nat → List Nat) (w : World) : Prop where
  blk : ∀ i, i < q → w.ownsRow B 5 1 (.slice (some ⟨G i, 0, none⟩) (L i + 3) (C i)) (L i + 3) (B8 (c i)) ∧ ∀ d ∈ c i, d < 256
  inj : ∀ i j, i < q → j < q → G i = G j → i = j
def nsV (q : Nat) (G C L : Nat → Nat) : List Value := (List.range q).map fun i => .slice (some ⟨G i, 0, none⟩) (L i) (C i)
theorem nsV_at {q : Nat} {G C L : Nat → Nat} {i : Nat} (hi : i < q) : (nsV q G C L)[i]? = some (.slice (some ⟨G i, 0, none⟩) (L i) (C i)) := by
  unfold nsV
  rw [List.getElem?_map, List.getElem?_range hi]
  rfl
theorem nsV_len (q : Nat) (G C L : Nat → Nat) : (nsV q G C L).length = q := by unfold nsV; rw [List.length_map, List.length_range]
section
variable {B q : Nat} {G C L : Nat → Nat} {c : Nat → List Nat} {w w' : World}
theorem Ns.lt (h : Ns B q G C L c w) {i : Nat} (hi : i < q) : B ≤ G i ∧ G i < w.heap.size := (h.blk i hi).1.lt _ rfl
theorem Ns.keep (h : Ns B q G C L c w) {S : Nat → Prop} (k : Keep S w w') (hS : ∀ i, i < q → ¬ S (G i)) : Ns B q G C L c w' :=
  ⟨fun i hi => ⟨ownsRow_keepQ (h.blk i hi).1 k fun j e => (by injection e with e; exact e ▸ hS i hi), (h.blk i hi).2⟩, h.inj⟩
theorem Ns.new (h : Ns B q G C L c w) (b : Below w.heap.size w w') : Ns B q G C L c w' := h.keep (Keep.ofBelow (S := fun _ => False) b (Nat.le_refl _)) fun _ _ h => h
theorem Ns.nil (B : Nat) (G C L : Nat → Nat) (c : Nat → List Nat) (w : World) : Ns B 0 G C L c w := ⟨fun _ hi => absurd hi (Nat.not_lt_zero _), fun _ _ hi => absurd hi (Nat.not_lt_zero _)⟩
theorem Ns.push (h : Ns B q G C L c w) {W g cap : Nat} (ho : w.ownsRow W 5 1 (.slice (some ⟨g, 0, none⟩) (L q + 3) cap) (L q + 3) (B8 (c q))) (hd : ∀ d ∈ c q, d < 256) (hB : B ≤ W) (hne : ∀ i, i < q → G i < W) : Ns B (q + 1) (fun i => if i = q then g else G i) (fun i => if i = q then cap else C i) L c w := by
  have hg : W ≤ g := (ho.lt g rfl).1
  refine ⟨fun i hi => ?_, fun i j hi hj e => ?_⟩
  · by_cases e : i = q
    · subst e
      simp only [if_true]
      exact ⟨ownsRow_base ho hB, hd⟩
    · simp only [if_neg e]
      exact h.blk i (by omega)
  · by_cases e1 : i = q
    · by_cases e2 : j = q
      · omega
      · simp only [if_pos e1, if_neg e2] at e
        have := hne j (by omega)
        omega
    · by_cases e2 : j = q
      · simp only [if_pos e2, if_neg e1] at e
        have := hne i (by omega)
        omega
      · simp only [if_neg e1, if_neg e2] at e
        exact h.inj i j (by omega) (by omega) e
theorem nsV_push (q : Nat) (G C L : Nat → Nat) (g cap : Nat) : nsV (q + 1) (fun i => if i = q then g else G i) (fun i => if i = q then cap else C i) L = nsV q G C L ++ [.slice (some ⟨g, 0, none⟩) (L q) cap] := by
  unfold nsV
  rw [List.range_succ, List.map_append]
  congr 1
  · apply List.map_congr_left
    intro i hi
    have := List.mem_range.1 hi
    simp only [if_neg (show ¬ i = q by omega)]
  · simp
theorem Ns.put (h : Ns B q G C L c w) {i : Nat} (hi : i < q) {l : List Nat} (k : Keep (fun j => j = G i) w w') (ho : w'.ownsRow 0 5 1 (.slice (some ⟨G i, 0, none⟩) (L i + 3) (C i)) (L i + 3) (B8 l)) (hd : ∀ d ∈ l, d < 256) : Ns B q G C L (fun j => if j = i then l else c j) w' := by
  refine ⟨fun j hj => ?_, h.inj⟩
  by_cases e : j = i
  · subst e
    simp only [if_true]
    refine ⟨⟨ho.1, ?_⟩, hd⟩
    rcases ho.2 with ⟨e1, _⟩ | ⟨g', cap', cur, e1, _, e3, e4⟩
    · cases e1
    · injection e1 with f1 f2 f3
      injection f1 with f1
      injection f1 with f1
      subst f1 f3
      exact .inr ⟨_, _, cur, rfl, (h.lt hj).1, e3, e4⟩
  · simp only [if_neg e]
    exact ⟨ownsRow_keepQ (h.blk j hj).1 k fun b eb hb => e (h.inj j i hj hi (by injection eb with eb; exact eb.trans hb)), (h.blk j hj).2⟩
theorem Ns.rd (h : Ns B q G C L c w) {i n : Nat} (hi : i < q) (hL : L i ≤ 16777216) (hn : n ≤ L i + 3) : Rd w (some ⟨G i, 0, none⟩) n ((c i).take n) :=
  rd_pre (ownsRow_base (h.blk i hi).1 (Nat.zero_le _)) (h.blk i hi).2 (by omega) hn
theorem Ns.len (h : Ns B q G C L c w) {i : Nat} (hi : i < q) : (c i).length = L i + 3 := by have := (h.blk i hi).1.1; rw [B8_length] at this; omega
/-- the lists of bytes that they are -/
def nsL (q : Nat) (L : Nat → Nat) (c : Nat → List Nat) : List (List Nat) := (List.range q).map fun i => (c i).take (L i)
theorem nsL_len (q : Nat) (L : Nat → Nat) (c : Nat → List Nat) : (nsL q L c).length = q := by unfold nsL; rw [List.length_map, List.length_range]
theorem nsL_at {q : Nat} {L : Nat → Nat} {c : Nat → List Nat} {i : Nat} {l : List Nat} (h : (nsL q L c)[i]? = some l) : i < q ∧ l = (c i).take (L i) := by
  unfold nsL at h
  rw [List.getElem?_map] at h
  by_cases hi : i < q
  · rw [List.getElem?_range hi] at h
    injection h with h
    exact ⟨hi, h.symm⟩
  · rw [List.getElem?_eq_none (by simp; omega)] at h
    cases h
theorem Ns.rdC (h : Ns B q G C L c w) (hL : ∀ i, i < q → L i ≤ 16777216) (hq : q ≤ 16777216) {a : Nat} (hc : ∀ i, i < q → w.cell? ⟨a, i, none⟩ = some (.slice (some ⟨G i, 0, none⟩) (L i) (C i))) : RdC w (some ⟨a, 0, none⟩) q (nsL q L c) := by
  refine ⟨(nsL_len q L c).symm, by omega, .inr ⟨a, 0, rfl, fun i l hl => ?_⟩⟩
  obtain ⟨hi, rfl⟩ := nsL_at hl
  have hlen : ((c i).take (L i)).length = L i := by rw [List.length_take, h.len hi]; omega
  rw [hlen, Nat.zero_add]
  exact ⟨some ⟨G i, 0, none⟩, C i, hc i hi, h.rd hi (hL i hi) (by omega), fun e => by cases e⟩
end
/-- all of 'in': the lists, the byte 9, their row -/
structure Im (B q g9 : Nat) (G C L : Nat → Nat) (c : Nat → List Nat) (v : Value) (w : World) : Prop where
  ns : Ns B q G C L c w
  row : w.ownsRow B 22 1 v (q + 1) (nsV q G C L ++ [.slice (some ⟨g9, 0, none⟩) 1 1])
  nine : w.cell? ⟨g9, 0, none⟩ = some (.int .u8 9)
  lt : ∀ i, i < q → G i < g9
section
variable {B q g9 : Nat} {G C L : Nat → Nat} {c : Nat → List Nat} {v : Value} {w w' : World}
theorem Im.new (h : Im B q g9 G C L c v w) (b : Below w.heap.size w w') : Im B q g9 G C L c v w' :=
  ⟨h.ns.new b, ownsRow_keepB h.row b, by rw [b.cell (p := ⟨g9, 0, none⟩) (block_lt_of_cell h.nine)]; exact h.nine, h.lt⟩
theorem Im.keep (h : Im B q g9 G C L c v w) {S : Nat → Prop} (k : Keep S w w') (hS : ∀ i, i < w.heap.size → ¬ S i) : Im B q g9 G C L c v w' :=
  ⟨h.ns.keep k fun _ hi => hS _ (h.ns.lt hi).2, ownsRow_keepQ h.row k fun i e => hS i (h.row.lt i e).2, k.cell h.nine (hS g9 (block_lt_of_cell h.nine)), h.lt⟩
theorem Im.put (h : Im B q g9 G C L c v w) {i : Nat} (hi : i < q) {l : List Nat} (k : Keep (fun j => j = G i) w w') (ho : w'.ownsRow 0 5 1 (.slice (some ⟨G i, 0, none⟩) (L i + 3) (C i)) (L i + 3) (B8 l)) (hd : ∀ d ∈ l, d < 256) : Im B q g9 G C L (fun j => if j = i then l else c j) v w' :=
  ⟨h.ns.put hi k ho hd, ownsRow_keepQ h.row k fun j e f => (Ow.typ_ne (h.ns.blk i hi).1 h.row (by decide) (g := G i) rfl) (f ▸ e), k.cell h.nine (fun e => by have := h.lt i hi; have e' : g9 = G i := e; omega), h.lt⟩
theorem Im.form (h : Im B q g9 G C L c v w) : ∃ g cap, v = .slice (some ⟨g, 0, none⟩) (q + 1) cap ∧ q + 1 ≤ cap ∧ (∀ i, i < q → w.cell? ⟨g, i, none⟩ = some (.slice (some ⟨G i, 0, none⟩) (L i) (C i))) ∧ w.cell? ⟨g, q, none⟩ = some (.slice (some ⟨g9, 0, none⟩) 1 1) := by
  obtain ⟨g, cap, rfl⟩ := Ow.own_form h.row (by omega)
  refine ⟨g, cap, rfl, ?_, fun i hi => ?_, ?_⟩
  · rcases h.row.2 with ⟨e, _⟩ | ⟨g', cap', cur, e, _, _, h4, _⟩
    · cases e
    · injection e with _ _ e3; omega
  · rw [h.row.cellAt i (by omega), List.getElem?_append_left (by rw [nsV_len]; exact hi)]
    exact nsV_at hi
  · rw [h.row.cellAt q (by omega), List.getElem?_append_right (by rw [nsV_len]; omega), nsV_len, Nat.sub_self]
    rfl
theorem Im.rd9 (h : Im B q g9 G C L c v w) : Rd w (some ⟨g9, 0, none⟩) 1 [9] := by
  refine ⟨rfl, by decide, by decide, .inr ⟨g9, 0, rfl, fun i hi => ?_⟩⟩
  obtain rfl : i = 0 := by omega
  exact h.nine
end
end Wm
end Go.Proofs.Yteaokgolnhdloaa
