/- PackAgain: lists of bytes in memory, Bytes of them, Read of a text. -/
import Derived.Test.YteaokgolnhdloaaPRb6
import Derived.Test.YteaokgolnhdloaaPWrN
import Derived.Test.YteaokgolnhdloaaPLists
import Derived.Test.YteaokgolnhdloaaPBlob
namespace Go.Proofs.Yteaokgolnhdloaa
namespace Wm
open Go.RowKit

/-- a list of lists of bytes in memory, wherever they lie -/
def RdC (w : World) (a : Option Addr) (n : Nat) (Ls : List (List Nat)) : Prop :=
  n = Ls.length ∧ n ≤ 140737488351232 ∧ (n = 0 ∨ ∃ b off, a = some ⟨b, off, none⟩ ∧ ∀ i l, Ls[i]? = some l → ∃ a' c', w.cell? ⟨b, off + i, none⟩ = some (.slice a' l.length c') ∧ Rd w a' l.length l ∧ (a' = none → c' = 0))
theorem RdC.rdL {w : World} {a : Option Addr} {n : Nat} {Ls : List (List Nat)} (h : RdC w a n Ls) : RdL w a n Ls :=
  ⟨h.1, h.2.1, h.2.2.imp id fun ⟨b, off, e, hc⟩ => ⟨b, off, e, fun i l hl => by obtain ⟨a', c', h1, h2, _⟩ := hc i l hl; exact ⟨a', c', h1, h2⟩⟩⟩
theorem RdC.keep {w w' : World} {a : Option Addr} {n : Nat} {Ls : List (List Nat)} (h : RdC w a n Ls) (hb : Below w.heap.size w w') : RdC w' a n Ls := by
  refine ⟨h.1, h.2.1, h.2.2.imp id fun ⟨b, off, e, hc⟩ => ⟨b, off, e, fun i l hl => ?_⟩⟩
  obtain ⟨a', c', h1, h2, h3⟩ := hc i l hl
  exact ⟨a', c', by rw [hb.cell (p := ⟨b, off + i, none⟩) (block_lt_of_cell h1)]; exact h1, h2.keep hb, h3⟩
theorem RdC.els {w : World} {a : Option Addr} {n : Nat} {Ls : List (List Nat)} (h : RdC w a n Ls) : ∃ vs, Els (fun k => k < w.heap.size) w a n vs ∧ ∀ (i : Nat) v l, vs[i]? = some v → Ls[i]? = some l → ∃ a' c', v = .slice a' l.length c' ∧ Rd w a' l.length l ∧ (a' = none → c' = 0) := by
  by_cases h0 : n = 0
  · exact ⟨[], ⟨by rw [h0]; rfl, h.2.1, .inl h0⟩, fun i v l hv => by simp at hv⟩
  · rcases h.2.2 with h1 | ⟨b, off, rfl, hc⟩
    · exact absurd h1 h0
    · have hat : ∀ i, i < n → ∃ v, w.cell? ⟨b, off + i, none⟩ = some v := fun i hi => by
        obtain ⟨a', c', h2, _⟩ := hc i _ (List.getElem?_eq_getElem (by have := h.1; omega))
        exact ⟨_, h2⟩
      have hlt : b < w.heap.size := by
        obtain ⟨v, hv⟩ := hat 0 (by omega)
        exact block_lt_of_cell (a := ⟨b, off + 0, none⟩) hv
      have hget : ∀ i v, ((List.range n).map fun i => (w.cell? ⟨b, off + i, none⟩).getD (.bool false))[i]? = some v → w.cell? ⟨b, off + i, none⟩ = some v := fun i v hv => by
        rw [List.getElem?_map] at hv
        by_cases hi : i < n
        · rw [List.getElem?_range hi] at hv
          obtain ⟨u, hu⟩ := hat i hi
          rw [Option.map_some, hu, Option.getD_some] at hv
          rw [hu, hv]
        · rw [List.getElem?_eq_none (by simp; omega)] at hv
          cases hv
      refine ⟨_, ⟨by rw [List.length_map, List.length_range], h.2.1, .inr ⟨b, off, rfl, hlt, hget⟩⟩, fun i v l hv hl => ?_⟩
      obtain ⟨a', c', h2, h3, h4⟩ := hc i l hl
      have := hget i v hv
      rw [h2] at this
      injection this with e
      exact ⟨a', c', e.symm, h3, h4⟩
/-- what Bytes of a list of blobs lays -/
def bsW (mst : Int) (Ls : List (List Nat)) : K.WS := listW (min mst 16777216) (Ls.map (textW 9223372036854775807)) ⟨[], room 16777216, 0⟩
theorem bytesB (m mb fb : Nat) (mst : Int) (a : Option Addr) (n c : Nat) (Ls : List (List Nat)) (w : World) (h : RdC w a n Ls) (hl : ∀ l ∈ Ls, l.length ≤ 140737488351232)
    (hmm : w.cell? ⟨m, 0, none⟩ = some (.int .i64 9223372036854775807)) (hmb : w.heap[mb]? = some (numB (min mst 16777216))) (hfb : w.heap[fb]? = some (.cells (bF m) 33 (0, 0))) :
    Calls Try.prog 25 #[.agg (bL mb fb), .slice a n c, .int .i64 16777216] w fun en w' =>
      ∃ v, en = .returned (.tuple #[v, .int .i64 ((bsW mst Ls).fault : Nat)]) ∧ w'.ownsRow w.heap.size 5 1 v (told (bsW mst Ls)).length (B8 (told (bsW mst Ls))) ∧ Below w.heap.size w w' ∧ Fine (told (bsW mst Ls)) := by
  obtain ⟨vs, he, hv⟩ := h.els
  have hm : m < w.heap.size := block_lt_of_cell (a := ⟨m, 0, none⟩) hmm
  refine BytesLb _ _ _ _ _ _ 16777216 _ rfl w (putsListB (fun k => k < w.heap.size) w mb fb (min mst 16777216) _ _ _ _ a n c vs (Ls.map (textW 9223372036854775807)) he (by rw [List.length_map]; exact h.1.symm) (fun i v f hvi hf => ?_) ent_putBlob (Array.getElem?_eq_some_iff.1 hmb).1 (Array.getElem?_eq_some_iff.1 hfb).1 (numB_cell hmb).1 hfb) ent_putListB
  rw [List.getElem?_map] at hf
  cases hli : Ls[i]? with
  | none => rw [hli] at hf; cases hf
  | some l =>
    rw [hli, Option.map_some] at hf
    injection hf with hf
    subst hf
    obtain ⟨a', c', rfl, hr, h0⟩ := hv i v l hvi hli
    refine putsBlob _ w m _ a' l.length c' l hr (hl l (List.mem_of_getElem? hli)) h0 (fun hn b off e => ?_) hmm hm
    rcases hr.2.2.2 with h1 | ⟨b', off', e', hcell⟩
    · exact absurd h1 hn
    · rw [e] at e'
      injection e' with e'
      injection e' with e1 e2
      subst e1 e2
      exact block_lt_of_cell (hcell 0 (Nat.pos_of_ne_zero hn))
/-- the document's puts come to the same -/
theorem bs_puts (mst : Int) (Ls : List (List Nat)) : bsW mst Ls = putsW (Ls.map (textW 9223372036854775807)) (putW (headW mst Ls.length) ⟨[], room 16777216, 0⟩) := by
  have := list_puts mst (Ls.map (textW 9223372036854775807)) (fun f hf => by obtain ⟨l, _, rfl⟩ := List.mem_map.1 hf; exact grow_text _ _) ⟨[], room 16777216, 0⟩
  rw [List.length_map] at this
  rw [← this]
  rfl
/-- what a text is, read to the end -/
def txE (l : List Nat) : Nat := endR (takeR (rowR 9223372036854775807) (newR l))
def txV (l : List Nat) : List Nat := if txE l = 0 then rowV 9223372036854775807 (newR l) else []
theorem readT (m : Nat) (a : Option Addr) (n c : Nat) (l : List Nat) (w : World) (h : Rd w a n l) (h0 : a = none → c = 0) (hm : w.cell? ⟨m, 0, none⟩ = some (.int .i64 9223372036854775807)) :
    Calls Try.prog 27 #[.agg #[.func (.func 67) #[] #[.pointer (some ⟨m, 0, none⟩)], .func (.func 69) #[] #[.pointer (some ⟨m, 0, none⟩)]], .slice a n c] w fun en w' =>
      en = .returned (.tuple #[.string (str (txV l)), .int .i64 (txE l : Nat)]) ∧ Below w.heap.size w w' := by
  refine (ReadS _ _ _ _ a n c l (rowR 9223372036854775807) (fun s _ v => v = .string (str (rowV 9223372036854775807 s))) (fun s => (stableT_plain (T := 0) (P := fun v => v = Value.string (str (rowV 9223372036854775807 s)))).stable) _ rfl (txE l) rfl w h h0 (takesText _ _ m 9223372036854775807 hm (numForm_lt hm)) ent_takeText).mono ?_
  rintro e w' ⟨v, rfl, hv, hnv, hb⟩
  refine ⟨?_, hb⟩
  by_cases hz : txE l = 0
  · rw [hv hz]
    unfold txV
    rw [if_pos hz]
  · rw [hnv hz]
    unfold txV
    rw [if_neg hz]
    rfl
end Wm
end Go.Proofs.Yteaokgolnhdloaa
