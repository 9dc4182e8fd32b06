/- Package crew: Work; the law's few. -/
import Derived.Test.YtgjiaajeionofaaKByt
import Derived.Deep.QuietTactic
import Derived.BigQuiet
namespace Go.Proofs.Ytgjiaajeionofaa
namespace Cw
open Go.RowKit Go.Deep

/-- lists of bytes in memory -/
def Ins (w : World) (a : Option Addr) (n : Nat) (ls : List (List Nat)) : Prop :=
  n = ls.length ∧ n < 281474976710656 ∧ (n = 0 ∨ ∃ b off, a = some ⟨b, off, none⟩ ∧ ∀ i l, ls[i]? = some l → ∃ a' c', w.cell? ⟨b, off + i, none⟩ = some (.slice a' l.length c') ∧ Rd w a' l.length l ∧ (a' = none → c' = 0))
theorem Ins.keep {w w' : World} {a : Option Addr} {n : Nat} {ls : List (List Nat)} (h : Ins w a n ls) (hb : Below w.heap.size w w') : Ins w' a n ls := by
  refine ⟨h.1, h.2.1, ?_⟩
  rcases h.2.2 with h0 | ⟨b, off, e, hc⟩
  · exact .inl h0
  · refine .inr ⟨b, off, e, fun i l hl => ?_⟩
    obtain ⟨a', c', h1, h2, h3⟩ := hc i l hl
    exact ⟨a', c', by rw [hb.cell (p := ⟨b, off + i, none⟩) (block_lt_of_cell h1)]; exact h1, h2.keep hb, h3⟩
/-- what is summed -/
def txt (ls : List (List Nat)) : List Nat := ls.flatMap fun l => l.length % 256 :: l
def tot (ls : List (List Nat)) : Nat := (ls.map List.length).sum
theorem txt_len (ls : List (List Nat)) : (txt ls).length = tot ls + ls.length := by
  induction ls with
  | nil => rfl
  | cons l ls ih => simp only [txt, tot, List.flatMap_cons, List.length_append, List.length_cons, List.map_cons, List.sum_cons] at *; omega
theorem tot_take_le (ls : List (List Nat)) (i : Nat) : tot (ls.take i) ≤ tot ls := by
  induction ls generalizing i with
  | nil => simp [tot]
  | cons l ls ih =>
    cases i with
    | zero => simp [tot]
    | succ i =>
      have := ih i
      simp only [tot, List.take_succ_cons, List.map_cons, List.sum_cons] at *
      omega
theorem take_at {α : Type} {ls : List α} {i : Nat} {l : α} (h : ls[i]? = some l) : ls.take (i + 1) = ls.take i ++ [l] := by
  rw [List.take_add_one, h]; rfl
theorem tot_snoc (ls : List (List Nat)) (l : List Nat) : tot (ls ++ [l]) = tot ls + l.length := by simp [tot]
theorem txt_snoc (ls : List (List Nat)) (l : List Nat) : txt (ls ++ [l]) = txt ls ++ [l.length % 256] ++ l := by simp [txt]
theorem txt_lt {ls : List (List Nat)} (h : ∀ l ∈ ls, ∀ d ∈ l, d < 256) : ∀ d ∈ txt ls, d < 256 := fun d hd => by
  simp only [txt, List.mem_flatMap] at hd
  obtain ⟨l, hl, hd⟩ := hd
  rcases List.mem_cons.1 hd with rfl | hd
  · exact Nat.mod_lt _ (by decide)
  · exact h l hl d hd
theorem Ins.lt {w : World} {a : Option Addr} {n : Nat} {ls : List (List Nat)} (h : Ins w a n ls) : ∀ l ∈ ls, ∀ d ∈ l, d < 256 := fun l hl => by
  obtain ⟨i, hi, e⟩ := List.getElem_of_mem hl
  rcases h.2.2 with h0 | ⟨b, off, _, hc⟩
  · have := h.1; omega
  · obtain ⟨a', c', _, h2, _⟩ := hc i l (by rw [List.getElem?_eq_getElem hi, e])
    exact h2.2.2.1
def fewB (ls : List (List Nat)) (n : Nat) : Bool := decide (tot ls ≤ 1048576 ∧ n ≤ 20000)

end Cw
end Go.Proofs.Ytgjiaajeionofaa
