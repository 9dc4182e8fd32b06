/- The mathematics of orders. -/
import Derived.Test.YtgjiaajeionofaaGChk
namespace Go.Proofs.Ytgjiaajeionofaa
namespace Gr
open Go.RowKit

theorem nodup_le {α : Type} [DecidableEq α] : ∀ {l m : List α}, l.Nodup → (∀ x ∈ l, x ∈ m) → l.length ≤ m.length := by
  intro l
  induction l with
  | nil => intro m _ _; simp
  | cons a l ih =>
    intro m hn hs
    obtain ⟨h1, h2⟩ := List.nodup_cons.1 hn
    have ha := hs a (List.mem_cons_self ..)
    have := ih (m := m.erase a) h2 fun x hx => (List.mem_erase_of_ne (fun e => h1 (by rw [← e]; exact hx))).2 (hs x (List.mem_cons_of_mem _ hx))
    rw [List.length_erase_of_mem ha] at this
    have : 0 < m.length := List.length_pos_of_mem ha
    simp; omega
theorem full {n : Nat} {l : List Nat} (hn : l.Nodup) (hl : l.length = n) (hb : ∀ x ∈ l, x < n) {i : Nat} (hi : i < n) : i ∈ l := by
  refine Classical.byContradiction fun h => ?_
  have := nodup_le (l := i :: l) (m := List.range n) (List.nodup_cons.2 ⟨h, hn⟩) (fun x hx => by
    rcases List.mem_cons.1 hx with rfl | hx
    · exact List.mem_range.2 hi
    · exact List.mem_range.2 (hb x hx))
  simp at this; omega
theorem missing {n : Nat} {l : List Nat} (hl : l.length < n) : ∃ i, i < n ∧ i ∉ l := by
  refine Classical.byContradiction fun h => ?_
  have := nodup_le (l := List.range n) (m := l) List.nodup_range (fun x hx => Classical.byContradiction fun hc => h ⟨x, List.mem_range.1 hx, hc⟩)
  simp at this; omega
/-- a node that can be told next -/
def Free (E : Nat → List Nat) (l : List Nat) (i : Nat) : Prop := i ∉ l ∧ ∀ e ∈ E i, e ∈ l
open Classical in
noncomputable def deep (E : Nat → List Nat) (n u : Nat) : Nat := ((List.range n).filter fun x => decide (Waits E u x)).length
theorem deep_lt {E : Nat → List Nat} {n u v : Nat} (hv : v ∈ E u) (hn : v < n) (hc : ¬ Waits E v v) : deep E n v < deep E n u := by
  classical
  refine filter_lt _ _ _ (fun x _ hx => ?_) (a := v) (List.mem_range.2 hn) (by simpa using hc) (by simpa using Waits.edge hv)
  simp only [decide_eq_true_eq] at hx ⊢
  exact Waits.step hv hx
theorem free_ex {E : Nat → List Nat} {n : Nat} {l : List Nat} (hE : ∀ a e, e ∈ E a → e < n) (hc : ∀ x, ¬ Waits E x x) (hl : l.length < n) : ∃ i, i < n ∧ Free E l i := by
  obtain ⟨u, h1, h2⟩ := missing hl
  obtain ⟨d, _, ⟨v, h3, h4, h5⟩, h6⟩ := least (P := fun d => ∃ u, u < n ∧ u ∉ l ∧ deep E n u = d) ⟨u, h1, h2, rfl⟩
  refine ⟨v, h3, h4, fun e he => Classical.byContradiction fun hn => ?_⟩
  have := deep_lt he (hE _ _ he) (hc e)
  have := h6 _ ⟨e, hE _ _ he, hn, rfl⟩
  omega
/-- an order as the document has it -/
def Ord (E : Nat → List Nat) (n : Nat) (l : List Nat) : Prop := l.length ≤ n ∧ ∀ k x, l[k]? = some x → x < n ∧ Free E (l.take k) x ∧ ∀ j, j < x → ¬ Free E (l.take k) j
theorem Ord.nil (E : Nat → List Nat) (n : Nat) : Ord E n [] := ⟨Nat.zero_le _, fun k x h => by simp at h⟩
theorem Ord.snoc {E : Nat → List Nat} {n : Nat} {l : List Nat} (h : Ord E n l) (hl : l.length < n) {x : Nat} (hx : x < n) (hf : Free E l x) (hm : ∀ j, j < x → ¬ Free E l j) : Ord E n (l ++ [x]) := by
  refine ⟨by simp; omega, fun k y hy => ?_⟩
  by_cases hk : k < l.length
  · rw [List.getElem?_append_left hk] at hy
    have := h.2 k y hy
    rw [List.take_append_of_le_length (by omega)]
    exact this
  · have hk' : k = l.length := by
      have := (List.getElem?_eq_some_iff.1 hy).1
      simp at this; omega
    subst hk'
    obtain rfl : x = y := by simpa using hy
    rw [List.take_left']
    · exact ⟨hx, hf, hm⟩
    · rfl
theorem Ord.nodup {E : Nat → List Nat} {n : Nat} {l : List Nat} (h : Ord E n l) : l.Nodup := by
  unfold List.Nodup
  rw [List.pairwise_iff_getElem]
  intro i j hi hj hij e
  have hx : l[j]? = some (l[j]'hj) := List.getElem?_eq_getElem hj
  refine (h.2 j _ hx).2.1.1 ?_
  have : (l.take j)[i]? = some (l[j]'hj) := by rw [List.getElem?_take_of_lt hij, List.getElem?_eq_getElem hi, e]
  exact List.mem_of_getElem? this
theorem Ord.lt {E : Nat → List Nat} {n : Nat} {l : List Nat} (h : Ord E n l) : ∀ x ∈ l, x < n := fun x hx => by
  obtain ⟨k, hk⟩ := List.getElem?_of_mem hx
  exact (h.2 k x hk).1
theorem Ord.uniq {E : Nat → List Nat} {n : Nat} : ∀ {l m : List Nat}, Ord E n l → Ord E n m → l.length = m.length → l = m := by
  intro l m h g hl
  have key : ∀ k, l.take k = m.take k := by
    intro k
    induction k with
    | zero => simp
    | succ k ih =>
      rcases Nat.lt_or_ge k l.length with hk | hk
      · have hx : l[k]? = some (l[k]'hk) := List.getElem?_eq_getElem hk
        have hy : m[k]? = some (m[k]'(by omega)) := List.getElem?_eq_getElem _
        obtain ⟨_, a2, a3⟩ := h.2 k _ hx
        obtain ⟨_, b2, b3⟩ := g.2 k _ hy
        rw [ih] at a2 a3
        have : l[k]'hk = m[k]'(by omega) := by
          rcases Nat.lt_trichotomy (l[k]'hk) (m[k]'(by omega)) with c | c | c
          · exact absurd a2 (b3 _ c)
          · exact c
          · exact absurd b2 (a3 _ c)
        rw [take_snoc _ _ _ hx, take_snoc _ _ _ hy, ih, this]
      · rw [List.take_of_length_le (by omega), List.take_of_length_le (by omega)] at ih ⊢
        exact ih
  have := key l.length
  rw [List.take_length, hl, List.take_length] at this
  exact this
theorem eg_lt {xs : List No} (hv : Val xs) : ∀ a e, e ∈ eg xs a → e < xs.length := by
  intro a e he
  unfold eg at he
  split at he
  · rename_i x hx
    obtain ⟨z, hz, rfl⟩ := List.mem_map.1 he
    have := hv.2 x (List.mem_of_getElem? hx) z hz
    omega
  · cases he
theorem cyc_none {xs : List No} (h : cyc xs = 0) : ∀ x, ¬ Waits (eg xs) x x := by
  have hE : ∃ c, IsCyc (eg xs) c := by
    by_cases hc : ∃ x, Waits (eg xs) x x
    · obtain ⟨x, hx⟩ := hc
      obtain ⟨m, h1, h2, h3⟩ := cycle_least hx
      exact ⟨m + 1, .inr ⟨m, rfl, h2.waits, h3⟩⟩
    · exact ⟨0, .inl ⟨rfl, fun x hx => hc ⟨x, hx⟩⟩⟩
  obtain ⟨c, hc⟩ := hE
  have := cyc_eq hc
  rw [h] at this
  subst this
  rcases hc with ⟨_, h⟩ | ⟨m, h, _⟩
  · exact h
  · cases h

/-- those of a list, marked -/
def tk (l : List Nat) : Nat → Bool := fun i => l.contains i
theorem tk_iff {l : List Nat} {i : Nat} : tk l i = true ↔ i ∈ l := by unfold tk; simp
theorem tk_mark (l : List Nat) (k : Nat) : mark (tk l) k = tk (l ++ [k]) := by
  funext i
  unfold mark tk
  split
  · simp_all
  · simp_all
end Gr
end Go.Proofs.Ytgjiaajeionofaa
