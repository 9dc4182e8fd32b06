/- The document's Check (escapementref10): Waits. -/
import Derived.Test.YtgjiaajeionofaaGRfB
import Derived.Test.YtgjiaajeionofaaGChk
import Derived.Laws.MakeOwn
namespace Go.Proofs.Ytgjiaajeionofaa
namespace Gr
open Go.RowKit

theorem info_boolR : (Try.prog.info? 4).map (fun i => (i.zero, i.size, i.bytes)) = some (some (.bool false), 1, 1) := by kernel_rfl
theorem made_boolsR (u : World) (n : Nat) (hn : n ≤ 1048576) : (Instr.makeSlice 59 (.int .i64 (n : Nat)) (.int .i64 (n : Nat))).run Try.prog u = .ok (.slice (some ⟨u.heap.size, 0, none⟩) n n) (u.alloc (.cells (madeCells #[.bool false] n) 4)) := by
  obtain ⟨i0, hi, hz0, hz1, hz2⟩ := info_parts info_boolR
  have h := run_make (P := Try.prog) (w := u) 59 4 i0 (.bool false) Try.underlying59 hi hz0 .i64 .i64 (n : Int) (n : Int) (by omega) (Int.le_refl _) (by rw [hz2]; omega) (by omega)
  simpa [hz1, Value.cells] using h
/-- a row of flags in memory -/
def SnAt (W : World) (B n : Nat) (f : Nat → Bool) : Prop := ∃ cs : Array Value, W.heap[B]? = some (.cells cs 4 (0, 0)) ∧ cs.size = n ∧ ∀ j, j < n → cs[j]? = some (.bool (f j))
theorem SnAt.keep {W W' : World} {B n : Nat} {f : Nat → Bool} (h : SnAt W B n f) {S : Nat → Prop} (hk : Keep S W W') (hS : ¬ S B) : SnAt W' B n f := by
  obtain ⟨cs, h1, h2⟩ := h
  exact ⟨cs, hk.blk h1 hS, h2⟩
def setF (f : Nat → Bool) (k : Nat) : Nat → Bool := fun j => if j = k then true else f j
theorem SnAt.set {W : World} {B n : Nat} {f : Nat → Bool} (h : SnAt W B n f) (k : Nat) : SnAt (W.setCell ⟨B, k, none⟩ (.bool true)) B n (setF f k) := by
  obtain ⟨cs, h1, h2, h3⟩ := h
  refine ⟨_, set_blk h1 k _, by simp [h2], fun j hj => ?_⟩
  rw [Array.getElem?_setIfInBounds]
  unfold setF
  by_cases e : k = j
  · subst e; simp [h2, hj]
  · rw [if_neg e, if_neg (Ne.symm e), h3 j hj]
theorem sn_new (w : World) (n : Nat) : SnAt (w.alloc (.cells (madeCells #[.bool false] n) 4)) w.heap.size n (fun _ => false) :=
  ⟨_, heap_alloc_new _ _, by simp [madeCells], fun j hj => by simp [madeCells, hj, Nat.mod_one]⟩
theorem SnAt.at {W : World} {B n : Nat} {f : Nat → Bool} (h : SnAt W B n f) {j : Nat} (hj : j < n) : W.cell? ⟨B, j, none⟩ = some (.bool (f j)) ∧ W.frozen? ⟨B, j, none⟩ = false := by
  obtain ⟨cs, h1, _, h3⟩ := h
  exact ⟨cell_blk h1 j (h3 j hj), frozen_blk h1 j⟩
/-- how many flags are down -/
def low (f : Nat → Bool) (n : Nat) : Nat := ((List.range n).filter fun j => !f j).length
def isUp : Option Value → Bool
  | some (.bool true) => true
  | _ => false
/-- the same, off memory -/
def lowW (w : World) (B n : Nat) : Nat := low (fun j => isUp (w.cell? ⟨B, j, none⟩)) n
theorem low_congr {f g : Nat → Bool} {n : Nat} (h : ∀ j, j < n → f j = g j) : low f n = low g n := by
  unfold low
  congr 1
  refine List.filter_congr fun j hj => ?_
  rw [h j (List.mem_range.1 hj)]
theorem SnAt.low {W : World} {B n : Nat} {f : Nat → Bool} (h : SnAt W B n f) : lowW W B n = Gr.low f n :=
  low_congr fun j hj => by
    rw [(h.at hj).1]
    cases f j <;> rfl
theorem low_set {f : Nat → Bool} : ∀ {n k : Nat}, k < n → f k = false → low (setF f k) n < low f n
  | 0, _, h, _ => by omega
  | n + 1, k, h, hf => by
    unfold low
    rw [List.range_succ, List.filter_append, List.filter_append, List.length_append, List.length_append]
    by_cases e : k = n
    · subst e
      have h1 : low (setF f k) k = low f k := low_congr fun j hj => by unfold setF; rw [if_neg (by omega)]
      unfold low at h1
      rw [h1]
      simp [setF, hf]
    · have h1 := low_set (n := n) (k := k) (by omega) hf
      unfold low at h1
      have h2 : setF f k n = f n := by unfold setF; rw [if_neg (fun h => e h.symm)]
      simp only [List.filter_cons, List.filter_nil, h2]
      omega
theorem eg_mem {xs : List No} {i : Nat} {x : No} (h : xs[i]? = some x) (hv : ∀ e ∈ x.nl ++ x.al, 0 ≤ e) (k : Nat) : k ∈ eg xs i ↔ (x.nl.contains (k : Int) || x.al.contains (k : Int)) = true := by
  rw [eg_at h]
  simp only [List.mem_append, List.mem_map, Bool.or_eq_true, List.contains_iff_mem]
  constructor
  · rintro (⟨e, he, rfl⟩ | ⟨e, he, rfl⟩)
    · exact .inl (by rw [Int.toNat_of_nonneg (hv e (List.mem_append_left _ he))]; exact he)
    · exact .inr (by rw [Int.toNat_of_nonneg (hv e (List.mem_append_right _ he))]; exact he)
  · rintro (h | h)
    · exact .inl ⟨_, h, by simp⟩
    · exact .inr ⟨_, h, by simp⟩
/-- who is marked waits; where nothing more comes, who waits is marked -/
theorem closed_waits {E : Nat → List Nat} {f : Nat → Bool} {i0 n : Nat} (hE : ∀ i k, k ∈ E i → i < n ∧ k < n) (hc : ∀ i, i < n → (i = i0 ∨ f i = true) → ∀ k ∈ E i, f k = true) : ∀ k, Waits E i0 k → f k = true := by
  have h : ∀ (m a b : Nat), wt E m a b → (a = i0 ∨ f a = true) → f b = true := by
    intro m
    induction m with
    | zero => intro a b h ha; exact hc a (hE a b h).1 ha b h
    | succ m ih =>
      rintro a b ⟨x, hx, h⟩ ha
      exact ih x b h (.inr (hc a (hE a x hx).1 ha x hx))
  rintro k ⟨m, hm⟩
  exact h m i0 k hm (.inl rfl)
end Gr
end Go.Proofs.Ytgjiaajeionofaa
