/- DiskOwns: marks stored behind what was copied. -/
import Derived.Test.YtmaeaibphggceaaDOcp
namespace Go.Proofs.Ytmaeaibphggceaa
open Go.RowKit Go.Lib

theorem B8_setN (l : List Nat) (j d : Nat) : B8 (l.set j d) = (B8 l).set j (.int .u8 (d : Nat)) := by simp [B8, List.map_set]
theorem Zv_setN (l : List Int) (j : Nat) (d : Int) : Zv (l.set j d) = (Zv l).set j (.int .i64 d) := by simp [Zv, List.map_set]
theorem row_setB {w : World} {f m cap : Nat} {l : List Nat} (h : w.ownsRow 0 5 1 (.slice (some ⟨f, 0, none⟩) m cap) m (B8 l)) (j d : Nat) : (w.setCell ⟨f, j, none⟩ (.int .u8 (d : Nat))).ownsRow 0 5 1 (.slice (some ⟨f, 0, none⟩) m cap) m (B8 (l.set j d)) := by
  rw [B8_setN]
  exact (h.stored j _).1
theorem row_setI {w : World} {f m cap : Nat} {l : List Int} (h : w.ownsRow 0 3 1 (.slice (some ⟨f, 0, none⟩) m cap) m (Zv l)) (j : Nat) (d : Int) : (w.setCell ⟨f, j, none⟩ (.int .i64 d)).ownsRow 0 3 1 (.slice (some ⟨f, 0, none⟩) m cap) m (Zv (l.set j d)) := by
  rw [Zv_setN]
  exact (h.stored j _).1
/-- a cell of a row of bytes: it is there, and it may be written -/
theorem row_cellB {w : World} {f m cap : Nat} {l : List Nat} (h : w.ownsRow 0 5 1 (.slice (some ⟨f, 0, none⟩) m cap) m (B8 l)) (j : Nat) (hj : j < m) : w.cell? ⟨f, j, none⟩ = some (.int .u8 ((l.getD j 0 : Nat) : Int)) := by
  have hl : l.length = m := by have := h.1; rw [B8_length] at this; omega
  have := h.cells (g := f) rfl j (.int .u8 ((l.getD j 0 : Nat) : Int)) (B8_at l j (by omega))
  rw [Addr.add_lit, Nat.zero_add] at this
  exact this
theorem row_cellI {w : World} {f m cap : Nat} {l : List Int} (h : w.ownsRow 0 3 1 (.slice (some ⟨f, 0, none⟩) m cap) m (Zv l)) (j : Nat) (hj : j < m) : w.cell? ⟨f, j, none⟩ = some (.int .i64 (l.getD j 0)) := by
  have hl : l.length = m := by have := h.1; rw [Zv_len] at this; omega
  have := h.cells (g := f) rfl j (.int .i64 (l.getD j 0)) (Zv_at l j (by omega))
  rw [Addr.add_lit, Nat.zero_add] at this
  exact this
/-- bytes with two marks behind them -/
def mkB (b X : List Nat) : List Nat := ((b.take (b.length + 2) ++ X.drop (min b.length (b.length + 2))).set b.length 201).set (b.length + 1) 202
theorem mkB_take (b X : List Nat) (h : b.length + 2 ≤ X.length) : (mkB b X).take (b.length + 2) = b ++ [201, 202] := by
  unfold mkB
  have h1 : min b.length (b.length + 2) = b.length := by omega
  have h2 : b.take (b.length + 2) = b := List.take_of_length_le (by omega)
  rw [h1, h2]
  obtain ⟨u, v, r, e⟩ : ∃ u v r, X.drop b.length = u :: v :: r := by
    match hd : X.drop b.length with
    | [] => have := congrArg List.length hd; simp at this; omega
    | [u] => have := congrArg List.length hd; simp at this; omega
    | u :: v :: r => exact ⟨u, v, r, rfl⟩
  rw [e, List.set_append_right _ _ (Nat.le_refl _), Nat.sub_self, List.set_append_right _ _ (by omega), Nat.add_sub_cancel_left]
  simp only [List.set_cons_zero, List.set_cons_succ]
  rw [List.take_append, h2, Nat.add_sub_cancel_left]
  rfl
theorem mkB_len (b X : List Nat) (h : b.length + 2 ≤ X.length) : (mkB b X).length = X.length := by
  unfold mkB
  simp only [List.length_set, List.length_append, List.length_take, List.length_drop]
  omega
theorem mkB_lt (b X : List Nat) (hb : ∀ d ∈ b, d < 256) (hX : ∀ d ∈ X, d < 256) : ∀ d ∈ mkB b X, d < 256 := fun d hd => by
  unfold mkB at hd
  rcases List.mem_or_eq_of_mem_set hd with h | h
  · rcases List.mem_or_eq_of_mem_set h with h | h
    · rcases List.mem_append.1 h with h | h
      · exact hb d (List.mem_of_mem_take h)
      · exact hX d (List.mem_of_mem_drop h)
    · omega
  · omega
/-- numbers with a mark behind them -/
def mkI (b X : List Int) : List Int := (b.take (b.length + 1) ++ X.drop (min b.length (b.length + 1))).set b.length 7
theorem mkI_take (b X : List Int) (h : b.length + 1 ≤ X.length) : (mkI b X).take (b.length + 1) = b ++ [7] := by
  unfold mkI
  have h1 : min b.length (b.length + 1) = b.length := by omega
  have h2 : b.take (b.length + 1) = b := List.take_of_length_le (by omega)
  rw [h1, h2]
  obtain ⟨u, r, e⟩ : ∃ u r, X.drop b.length = u :: r := by
    match hd : X.drop b.length with
    | [] => have := congrArg List.length hd; simp at this; omega
    | u :: r => exact ⟨u, r, rfl⟩
  rw [e, List.set_append_right _ _ (Nat.le_refl _), Nat.sub_self]
  simp only [List.set_cons_zero]
  rw [List.take_append, h2, Nat.add_sub_cancel_left]
  rfl
theorem mkI_len (b X : List Int) (h : b.length + 1 ≤ X.length) : (mkI b X).length = X.length := by
  unfold mkI
  simp only [List.length_set, List.length_append, List.length_take, List.length_drop]
  omega
theorem mkI_in {P : Int → Prop} (b X : List Int) (h7 : P 7) (hb : ∀ d ∈ b, P d) (hX : ∀ d ∈ X, P d) : ∀ d ∈ mkI b X, P d := fun d hd => by
  unfold mkI at hd
  rcases List.mem_or_eq_of_mem_set hd with h | h
  · rcases List.mem_append.1 h with h | h
    · exact hb d (List.mem_of_mem_take h)
    · exact hX d (List.mem_of_mem_drop h)
  · rw [h]; exact h7
end Go.Proofs.Ytmaeaibphggceaa
