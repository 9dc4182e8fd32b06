/- PackAgain: three rows of one's own in a row; what a text that is read twice comes to. -/
import Derived.Test.YteaokgolnhdloaaPAg2
namespace Go.Proofs.Yteaokgolnhdloaa
namespace Wm
open Go.RowKit

theorem row_three (w : World) (a b c : Value) : (w.alloc (.cells #[a, b, c] 22)).ownsRow w.heap.size 22 1 (.slice (some ⟨w.heap.size, 0, none⟩) 3 3) 3 [a, b, c] :=
  ⟨rfl, .inr ⟨w.heap.size, 3, #[a, b, c], rfl, Nat.le_refl _, heap_alloc_new _ _, Nat.le_refl _, by decide, rfl, rfl⟩⟩
theorem Bl.three {B : Nat} {w : World} {v1 v2 v3 : Value} {l1 l2 l3 : List Nat} (h1 : w.ownsRow B 5 1 v1 l1.length (B8 l1)) (h2 : w.ownsRow B 5 1 v2 l2.length (B8 l2)) (h3 : w.ownsRow B 5 1 v3 l3.length (B8 l3)) (n12 : ∀ b, v1.ownBlock = some b → v2.ownBlock ≠ some b) (n13 : ∀ b, v1.ownBlock = some b → v3.ownBlock ≠ some b) (n23 : ∀ b, v2.ownBlock = some b → v3.ownBlock ≠ some b) : Bl B w [v1, v2, v3] [l1, l2, l3] := by
  refine ⟨rfl, fun i v l hv hl => ?_, fun i j v u b hv hu hij hb hu' => ?_⟩
  · rcases i with _ | _ | _ | i
    · cases hv; cases hl; exact h1
    · cases hv; cases hl; exact h2
    · cases hv; cases hl; exact h3
    · simp at hv
  · rcases i with _ | _ | _ | i <;> rcases j with _ | _ | _ | j <;> first | (exact absurd rfl hij) | (simp at hv; done) | (simp at hu; done) | skip
    · cases hv; cases hu; exact n12 b hb hu'
    · cases hv; cases hu; exact n13 b hb hu'
    · cases hv; cases hu; exact n12 b hu' hb
    · cases hv; cases hu; exact n23 b hb hu'
    · cases hv; cases hu; exact n13 b hu' hb
    · cases hv; cases hu; exact n23 b hu' hb
theorem Bl.ge {B : Nat} {w : World} {vs : List Value} {Ls : List (List Nat)} (h : Bl B w vs Ls) {i : Nat} (hi : Sv vs i) : B ≤ i := by
  obtain ⟨j, v, hv, hb⟩ := hi
  exact (h.lt hv hb).1
theorem tx_yes {l : List Nat} (h : txE l = 0) : okR (rowR 9223372036854775807) (newR l) (rowV 9223372036854775807 (newR l)) [] = txV l := by
  have hf : (takeR (rowR 9223372036854775807) (newR l)).fault = 0 := by
    unfold txE endR at h
    split at h
    · cases h
    · exact h
  unfold txV
  rw [if_pos h, okR_yes hf]
theorem tx_no {l : List Nat} (h : ¬ txE l = 0) : txV l = [] := by
  unfold txV
  rw [if_neg h]
end Wm
end Go.Proofs.Yteaokgolnhdloaa
