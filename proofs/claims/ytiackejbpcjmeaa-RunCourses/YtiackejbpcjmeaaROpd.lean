/- Scripts of steps of a run, in memory. -/
import Derived.Test.YtiackejbpcjmeaaRByt
namespace Go.Proofs.Ytiackejbpcjmeaa
namespace Rn
open Go.RowKit

/-- a step of a script -/
structure Sp where
  k : Int
  on : Int
  to : Int
  i : Int
  res : List Nat
  ra : Option Addr
  rc : Nat
def Sp.row (q : Sp) : List Value := [.int .i64 q.k, .int .i64 q.on, .int .i64 q.to, .int .i64 q.i, .slice q.ra q.res.length q.rc]
def SpOk (w : World) (q : Sp) : Prop := Rd w q.ra q.res.length q.res ∧ (q.ra = none → q.rc = 0) ∧ q.res.length ≤ 140737488355328
/-- a script that can be read -/
def RdO (w : World) (s : Option Addr × Nat × Nat) (qs : List Sp) : Prop :=
  s.2.1 = qs.length ∧ s.2.1 ≤ 140737488355328 ∧ (∀ q ∈ qs, SpOk w q) ∧ (s.2.1 = 0 ∨ ∃ g off, s.1 = some ⟨g, off, none⟩ ∧ ∀ i q, qs[i]? = some q → ∀ j u, q.row[j]? = some u → w.cell? ⟨g, off + i * 5 + j, none⟩ = some u)
theorem RdO.below {w w' : World} {s : Option Addr × Nat × Nat} {qs : List Sp} (h : RdO w s qs) (k : Below w.heap.size w w') : RdO w' s qs := by
  obtain ⟨h1, h2, h3, h4⟩ := h
  refine ⟨h1, h2, fun q hq => ⟨(h3 q hq).1.keep k, (h3 q hq).2⟩, h4.imp id ?_⟩
  rintro ⟨g, off, e, h⟩
  exact ⟨g, off, e, fun i q hq j u hu => (k.cell (World.block_lt_of_cell? _ _ (h i q hq j u hu))).trans (h i q hq j u hu)⟩
/-- one step of it -/
theorem RdO.at {w : World} {s : Option Addr × Nat × Nat} {qs : List Sp} (h : RdO w s qs) {i : Nat} (hi : i < s.2.1) : ∃ (g off : Nat) (q : Sp), s.1 = some ⟨g, off, none⟩ ∧ qs[i]? = some q ∧ SpOk w q ∧ w.cell? ⟨g, off + i * 5, none⟩ = some (.int .i64 q.k) ∧ w.cell? ⟨g, off + i * 5 + 1, none⟩ = some (.int .i64 q.on) ∧ w.cell? ⟨g, off + i * 5 + 2, none⟩ = some (.int .i64 q.to) ∧ w.cell? ⟨g, off + i * 5 + 3, none⟩ = some (.int .i64 q.i) ∧ w.cell? ⟨g, off + i * 5 + 4, none⟩ = some (.slice q.ra q.res.length q.rc) := by
  obtain ⟨h1, h2, h3, h4⟩ := h
  obtain ⟨g, off, e, h⟩ := h4.resolve_left (by omega)
  have hq : qs[i]? = some (qs[i]'(by omega)) := List.getElem?_eq_getElem _
  exact ⟨g, off, _, e, hq, h3 _ (List.mem_of_getElem? hq), h i _ hq 0 _ rfl, h i _ hq 1 _ rfl, h i _ hq 2 _ rfl, h i _ hq 3 _ rfl, h i _ hq 4 _ rfl⟩
end Rn
end Go.Proofs.Ytiackejbpcjmeaa
