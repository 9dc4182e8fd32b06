/- How nodes stand, told in memory: read again. -/
import Derived.Test.YtljpeochlacdnaaRTld
namespace Go.Proofs.Ytljpeochlacdnaa
namespace Rn
open Go.RowKit Gr

theorem RdT.new {w w' : World} {s : Option Addr × Nat × Nat} {ps : List Pt} (h : RdT w s ps) (k : Keep (fun _ => False) w w') : RdT w' s ps := by
  obtain ⟨h1, h2⟩ := h
  refine ⟨h1, ?_⟩
  rcases h2 with h2 | ⟨g, off, e, h2⟩
  · exact .inl h2
  · refine .inr ⟨g, off, e, fun i p hp => ?_⟩
    obtain ⟨m, h3, h4⟩ := h2 i p hp
    exact ⟨m, fun j u hu => k.cell (h3 j u hu) (fun f => f), h4.stay k fun _ _ _ f => f⟩
/-- one node of it -/
theorem RdT.at {w : World} {s : Option Addr × Nat × Nat} {ps : List Pt} (h : RdT w s ps) {i : Nat} (hi : i < ps.length) : ∃ (g off : Nat) (p : Pt) (m : Option Addr × Nat × Nat), s.1 = some ⟨g, off, none⟩ ∧ ps[i]? = some p ∧ w.cell? ⟨g, off + i * 5, none⟩ = some (.int .i64 p.st) ∧ w.cell? ⟨g, off + i * 5 + 1, none⟩ = some (.int .i64 p.tr) ∧ w.cell? ⟨g, off + i * 5 + 4, none⟩ = some (.slice m.1 m.2.1 m.2.2) ∧ Rd w m.1 m.2.1 p.rs := by
  obtain ⟨h1, h2⟩ := h
  obtain ⟨g, off, e, h2⟩ := h2.resolve_left (by omega)
  have hp : ps[i]? = some ps[i] := List.getElem?_eq_getElem hi
  obtain ⟨m, h3, h4⟩ := h2 i _ hp
  exact ⟨g, off, _, m, e, hp, h3 0 _ rfl, h3 1 _ rfl, h3 4 _ rfl, h4⟩
end Rn
end Go.Proofs.Ytljpeochlacdnaa
