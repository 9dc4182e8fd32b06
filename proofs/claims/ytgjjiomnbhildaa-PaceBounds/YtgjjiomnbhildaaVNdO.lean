/- Nodes that came in, opened. -/
import Derived.Test.YtgjjiomnbhildaaVLft
import Derived.Test.YtgjjiomnbhildaaVWai
namespace Go.Proofs.Ytgjjiomnbhildaa
open Go.ChangeShapes Go.WideShapes Go.ChangeAt Go.RowKit Go.Joins Go.Deep

theorem cells_str : Try.prog.cellsOf 9 = 1 := by kernel_rfl
theorem cells_ints : Try.prog.cellsOf 22 = 1 := by kernel_rfl
theorem cells_node : Try.prog.cellsOf 24 = 10 := by kernel_rfl
theorem one_str {H : Type} {enc : TypeId × Value → H} {W : World} {base : Nat} {sp : Nat → Bool} {held : Bool} {n : Nat} {v : Value} {y : DataW H × List MemPlace} (h : DataW.trod enc Try.prog W base sp held n 9 [v] = some y) :
    ∃ s : ByteArray, v = .string s := by
  obtain ⟨s, e, _⟩ := DataW.trod_string Try.underlying9 h
  exact ⟨s, by simpa using e⟩
theorem one_ints {H : Type} {enc : TypeId × Value → H} {W : World} {n : Nat} {v : Value} {y : DataW H × List MemPlace} (h : DataW.trod enc Try.prog W 0 (fun _ => true) true n 22 [v] = some y) :
    ∃ s : Option Addr × Nat × Nat, v = .slice s.1 s.2.1 s.2.2 := by
  rcases open_slice Try.underlying22 h with ⟨hcs, _⟩ | ⟨y, len, cap, m, k, D, Pl, hcs, _⟩
  · exact ⟨(none, 0, 0), by simpa using hcs⟩
  · exact ⟨(some y, len, cap), by simpa using hcs⟩
set_option maxRecDepth 100000 in
/-- a node, by its cells -/
theorem node_open {H : Type} {enc : TypeId × Value → H} {W : World} {k : Nat} {cs : List Value} {y : DataW H × List MemPlace} (hlen : cs.length = 10) (h : DataW.trod enc Try.prog W 0 (fun _ => true) true k 24 cs = some y) :
    ∃ q : V.Nd, cs = q.row ∧ V.Nd.In q := by
  obtain ⟨xs, k1, hk, hxy, _, hxl, hff⟩ := DataW.trod_struct Try.underlying24 h
  match xs, hxl, cs, hlen with
  | [y0, y1, y2, y3, y4, y5, y6, y7, y8, y9], _, [v0, v1, v2, v3, v4, v5, v6, v7, v8, v9], _ =>
    have g0 := hff 0 _ rfl
    have g1 := hff 1 _ rfl
    have g2 := hff 2 _ rfl
    have g3 := hff 3 _ rfl
    have g4 := hff 4 _ rfl
    have g5 := hff 5 _ rfl
    have g6 := hff 6 _ rfl
    have g7 := hff 7 _ rfl
    have g8 := hff 8 _ rfl
    have g9 := hff 9 _ rfl
    simp [cells_str, cells_int, cells_ints] at g0 g1 g2 g3 g4 g5 g6 g7 g8 g9
    obtain ⟨z0, rfl⟩ := one_str g0
    obtain ⟨z1, rfl, c1⟩ := one_int g1
    obtain ⟨z2, rfl, c2⟩ := one_int g2
    obtain ⟨z3, rfl, c3⟩ := one_int g3
    obtain ⟨z4, rfl, c4⟩ := one_int g4
    obtain ⟨z5, rfl, c5⟩ := one_int g5
    obtain ⟨z6, rfl, c6⟩ := one_int g6
    obtain ⟨z7, rfl, c7⟩ := one_int g7
    obtain ⟨z8, rfl⟩ := one_ints g8
    obtain ⟨z9, rfl⟩ := one_ints g9
    exact ⟨⟨z0, z1, z2, z3, z4, z5, z6, z7, z8, z9⟩, rfl, c1, c2, c3, c4, c5, c6, c7⟩
theorem open_node {H : Type} {enc : TypeId × Value → H} {W : World} {r : Reach} {b0 : Nat} {v : Value} {d : DataW H} {p : List MemPlace}
    (hv : Value.okWide Try.prog W r b0 24 v) (h : DataW.Trod enc Try.prog W 0 (fun _ => true) true 24 v d p) (_hw : ∀ k ∈ d.weights Try.prog 24, k ≤ reachBytes) :
    ∃ q : V.Nd, v = .agg q.row.toArray ∧ V.Nd.In q := by
  obtain ⟨cs, rfl, hl, k, h⟩ := struct_cells Try.underlying24 hv h
  rw [cells_node] at hl
  obtain ⟨q, hq, hi⟩ := node_open hl h
  exact ⟨q, by rw [← hq], hi⟩
end Go.Proofs.Ytgjjiomnbhildaa
