/- A plan, two numbers and a bool that came in as one struct, opened. -/
import Derived.Test.YtljfomaiikpdjaaGOpn
namespace Go.Proofs.Ytljfomaiikpdjaa
open Go.ChangeShapes Go.WideShapes Go.ChangeAt Go.RowKit Go.Joins Go.Deep

theorem cells_edge : Try.prog.cellsOf 26 = 6 := by kernel_rfl
theorem cells_bool : Try.prog.cellsOf 4 = 1 := by kernel_rfl
theorem one_bool {H : Type} {enc : TypeId × Value → H} {W : World} {base : Nat} {sp : Nat → Bool} {held : Bool} {n : Nat} {v : Value} {y : DataW H × List MemPlace} (h : DataW.trod enc Try.prog W base sp held n 4 [v] = some y) : ∃ z : Bool, v = .bool z := by
  obtain ⟨z, e, _⟩ := DataW.trod_bool Try.underlying4 h
  exact ⟨z, by simpa using e⟩
structure Ed where
  p : Pl
  fr : Int
  to : Int
  af : Bool
def Ed.row (h : Ed) : List Value := [.string h.p.nm, .int .i64 h.p.dl, .slice h.p.s.1 h.p.s.2.1 h.p.s.2.2, .int .i64 h.fr, .int .i64 h.to, .bool h.af]
structure Ed.In (h : Ed) (W : World) : Prop where
  p : h.p.In W
  fr : -9223372036854775808 ≤ h.fr ∧ h.fr ≤ 9223372036854775807
  to : -9223372036854775808 ≤ h.to ∧ h.to ≤ 9223372036854775807
set_option maxRecDepth 100000 in
theorem edge_open {H : Type} {enc : TypeId × Value → H} {W : World} {k : Nat} {cs : List Value} {y : DataW H × List MemPlace} (hlen : cs.length = 6) (h : DataW.trod enc Try.prog W 0 (fun _ => true) true k 26 cs = some y) (hw : ∀ k ∈ y.1.weights Try.prog 26, k ≤ reachBytes) :
    ∃ q : Ed, cs = q.row ∧ q.In W := by
  obtain ⟨xs, k1, hk, hxy, _, hxl, hff⟩ := DataW.trod_struct Try.underlying26 h
  match xs, hxl, cs, hlen with
  | [y0, y1, y2, y3], _, [v0, v1, v2, v3, v4, v5], _ =>
    have g0 := hff 0 _ rfl
    have g1 := hff 1 _ rfl
    have g2 := hff 2 _ rfl
    have g3 := hff 3 _ rfl
    simp [cells_plan, cells_int, cells_bool] at g0 g1 g2 g3
    rw [hxy] at hw
    have w0 := weigh_field Try.underlying26 hw (j := 0) rfl rfl
    obtain ⟨q0, hq0, hi0⟩ := plan_open rfl g0 w0
    obtain ⟨z1, rfl, b1⟩ := one_int g1
    obtain ⟨z2, rfl, b2⟩ := one_int g2
    obtain ⟨z3, rfl⟩ := one_bool g3
    simp only [Pl.row, List.cons.injEq] at hq0
    obtain ⟨rfl, rfl, rfl, _⟩ := hq0
    exact ⟨⟨q0, z1, z2, z3⟩, rfl, hi0, b1, b2⟩
set_option maxRecDepth 100000 in
theorem open_edge {H : Type} {enc : TypeId × Value → H} {W : World} {r : Reach} {b0 : Nat} {v : Value} {d : DataW H} {p : List MemPlace}
    (hv : Value.okWide Try.prog W r b0 26 v) (h : DataW.Trod enc Try.prog W 0 (fun _ => true) true 26 v d p) (hw : ∀ k ∈ d.weights Try.prog 26, k ≤ reachBytes) :
    ∃ q : Ed, v = .agg q.row.toArray ∧ q.In W := by
  obtain ⟨cs, rfl, hl, k, h⟩ := struct_cells Try.underlying26 hv h
  rw [cells_edge] at hl
  obtain ⟨q, hq, hi⟩ := edge_open hl h hw
  exact ⟨q, by rw [← hq], hi⟩
end Go.Proofs.Ytljfomaiikpdjaa
