/- A plan and three numbers that came in as one struct, opened. -/
import Derived.Test.YtljfomaiikpdjaaGOpn
namespace Go.Proofs.Ytljfomaiikpdjaa
open Go.ChangeShapes Go.WideShapes Go.ChangeAt Go.RowKit Go.Joins Go.Deep

theorem cells_spoilt : Try.prog.cellsOf 38 = 6 := by kernel_rfl
structure Sl where
  p : Pl
  nd : Int
  fd : Int
  v : Int
def Sl.row (h : Sl) : List Value := [.string h.p.nm, .int .i64 h.p.dl, .slice h.p.s.1 h.p.s.2.1 h.p.s.2.2, .int .i64 h.nd, .int .i64 h.fd, .int .i64 h.v]
structure Sl.In (h : Sl) (W : World) : Prop where
  p : h.p.In W
  nd : -9223372036854775808 ≤ h.nd ∧ h.nd ≤ 9223372036854775807
  fd : -9223372036854775808 ≤ h.fd ∧ h.fd ≤ 9223372036854775807
  v : -9223372036854775808 ≤ h.v ∧ h.v ≤ 9223372036854775807
set_option maxRecDepth 100000 in
theorem spoilt_open {H : Type} {enc : TypeId × Value → H} {W : World} {k : Nat} {cs : List Value} {y : DataW H × List MemPlace} (hlen : cs.length = 6) (h : DataW.trod enc Try.prog W 0 (fun _ => true) true k 38 cs = some y) (hw : ∀ k ∈ y.1.weights Try.prog 38, k ≤ reachBytes) :
    ∃ q : Sl, cs = q.row ∧ q.In W := by
  obtain ⟨xs, k1, hk, hxy, _, hxl, hff⟩ := DataW.trod_struct Try.underlying38 h
  match xs, hxl, cs, hlen with
  | [y0, y1, y2, y3], _, [v0, v1, v2, v3, v4, v5], _ =>
    have g0 := hff 0 _ rfl
    have g1 := hff 1 _ rfl
    have g2 := hff 2 _ rfl
    have g3 := hff 3 _ rfl
    simp [cells_plan, cells_int] at g0 g1 g2 g3
    rw [hxy] at hw
    have w0 := weigh_field Try.underlying38 hw (j := 0) rfl rfl
    obtain ⟨q0, hq0, hi0⟩ := plan_open rfl g0 w0
    obtain ⟨z1, rfl, b1⟩ := one_int g1
    obtain ⟨z2, rfl, b2⟩ := one_int g2
    obtain ⟨z3, rfl, b3⟩ := one_int g3
    simp only [Pl.row, List.cons.injEq] at hq0
    obtain ⟨rfl, rfl, rfl, _⟩ := hq0
    exact ⟨⟨q0, z1, z2, z3⟩, rfl, hi0, b1, b2, b3⟩
set_option maxRecDepth 100000 in
theorem open_spoilt {H : Type} {enc : TypeId × Value → H} {W : World} {r : Reach} {b0 : Nat} {v : Value} {d : DataW H} {p : List MemPlace}
    (hv : Value.okWide Try.prog W r b0 38 v) (h : DataW.Trod enc Try.prog W 0 (fun _ => true) true 38 v d p) (hw : ∀ k ∈ d.weights Try.prog 38, k ≤ reachBytes) :
    ∃ q : Sl, v = .agg q.row.toArray ∧ q.In W := by
  obtain ⟨cs, rfl, hl, k, h⟩ := struct_cells Try.underlying38 hv h
  rw [cells_spoilt] at hl
  obtain ⟨q, hq, hi⟩ := spoilt_open hl h hw
  exact ⟨q, by rw [← hq], hi⟩
end Go.Proofs.Ytljfomaiikpdjaa
