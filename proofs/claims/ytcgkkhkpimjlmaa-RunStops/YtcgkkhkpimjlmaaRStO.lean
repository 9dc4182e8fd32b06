/- A plan, steps, a bool and a number that came in as one struct, opened. -/
import Derived.Test.YtcgkkhkpimjlmaaROpn
namespace Go.Proofs.Ytcgkkhkpimjlmaa
open Go.ChangeShapes Go.WideShapes Go.ChangeAt Go.RowKit Go.Joins Go.Deep Rn

theorem cells_halt : Try.prog.cellsOf 76 = 6 := by kernel_rfl
theorem cells_bool : Try.prog.cellsOf 4 = 1 := by kernel_rfl
theorem cells_slo : Try.prog.cellsOf 25 = 1 := by kernel_rfl
theorem one_bool {H : Type} {enc : TypeId × Value → H} {W : World} {base : Nat} {sp : Nat → Bool} {held : Bool} {n : Nat} {v : Value} {y : DataW H × List MemPlace} (h : DataW.trod enc Try.prog W base sp held n 4 [v] = some y) : ∃ z : Bool, v = .bool z := by
  obtain ⟨z, e, _⟩ := DataW.trod_bool Try.underlying4 h
  exact ⟨z, by simpa using e⟩
/-- steps, by their cell -/
theorem trod_ops {H : Type} {enc : TypeId × Value → H} {W : World} {fuel : Nat} {v : Value} {x : DataW H × List MemPlace}
    (h : DataW.trod enc Try.prog W 0 (fun _ => true) true fuel 25 [v] = some x) (hw : ∀ k ∈ x.1.weights Try.prog 25, k ≤ reachBytes) : ∃ (t : Option Addr × Nat × Nat) (qs : List Sp), v = .slice t.1 t.2.1 t.2.2 ∧ RdO W t qs := by
  have hs : ∃ a n c, v = .slice a n c := by
    rcases open_slice Try.underlying25 h with ⟨hcs, _⟩ | ⟨y, len, cap, m, k, D, Pl, hcs, _⟩
    · simp at hcs; exact ⟨_, _, _, hcs⟩
    · simp at hcs; exact ⟨_, _, _, hcs⟩
  obtain ⟨a, n, c, rfl⟩ := hs
  obtain ⟨d, p⟩ := x
  obtain ⟨qs, hq⟩ := open_ops (d := d) (p := p) ⟨fuel, h⟩ hw
  exact ⟨(a, n, c), qs, rfl, hq⟩
structure Ht where
  q : Pl
  t : Option Addr × Nat × Nat
  qs : List Sp
  ex : Bool
  nd : Int
def Ht.row (h : Ht) : List Value := [.string h.q.nm, .int .i64 h.q.dl, .slice h.q.s.1 h.q.s.2.1 h.q.s.2.2, .slice h.t.1 h.t.2.1 h.t.2.2, .bool h.ex, .int .i64 h.nd]
structure Ht.In (h : Ht) (W : World) : Prop where
  q : h.q.In W
  o : RdO W h.t h.qs
  n : -9223372036854775808 ≤ h.nd ∧ h.nd ≤ 9223372036854775807
set_option maxRecDepth 100000 in
theorem halt_open {H : Type} {enc : TypeId × Value → H} {W : World} {k : Nat} {cs : List Value} {y : DataW H × List MemPlace} (hlen : cs.length = 6) (h : DataW.trod enc Try.prog W 0 (fun _ => true) true k 76 cs = some y) (hw : ∀ k ∈ y.1.weights Try.prog 76, k ≤ reachBytes) :
    ∃ q : Ht, cs = q.row ∧ q.In W := by
  obtain ⟨xs, k1, hk, hxy, _, hxl, hff⟩ := DataW.trod_struct Try.underlying76 h
  match xs, hxl, cs, hlen with
  | [y0, y1, y2, y3], _, [v0, v1, v2, v3, v4, v5], _ =>
    have g0 := hff 0 _ rfl
    have g1 := hff 1 _ rfl
    have g2 := hff 2 _ rfl
    have g3 := hff 3 _ rfl
    simp [cells_plan, cells_bool, cells_int, cells_slo] at g0 g1 g2 g3
    rw [hxy] at hw
    have w0 := weigh_field Try.underlying76 hw (j := 0) rfl rfl
    have w1 := weigh_field Try.underlying76 hw (j := 1) rfl rfl
    obtain ⟨q, hq, hi⟩ := plan_open rfl g0 w0
    obtain ⟨t, qs, rfl, ho⟩ := trod_ops g1 w1
    obtain ⟨z2, rfl⟩ := one_bool g2
    obtain ⟨z3, rfl, c3⟩ := one_int g3
    simp only [Pl.row, List.cons.injEq] at hq
    obtain ⟨rfl, rfl, rfl, _⟩ := hq
    exact ⟨⟨q, t, qs, z2, z3⟩, rfl, hi, ho, c3⟩
set_option maxRecDepth 100000 in
theorem open_halt {H : Type} {enc : TypeId × Value → H} {W : World} {r : Reach} {b0 : Nat} {v : Value} {d : DataW H} {p : List MemPlace}
    (hv : Value.okWide Try.prog W r b0 76 v) (h : DataW.Trod enc Try.prog W 0 (fun _ => true) true 76 v d p) (hw : ∀ k ∈ d.weights Try.prog 76, k ≤ reachBytes) :
    ∃ q : Ht, v = .agg q.row.toArray ∧ q.In W := by
  obtain ⟨cs, rfl, hl, k, h⟩ := struct_cells Try.underlying76 hv h
  rw [cells_halt] at hl
  obtain ⟨q, hq, hi⟩ := halt_open hl h hw
  exact ⟨q, by rw [← hq], hi⟩
end Go.Proofs.Ytcgkkhkpimjlmaa
