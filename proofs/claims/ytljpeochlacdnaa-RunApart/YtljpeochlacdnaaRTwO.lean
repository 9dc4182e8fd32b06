/- Two plans and two scripts that came in as one struct, opened. -/
import Derived.Test.YtljpeochlacdnaaROpn
namespace Go.Proofs.Ytljpeochlacdnaa
open Go.ChangeShapes Go.WideShapes Go.ChangeAt Go.RowKit Go.Joins Go.Deep Rn

theorem cells_twins : Try.prog.cellsOf 54 = 8 := by kernel_rfl
theorem cells_slo2 : Try.prog.cellsOf 25 = 1 := by kernel_rfl
/-- steps, by their cell, and how many there may be -/
theorem trod_ops2 {H : Type} {enc : TypeId × Value → H} {W : World} {fuel : Nat} {v : Value} {x : DataW H × List MemPlace}
    (h : DataW.trod enc Try.prog W 0 (fun _ => true) true fuel 25 [v] = some x) (hw : ∀ k ∈ x.1.weights Try.prog 25, k ≤ reachBytes) : ∃ (t : Option Addr × Nat × Nat) (qs : List Sp), v = .slice t.1 t.2.1 t.2.2 ∧ RdO W t qs ∧ t.2.1 * 56 ≤ 140737488351232 := by
  have hs : ∃ a n c, v = .slice a n c ∧ n * 56 ≤ 140737488351232 := by
    rcases open_slice Try.underlying25 h with ⟨hcs, _⟩ | ⟨y, len, cap, m, k, D, Pl, hcs, _, hl, hm, hmm, hx, hel⟩
    · simp at hcs; exact ⟨_, _, _, hcs, by decide⟩
    · simp at hcs
      simp only [if_true] at hmm
      subst hmm
      refine ⟨_, _, _, hcs, ?_⟩
      have := hw (((((List.range len).map D).length + ((List.range (m - len)).map fun j => D (len + j)).length)) * 56) (by
        rw [hx]
        simp [DataW.weights, Try.underlying25, bytes_op])
      simp only [List.length_map, List.length_range, reachBytes] at this
      omega
  obtain ⟨a, n, c, rfl, hn⟩ := hs
  obtain ⟨d, p⟩ := x
  obtain ⟨qs, hq⟩ := open_ops (d := d) (p := p) ⟨fuel, h⟩ hw
  exact ⟨(a, n, c), qs, rfl, hq, hn⟩
structure Tw where
  p : Pl
  q : Pl
  t : Option Addr × Nat × Nat
  ts : List Sp
  u : Option Addr × Nat × Nat
  us : List Sp
def Tw.row (h : Tw) : List Value := [.string h.p.nm, .int .i64 h.p.dl, .slice h.p.s.1 h.p.s.2.1 h.p.s.2.2, .string h.q.nm, .int .i64 h.q.dl, .slice h.q.s.1 h.q.s.2.1 h.q.s.2.2, .slice h.t.1 h.t.2.1 h.t.2.2, .slice h.u.1 h.u.2.1 h.u.2.2]
structure Tw.In (h : Tw) (W : World) : Prop where
  p : h.p.In W
  q : h.q.In W
  t : RdO W h.t h.ts
  u : RdO W h.u h.us
  nt : h.t.2.1 * 56 ≤ 140737488351232
set_option maxRecDepth 100000 in
theorem twins_open {H : Type} {enc : TypeId × Value → H} {W : World} {k : Nat} {cs : List Value} {y : DataW H × List MemPlace} (hlen : cs.length = 8) (h : DataW.trod enc Try.prog W 0 (fun _ => true) true k 54 cs = some y) (hw : ∀ k ∈ y.1.weights Try.prog 54, k ≤ reachBytes) :
    ∃ q : Tw, cs = q.row ∧ q.In W := by
  obtain ⟨xs, k1, hk, hxy, _, hxl, hff⟩ := DataW.trod_struct Try.underlying54 h
  match xs, hxl, cs, hlen with
  | [y0, y1, y2, y3], _, [v0, v1, v2, v3, v4, v5, v6, v7], _ =>
    have g0 := hff 0 _ rfl
    have g1 := hff 1 _ rfl
    have g2 := hff 2 _ rfl
    have g3 := hff 3 _ rfl
    simp [cells_plan, cells_slo2] at g0 g1 g2 g3
    rw [hxy] at hw
    have w0 := weigh_field Try.underlying54 hw (j := 0) rfl rfl
    have w1 := weigh_field Try.underlying54 hw (j := 1) rfl rfl
    have w2 := weigh_field Try.underlying54 hw (j := 2) rfl rfl
    have w3 := weigh_field Try.underlying54 hw (j := 3) rfl rfl
    obtain ⟨q0, hq0, hi0⟩ := plan_open rfl g0 w0
    obtain ⟨q1, hq1, hi1⟩ := plan_open rfl g1 w1
    obtain ⟨t, ts, rfl, ho, hn⟩ := trod_ops2 g2 w2
    obtain ⟨u, us, rfl, hu, _⟩ := trod_ops2 g3 w3
    simp only [Pl.row, List.cons.injEq] at hq0 hq1
    obtain ⟨rfl, rfl, rfl, _⟩ := hq0
    obtain ⟨rfl, rfl, rfl, _⟩ := hq1
    exact ⟨⟨q0, q1, t, ts, u, us⟩, rfl, hi0, hi1, ho, hu, hn⟩
set_option maxRecDepth 100000 in
theorem open_twins {H : Type} {enc : TypeId × Value → H} {W : World} {r : Reach} {b0 : Nat} {v : Value} {d : DataW H} {p : List MemPlace}
    (hv : Value.okWide Try.prog W r b0 54 v) (h : DataW.Trod enc Try.prog W 0 (fun _ => true) true 54 v d p) (hw : ∀ k ∈ d.weights Try.prog 54, k ≤ reachBytes) :
    ∃ q : Tw, v = .agg q.row.toArray ∧ q.In W := by
  obtain ⟨cs, rfl, hl, k, h⟩ := struct_cells Try.underlying54 hv h
  rw [cells_twins] at hl
  obtain ⟨q, hq, hi⟩ := twins_open hl h hw
  exact ⟨q, by rw [← hq], hi⟩
end Go.Proofs.Ytljpeochlacdnaa
