/- A plan and three lists that came in as one struct, opened. -/
import Derived.Test.YtiackejbpcjmeaaROpn
namespace Go.Proofs.Ytiackejbpcjmeaa
open Go.ChangeShapes Go.WideShapes Go.ChangeAt Go.RowKit Go.Joins Go.Deep Rn

theorem cells_course : Try.prog.cellsOf 27 = 6 := by kernel_rfl
theorem cells_sli2 : Try.prog.cellsOf 25 = 1 := by kernel_rfl
/-- a list of numbers, opened, with their bounds -/
theorem trod_numsB {H : Type} {enc : TypeId × Value → H} {W : World} {fuel : Nat} {v : Value} {x : DataW H × List MemPlace}
    (hf : DataW.trod enc Try.prog W 0 (fun _ => true) true fuel 25 [v] = some x) (hw : ∀ k ∈ x.1.weights Try.prog 25, k ≤ reachBytes) : ∃ (s : Option Addr × Nat × Nat) (z : List Int), v = .slice s.1 s.2.1 s.2.2 ∧ Gr.RdZ W.heap.size W s z ∧ ∀ c ∈ z, -9223372036854775808 ≤ c ∧ c ≤ 9223372036854775807 := by
  rcases open_slice Try.underlying25 hf with ⟨hcs, _⟩ | ⟨y, len, cap, m, k, D, Pl, hcs, _, hl, hm, hmm, hx, hel⟩
  · exact ⟨(none, 0, 0), [], by simpa using hcs, ⟨rfl, by simp, .inl rfl⟩, fun c hc => by cases hc⟩
  · simp only [if_true] at hmm
    subst hmm
    subst hx
    have hreach : m * 8 ≤ 140737488351232 := by
      have := hw (((((List.range len).map D).length + ((List.range (m - len)).map fun j => D (len + j)).length)) * 8) (by
        simp [DataW.weights, Try.underlying25, bytes_int])
      simp only [List.length_map, List.length_range, reachBytes] at this
      omega
    rw [cells_int] at hel
    obtain ⟨b, off, spot⟩ := y
    have key : ∀ i, ∃ z : Int, i < len → W.cell? ((⟨b, off, spot⟩ : Addr).add i) = some (.int .i64 z) ∧ -9223372036854775808 ≤ z ∧ z ≤ 9223372036854775807 := by
      intro i
      by_cases hi : i < len
      · obtain ⟨cs', h1, h2⟩ := hel i (by omega)
        obtain ⟨_, hlen, hcell⟩ := World.cells?_some h1
        match cs', hlen with
        | [v0], _ =>
          obtain ⟨z, rfl, hb⟩ := one_int h2
          refine ⟨z, fun _ => ⟨?_, hb⟩⟩
          have := hcell 0 (by decide)
          rw [addr_add_add] at this
          simpa using this
      · exact ⟨0, fun h => absurd h hi⟩
    obtain ⟨f, hf'⟩ := Classical.axiomOfChoice key
    refine ⟨(some ⟨b, off, spot⟩, len, m), (List.range len).map f, by simpa using hcs, ⟨by simp, by show len ≤ _; omega, ?_⟩, fun c hc => ?_⟩
    · by_cases h0 : len = 0
      · exact .inl h0
      · right
        have hspot : spot = none := by simpa [Addr.add] using World.cell?_spot (hf' 0 (by omega)).1
        subst hspot
        have hblk : b < W.heap.size := by
          have := (hf' 0 (by omega)).1
          rw [hadd] at this
          exact World.block_lt_of_cell? W _ this
        refine ⟨b, off, rfl, hblk, fun j u hu => ?_⟩
        have hi : j < len := by have := (List.getElem?_eq_some_iff.1 hu).1; simpa using this
        obtain rfl : f j = u := by
          rw [List.getElem?_map, List.getElem?_range hi] at hu
          simpa using hu
        have := (hf' j hi).1
        rwa [hadd] at this
    · obtain ⟨i, hi, rfl⟩ := List.mem_map.1 hc
      exact (hf' i (List.mem_range.1 hi)).2
structure Co where
  p : Pl
  t : Option Addr × Nat × Nat
  z : List Int
  u : Option Addr × Nat × Nat
  o : List Int
  y : Option Addr × Nat × Nat
  r : List Int
def Co.row (h : Co) : List Value := [.string h.p.nm, .int .i64 h.p.dl, .slice h.p.s.1 h.p.s.2.1 h.p.s.2.2, .slice h.t.1 h.t.2.1 h.t.2.2, .slice h.u.1 h.u.2.1 h.u.2.2, .slice h.y.1 h.y.2.1 h.y.2.2]
structure Co.In (h : Co) (W : World) : Prop where
  p : h.p.In W
  z : Gr.RdZ W.heap.size W h.t h.z
  zb : ∀ c ∈ h.z, -9223372036854775808 ≤ c ∧ c ≤ 9223372036854775807
  o : Gr.RdZ W.heap.size W h.u h.o
  ob : ∀ c ∈ h.o, -9223372036854775808 ≤ c ∧ c ≤ 9223372036854775807
  r : Gr.RdZ W.heap.size W h.y h.r
  rb : ∀ c ∈ h.r, -9223372036854775808 ≤ c ∧ c ≤ 9223372036854775807
set_option maxRecDepth 100000 in
theorem course_open {H : Type} {enc : TypeId × Value → H} {W : World} {k : Nat} {cs : List Value} {y : DataW H × List MemPlace} (hlen : cs.length = 6) (h : DataW.trod enc Try.prog W 0 (fun _ => true) true k 27 cs = some y) (hw : ∀ k ∈ y.1.weights Try.prog 27, k ≤ reachBytes) :
    ∃ q : Co, cs = q.row ∧ q.In W := by
  obtain ⟨xs, k1, hk, hxy, _, hxl, hff⟩ := DataW.trod_struct Try.underlying27 h
  match xs, hxl, cs, hlen with
  | [y0, y1, y2, y3], _, [v0, v1, v2, v3, v4, v5], _ =>
    have g0 := hff 0 _ rfl
    have g1 := hff 1 _ rfl
    have g2 := hff 2 _ rfl
    have g3 := hff 3 _ rfl
    simp [cells_plan, cells_sli2] at g0 g1 g2 g3
    rw [hxy] at hw
    have w0 := weigh_field Try.underlying27 hw (j := 0) rfl rfl
    have w1 := weigh_field Try.underlying27 hw (j := 1) rfl rfl
    have w2 := weigh_field Try.underlying27 hw (j := 2) rfl rfl
    have w3 := weigh_field Try.underlying27 hw (j := 3) rfl rfl
    obtain ⟨q0, hq0, hi0⟩ := plan_open rfl g0 w0
    obtain ⟨t, z, rfl, hz, hzb⟩ := trod_numsB g1 w1
    obtain ⟨u, o, rfl, ho, hob⟩ := trod_numsB g2 w2
    obtain ⟨s, r, rfl, hr, hrb⟩ := trod_numsB g3 w3
    simp only [Pl.row, List.cons.injEq] at hq0
    obtain ⟨rfl, rfl, rfl, _⟩ := hq0
    exact ⟨⟨q0, t, z, u, o, s, r⟩, rfl, hi0, hz, hzb, ho, hob, hr, hrb⟩
set_option maxRecDepth 100000 in
theorem open_course {H : Type} {enc : TypeId × Value → H} {W : World} {r : Reach} {b0 : Nat} {v : Value} {d : DataW H} {p : List MemPlace}
    (hv : Value.okWide Try.prog W r b0 27 v) (h : DataW.Trod enc Try.prog W 0 (fun _ => true) true 27 v d p) (hw : ∀ k ∈ d.weights Try.prog 27, k ≤ reachBytes) :
    ∃ q : Co, v = .agg q.row.toArray ∧ q.In W := by
  obtain ⟨cs, rfl, hl, k, h⟩ := struct_cells Try.underlying27 hv h
  rw [cells_course] at hl
  obtain ⟨q, hq, hi⟩ := course_open hl h hw
  exact ⟨q, by rw [← hq], hi⟩
end Go.Proofs.Ytiackejbpcjmeaa
