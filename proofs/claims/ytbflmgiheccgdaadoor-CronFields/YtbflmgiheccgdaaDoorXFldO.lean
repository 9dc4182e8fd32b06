/- Five slices of ints and an int that came in as a struct, opened. -/
import Derived.Test.YtbflmgiheccgdaaDoorXOpenI
namespace Go.Proofs.YtbflmgiheccgdaaDoor
open Go.ChangeShapes Go.WideShapes Go.ChangeAt Go.RowKit Go.Joins Go.Deep

theorem cells_sli : Tryd.prog.cellsOf 22 = 1 := by kernel_rfl
theorem cells_sets : Tryd.prog.cellsOf 24 = 6 := by kernel_rfl
/-- the weights of a field -/
theorem weigh_field {H : Type} {t : TypeId} {fs : Array Field} {parts : List (DataW H)} (hs : Tryd.prog.underlying t = some (.struct fs)) (h : ∀ k ∈ (DataW.agg parts).weights Tryd.prog t, k ≤ reachBytes) {j : Nat} {f : TypeId} {d : DataW H} (hf : (fs.toList.map (·.type))[j]? = some f) (hd : parts[j]? = some d) : ∀ k ∈ d.weights Tryd.prog f, k ≤ reachBytes := fun k hk => by
  refine h k ?_
  simp only [DataW.weights, hs]
  exact DataW.weights_mem_each hf hd k hk
theorem one_int {H : Type} {enc : TypeId × Value → H} {W : World} {base : Nat} {sp : Nat → Bool} {held : Bool} {n : Nat} {v : Value} {y : DataW H × List MemPlace} (h : DataW.trod enc Tryd.prog W base sp held n 3 [v] = some y) :
    ∃ z : Int, v = .int .i64 z ∧ -9223372036854775808 ≤ z ∧ z ≤ 9223372036854775807 := by
  obtain ⟨z, e, _, wf⟩ := DataW.trod_int Tryd.underlying3 h
  have b := bounds_i64 wf
  exact ⟨z, by simpa using e, by omega, by omega⟩
theorem one_nums {H : Type} {enc : TypeId × Value → H} {W : World} {fuel : Nat} {v : Value} {x : DataW H × List MemPlace}
    (h : DataW.trod enc Tryd.prog W 0 (fun _ => true) true fuel 22 [v] = some x) (hw : ∀ k ∈ x.1.weights Tryd.prog 22, k ≤ reachBytes) : ∃ a n c z, v = .slice a n c ∧ RdI W a n z := by
  have hs : ∃ a n c, v = .slice a n c := by
    rcases open_ints Tryd.underlying22 Tryd.underlying3 cells_int h with ⟨hcs, _⟩ | ⟨y, len, cap, zs, hcs, _⟩
    · simp at hcs; exact ⟨_, _, _, hcs⟩
    · simp at hcs; exact ⟨_, _, _, hcs⟩
  obtain ⟨a, n, c, rfl⟩ := hs
  obtain ⟨d, p⟩ := x
  obtain ⟨z, hz⟩ := open_nums (d := d) (p := p) ⟨fuel, h⟩ hw
  exact ⟨a, n, c, z, rfl, hz⟩

set_option maxRecDepth 100000 in
theorem open_sets {H : Type} {enc : TypeId × Value → H} {W : World} {r : Reach} {b0 : Nat} {v : Value} {d : DataW H} {p : List MemPlace}
    (hv : Value.okWide Tryd.prog W r b0 24 v) (h : DataW.Trod enc Tryd.prog W 0 (fun _ => true) true 24 v d p) (hw : ∀ k ∈ d.weights Tryd.prog 24, k ≤ reachBytes) :
    ∃ a0 n0 c0 z0 a1 n1 c1 z1 a2 n2 c2 z2 a3 n3 c3 z3 a4 n4 c4 z4 tm, v = .agg #[.slice a0 n0 c0, .slice a1 n1 c1, .slice a2 n2 c2, .slice a3 n3 c3, .slice a4 n4 c4, .int .i64 tm] ∧
      RdI W a0 n0 z0 ∧ RdI W a1 n1 z1 ∧ RdI W a2 n2 z2 ∧ RdI W a3 n3 z3 ∧ RdI W a4 n4 z4 ∧ -9223372036854775808 ≤ tm ∧ tm ≤ 9223372036854775807 := by
  obtain ⟨cs, rfl, hsz⟩ := okWide_struct Tryd.underlying24 hv
  rw [cells_sets] at hsz
  obtain ⟨fuel, hf⟩ := h
  obtain ⟨xs, k1, hk, hxy, _, hxl, hff⟩ := DataW.trod_struct Tryd.underlying24 hf
  obtain ⟨cs⟩ := cs
  simp only [Value.cells] at hff
  match xs, hxl, cs, hsz with
  | [y0, y1, y2, y3, y4, y5], _, [v0, v1, v2, v3, v4, v5], _ =>
    have g0 := hff 0 _ rfl
    have g1 := hff 1 _ rfl
    have g2 := hff 2 _ rfl
    have g3 := hff 3 _ rfl
    have g4 := hff 4 _ rfl
    have g5 := hff 5 _ rfl
    simp [cells_int, cells_sli] at g0 g1 g2 g3 g4 g5
    have hd := congrArg Prod.fst hxy
    simp only at hd
    rw [hd] at hw
    have w0 := weigh_field Tryd.underlying24 hw (j := 0) rfl rfl
    have w1 := weigh_field Tryd.underlying24 hw (j := 1) rfl rfl
    have w2 := weigh_field Tryd.underlying24 hw (j := 2) rfl rfl
    have w3 := weigh_field Tryd.underlying24 hw (j := 3) rfl rfl
    have w4 := weigh_field Tryd.underlying24 hw (j := 4) rfl rfl
    obtain ⟨a0, n0, c0, z0, rfl, r0⟩ := one_nums g0 w0
    obtain ⟨a1, n1, c1, z1, rfl, r1⟩ := one_nums g1 w1
    obtain ⟨a2, n2, c2, z2, rfl, r2⟩ := one_nums g2 w2
    obtain ⟨a3, n3, c3, z3, rfl, r3⟩ := one_nums g3 w3
    obtain ⟨a4, n4, c4, z4, rfl, r4⟩ := one_nums g4 w4
    obtain ⟨z5, rfl, b5, c5⟩ := one_int g5
    exact ⟨_, _, _, z0, _, _, _, z1, _, _, _, z2, _, _, _, z3, _, _, _, z4, _, rfl, r0, r1, r2, r3, r4, b5, c5⟩

end Go.Proofs.YtbflmgiheccgdaaDoor
