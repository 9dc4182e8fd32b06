/- WheelStill: its parameter, opened: a number, two lists of numbers, a number. -/
import Derived.Test.YtbjapgajbljhfaaWUpt
namespace Go.Proofs.Ytbjapgajbljhfaa
open Go.ChangeShapes Go.WideShapes Go.ChangeAt Go.RowKit Go.Joins Go.Deep

theorem cells_ints : Try.prog.cellsOf 22 = 1 := by kernel_rfl
theorem cells_late : Try.prog.cellsOf 43 = 4 := by kernel_rfl
theorem nums_of {H : Type} {enc : TypeId × Value → H} {W : World} {k : Nat} {v : Value} {y : DataW H × List MemPlace}
    (h : DataW.trod enc Try.prog W 0 (fun _ => true) true k 22 [v] = some y) (hb : Rows.uptoBulk y.1 ≤ 1048576) : ∃ a n c z, v = .slice a n c ∧ Wh.Rz W a n z ∧ n + 1 ≤ Rows.uptoBulk y.1 := by
  obtain ⟨d, p⟩ := y
  have hpos := bulk_pos d
  rcases open_ints Try.underlying22 Try.underlying3 cells_int h with ⟨hcs, _⟩ | ⟨ad, len, cap, zs, hcs, _, hl, hm, hz, hx, hcell, hwz⟩
  · simp at hcs
    subst hcs
    exact ⟨none, 0, 0, [], rfl, ⟨rfl, by decide, by simp, .inl rfl⟩, hpos⟩
  · simp at hcs
    subst hcs
    have hx1 : d = .slice (lits (H := H) .i64 (zs.take len)) (lits (H := H) .i64 (zs.drop len)) := by
      have := congrArg Prod.fst hx
      simpa using this
    obtain ⟨z, hzz⟩ := open_nums (a := some ad) (n := len) (c := cap) (d := d) (p := p) ⟨k, h⟩ hb
    refine ⟨some ad, len, cap, z, rfl, hzz, ?_⟩
    simp only [if_true] at hz
    have hll : (zs.take len).length = len := by simp; omega
    have := bulk_many (lits (H := H) .i64 (zs.take len))
    have e : (lits (H := H) .i64 (zs.take len)).length = len := by simp only [lits, List.length_map]; exact hll
    rw [hx1]
    simp only [Rows.uptoBulk]
    omega
theorem num_of {H : Type} {enc : TypeId × Value → H} {W : World} {k : Nat} {v : Value} {y : DataW H × List MemPlace} (h : DataW.trod enc Try.prog W 0 (fun _ => true) true k 3 [v] = some y) : ∃ x : Int, v = .int .i64 x ∧ -9223372036854775808 ≤ x ∧ x ≤ 9223372036854775807 := by
  obtain ⟨z, e, _, wf⟩ := DataW.trod_int Try.underlying3 h
  have b := bounds_i64 wf
  exact ⟨z, by simpa using e, by omega, by omega⟩
set_option maxRecDepth 100000 in
theorem open_late {H : Type} {enc : TypeId × Value → H} {W : World} {r : Reach} {b0 : Nat} {v : Value} {d : DataW H} {p : List MemPlace}
    (hv : Value.okWide Try.prog W r b0 43 v) (h : DataW.Trod enc Try.prog W 0 (fun _ => true) true 43 v d p) (hb : Rows.uptoBulk d ≤ 1048576) :
    ∃ (x0 x3 : Int) (a1 a2 : Option Addr) (n1 c1 n2 c2 : Nat) (z1 z2 : List Int), v = .agg #[.int .i64 x0, .slice a1 n1 c1, .slice a2 n2 c2, .int .i64 x3] ∧ (-9223372036854775808 ≤ x0 ∧ x0 ≤ 9223372036854775807) ∧ (-9223372036854775808 ≤ x3 ∧ x3 ≤ 9223372036854775807) ∧ Wh.Rz W a1 n1 z1 ∧ Wh.Rz W a2 n2 z2 ∧ n1 + n2 ≤ 1048576 := by
  obtain ⟨cs, rfl, hl⟩ := okWide_struct Try.underlying43 hv
  obtain ⟨fuel, hf⟩ := h
  simp only [Value.cells] at hf
  rw [cells_late, ← Array.length_toList] at hl
  obtain ⟨xs, k1, hk, hxy, _, hxl, hff⟩ := DataW.trod_struct Try.underlying43 hf
  obtain ⟨C, hcs⟩ : ∃ C, cs.toList = C := ⟨_, rfl⟩
  rw [hcs] at hl hff
  match xs, hxl, C, hl, hcs with
  | [y0, y1, y2, y3], _, [v0, v1, v2, v3], _, hcs =>
    have g0 := hff 0 _ rfl
    have g1 := hff 1 _ rfl
    have g2 := hff 2 _ rfl
    have g3 := hff 3 _ rfl
    simp [cells_int, cells_ints] at g0 g1 g2 g3
    have hd : d = .agg [y0.1, y1.1, y2.1, y3.1] := congrArg Prod.fst hxy
    rw [hd] at hb
    simp only [Rows.uptoBulk, Rows.uptoBulkAll] at hb
    obtain ⟨x0, rfl, b0'⟩ := num_of g0
    obtain ⟨x3, rfl, b3⟩ := num_of g3
    obtain ⟨a1, n1, c1, z1, rfl, hz1, hn1⟩ := nums_of g1 (by omega)
    obtain ⟨a2, n2, c2, z2, rfl, hz2, hn2⟩ := nums_of g2 (by omega)
    refine ⟨x0, x3, a1, a2, n1, c1, n2, c2, z1, z2, ?_, b0', b3, hz1, hz2, by omega⟩
    rw [← hcs, Array.toArray_toList]
end Go.Proofs.Ytbjapgajbljhfaa
