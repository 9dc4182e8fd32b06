/- Scripts of steps that came in, opened. -/
import Derived.Test.YtiackejbpcjmeaaGOpn
import Derived.Test.YtiackejbpcjmeaaROpd
namespace Go.Proofs.Ytiackejbpcjmeaa
open Go.ChangeShapes Go.WideShapes Go.ChangeAt Go.RowKit Go.Joins Go.Deep Rn

theorem bytes_u8 : Try.prog.bytesOf 5 = 1 := by kernel_rfl
theorem cells_u8 : Try.prog.cellsOf 5 = 1 := by kernel_rfl
theorem cells_sl8 : Try.prog.cellsOf 38 = 1 := by kernel_rfl
theorem bytes_op : Try.prog.bytesOf 53 = 56 := by kernel_rfl
theorem cells_op : Try.prog.cellsOf 53 = 5 := by kernel_rfl

theorem trod_bytes {H : Type} {enc : TypeId × Value → H} {W : World} {fuel : Nat} {v : Value} {x : DataW H × List MemPlace}
    (h : DataW.trod enc Try.prog W 0 (fun _ => true) true fuel 38 [v] = some x) (hw : ∀ k ∈ x.1.weights Try.prog 38, k ≤ reachBytes) : ∃ a c l, v = .slice a l.length c ∧ Rd W a l.length l ∧ (a = none → c = 0) ∧ l.length ≤ 140737488355328 := by
  rcases open_ints Try.underlying38 Try.underlying5 cells_u8 h with ⟨hcs, _⟩ | ⟨y, len, cap, zs, hcs, _, hl, hm, hz, hx, hcell, hwz⟩
  · simp at hcs
    exact ⟨none, 0, [], hcs, ⟨rfl, by decide, by simp, .inl rfl⟩, (fun _ => rfl), Nat.zero_le _⟩
  · simp at hcs
    simp only [if_true] at hz
    have hreach : cap ≤ 140737488351232 := by
      have := hw ((lits (H := H) .u8 (zs.take len)).length + (lits (H := H) .u8 (zs.drop len)).length) (by
        rw [hx]
        simp [DataW.weights, Try.underlying38, bytes_u8])
      simp only [lits, List.length_map, List.length_take, List.length_drop, reachBytes] at this
      omega
    have hbd : ∀ i, 0 ≤ zs.getD i 0 ∧ zs.getD i 0 ≤ 255 := fun i => by
      rw [List.getD_eq_getElem?_getD]; exact range_u8 hwz i
    have hll : ((zs.take len).map Int.toNat).length = len := by simp; omega
    refine ⟨some y, cap, (zs.take len).map Int.toNat, by rw [hll]; exact hcs, ?_, (fun e => by cases e), by rw [hll]; omega⟩
    rw [hll]
    refine ⟨hll.symm, by omega, ?_, ?_⟩
    · intro d hd
      simp only [List.mem_map] at hd
      obtain ⟨z, hz', rfl⟩ := hd
      have := bounds_u8 (hwz z (List.mem_of_mem_take hz'))
      omega
    · by_cases h0 : len = 0
      · exact .inl h0
      · right
        obtain ⟨b, off, spot⟩ := y
        have hspot : spot = none := by simpa [Addr.add] using World.cell?_spot (hcell 0 (by omega))
        subst hspot
        refine ⟨b, off, rfl, fun i hi => ?_⟩
        have hadd : (⟨b, off, none⟩ : Addr).add i = ⟨b, off + i, none⟩ := by unfold Addr.add; split <;> simp_all
        rw [← hadd, hcell i (by omega)]
        have hbi := hbd i
        have e : ((zs.take len).map Int.toNat).getD i 0 = (zs.getD i 0).toNat := by
          simp only [List.getD_eq_getElem?_getD, List.getElem?_map, List.getElem?_take, if_pos hi]
          rw [List.getElem?_eq_getElem (show i < zs.length by omega)]
          rfl
        rw [e, Int.toNat_of_nonneg hbi.1]

set_option maxRecDepth 100000 in
/-- one step, by its cells -/
theorem op_open {H : Type} {enc : TypeId × Value → H} {W : World} {k : Nat} {cs : List Value} {y : DataW H × List MemPlace} (hlen : cs.length = 5) (h : DataW.trod enc Try.prog W 0 (fun _ => true) true k 53 cs = some y) (hw : ∀ k ∈ y.1.weights Try.prog 53, k ≤ reachBytes) :
    ∃ q : Sp, cs = q.row ∧ SpOk W q := by
  obtain ⟨xs, k1, hk, hxy, _, hxl, hff⟩ := DataW.trod_struct Try.underlying53 h
  match xs, hxl, cs, hlen with
  | [y0, y1, y2, y3, y4], _, [v0, v1, v2, v3, v4], _ =>
    have g0 := hff 0 _ rfl
    have g1 := hff 1 _ rfl
    have g2 := hff 2 _ rfl
    have g3 := hff 3 _ rfl
    have g4 := hff 4 _ rfl
    simp [cells_int, cells_sl8] at g0 g1 g2 g3 g4
    rw [hxy] at hw
    have w4 := weigh_field Try.underlying53 hw (j := 4) rfl rfl
    obtain ⟨z0, rfl, b0, c0⟩ := one_int g0
    obtain ⟨z1, rfl, b1, c1⟩ := one_int g1
    obtain ⟨z2, rfl, b2, c2⟩ := one_int g2
    obtain ⟨z3, rfl, b3, c3⟩ := one_int g3
    obtain ⟨a4, c4, l4, rfl, r4, n4⟩ := trod_bytes g4 w4
    exact ⟨⟨z0, z1, z2, z3, l4, a4, c4⟩, rfl, r4, n4⟩

theorem open_ops {H : Type} {enc : TypeId × Value → H} {W : World} {a : Option Addr} {n c : Nat} {d : DataW H} {p : List MemPlace}
    (h : DataW.Trod enc Try.prog W 0 (fun _ => true) true 42 (.slice a n c) d p) (hw : ∀ k ∈ d.weights Try.prog 42, k ≤ reachBytes) : ∃ qs, RdO W (a, n, c) qs := by
  obtain ⟨fuel, hf⟩ := h
  rcases open_slice Try.underlying42 hf with ⟨hcs, _⟩ | ⟨y, len, cap, m, k, D, Pl, hcs, _, hl, hm, hmm, hx, hel⟩
  · simp [Value.cells] at hcs
    obtain ⟨rfl, rfl, rfl⟩ := hcs
    exact ⟨[], rfl, Nat.zero_le _, (fun q hq => by cases hq), .inl rfl⟩
  · simp [Value.cells] at hcs
    obtain ⟨rfl, rfl, rfl⟩ := hcs
    simp only [if_true] at hmm
    subst hmm
    simp only [Prod.mk.injEq] at hx
    have hreach : m * 56 ≤ 140737488351232 := by
      have := hw (((((List.range n).map D).length + ((List.range (m - n)).map fun j => D (n + j)).length)) * 56) (by
        rw [hx.1]
        simp [DataW.weights, Try.underlying42, bytes_op])
      simp only [List.length_map, List.length_range, reachBytes] at this
      omega
    rw [cells_op] at hel
    obtain ⟨b, off, spot⟩ := y
    have key : ∀ i, ∃ q : Sp, i < n → SpOk W q ∧ ∀ j x, q.row[j]? = some x → W.cell? ((⟨b, off, spot⟩ : Addr).add (i * 5 + j)) = some x := by
      intro i
      by_cases hi : i < n
      · obtain ⟨cs', h1, h2⟩ := hel i (by omega)
        obtain ⟨_, hlen, hcell⟩ := World.cells?_some h1
        have hwi : ∀ k ∈ (D i).weights Try.prog 53, k ≤ reachBytes := fun k hk => hw k (by
          rw [hx.1]
          simp only [DataW.weights, Try.underlying42, List.mem_cons, List.mem_append]
          exact .inr (.inl (mem_weightsAll (d := D i) (List.mem_map.2 ⟨i, List.mem_range.2 hi, rfl⟩) hk)))
        obtain ⟨q, hq1, hq2⟩ := op_open hlen h2 hwi
        refine ⟨q, fun _ => ⟨hq2, fun j x hjx => ?_⟩⟩
        have hj : j < 5 := (List.getElem?_eq_some_iff.1 hjx).1
        have := hcell j hj
        rw [addr_add_add] at this
        rw [this, hq1]; exact hjx
      · exact ⟨⟨0, 0, 0, 0, [], none, 0⟩, fun h => absurd h hi⟩
    obtain ⟨f, hf'⟩ := Classical.axiomOfChoice key
    refine ⟨(List.range n).map f, by simp, (by show n ≤ _; omega), fun q hq => ?_, ?_⟩
    · obtain ⟨i, hi, rfl⟩ := List.mem_map.1 hq
      exact (hf' i (List.mem_range.1 hi)).1
    · by_cases h0 : n = 0
      · exact .inl h0
      · right
        have hspot : spot = none := by simpa [Addr.add] using World.cell?_spot ((hf' 0 (by omega)).2 0 _ rfl)
        subst hspot
        refine ⟨b, off, rfl, fun i q hq j u hu => ?_⟩
        have hi : i < n := by have := (List.getElem?_eq_some_iff.1 hq).1; simpa using this
        obtain rfl : f i = q := by
          rw [List.getElem?_map, List.getElem?_range hi] at hq
          simpa using hq
        have := (hf' i hi).2 j u hu
        rw [hadd] at this
        rw [Nat.add_assoc]; exact this
end Go.Proofs.Ytiackejbpcjmeaa
