/- Lists that came in, opened. -/
import Derived.Test.YtagdlblegnfemabGreatPBackH
import Derived.Deep.Strs
import Derived.Deep.Matrix
namespace Go.Proofs.YtagdlblegnfemabGreat
open Go.ChangeShapes Go.WideShapes Go.ChangeAt Go.RowKit Go.Joins Go.Deep

theorem mem_weightsAll {H : Type} {P : Program} {e : TypeId} : ∀ {l : List (DataW H)} {d : DataW H} {k : Nat}, d ∈ l → k ∈ d.weights P e → k ∈ DataW.weightsAll P e l := by
  intro l
  induction l with
  | nil => intro d k h; cases h
  | cons x l ih =>
    intro d k h hk
    simp only [DataW.weightsAll, List.mem_append]
    rcases List.mem_cons.1 h with rfl | h
    · exact .inl hk
    · exact .inr (ih h hk)

theorem els_of_cells {W : World} {ad : Addr} {n : Nat} {V : Nat → Value} (hc : ∀ i, i < n → W.cell? (ad.add i) = some (V i)) (hn : n ≤ 140737488351232) : Els (fun k => k < W.heap.size) W (some ad) n ((List.range n).map V) := by
  refine ⟨by simp, hn, ?_⟩
  by_cases h0 : n = 0
  · exact .inl h0
  · right
    obtain ⟨b, off, spot⟩ := ad
    have hspot : spot = none := by simpa [Addr.add] using World.cell?_spot (hc 0 (by omega))
    subst hspot
    have hadd : ∀ i, (⟨b, off, none⟩ : Addr).add i = ⟨b, off + i, none⟩ := fun i => by unfold Addr.add; split <;> simp_all
    refine ⟨b, off, rfl, ?_, fun i v hv => ?_⟩
    · have := block_lt_of_cell (hc 0 (by omega))
      rw [hadd] at this
      exact this
    · rw [List.getElem?_map] at hv
      rcases Nat.lt_or_ge i n with hi | hi
      · rw [List.getElem?_range hi] at hv
        simp only [Option.map_some, Option.some.injEq] at hv
        subst hv
        rw [← hadd]
        exact hc i hi
      · rw [List.getElem?_eq_none (by simpa using hi)] at hv
        cases hv

theorem bytes_str : Tryz.prog.bytesOf 9 = 16 := by kernel_rfl
theorem cells_str : Tryz.prog.cellsOf 9 = 1 := by kernel_rfl
theorem bytes_int : Tryz.prog.bytesOf 3 = 8 := by kernel_rfl
theorem cells_int : Tryz.prog.cellsOf 3 = 1 := by kernel_rfl
theorem bytes_ints : Tryz.prog.bytesOf 22 = 24 := by kernel_rfl
theorem cells_ints : Tryz.prog.cellsOf 22 = 1 := by kernel_rfl

theorem trod_strs {H : Type} {enc : TypeId × Value → H} {W : World} {fuel : Nat} {v : Value} {x : DataW H × List MemPlace}
    (h : DataW.trod enc Tryz.prog W 0 (fun _ => true) true fuel 25 [v] = some x) (hw : ∀ k ∈ x.1.weights Tryz.prog 25, k ≤ reachBytes) :
    ∃ (a : Option Addr) (n c : Nat) (ss : List ByteArray), v = .slice a n c ∧ Els (fun k => k < W.heap.size) W a n (ss.map Value.string) ∧ ∀ s ∈ ss, s.size ≤ 140737488351232 := by
  rcases open_strs Tryz.underlying25 Tryz.underlying9 cells_str h with ⟨hcs, _⟩ | ⟨ad, len, cap, m, Sx, hcs, _, hl, hm, hmm, hx, hcell⟩
  · simp at hcs
    exact ⟨none, 0, 0, [], hcs, ⟨rfl, by decide, .inl rfl⟩, fun s hs => by cases hs⟩
  · simp at hcs
    simp only [if_true] at hmm
    subst hmm
    rw [hx] at hw
    have hlen : len ≤ 140737488351232 := by
      have := hw ((((List.range len).map fun i => (DataW.lit (.string (Sx i).data.toList) : DataW H)).length + ((List.range (m - len)).map fun j => (DataW.lit (.string (Sx (len + j)).data.toList) : DataW H)).length) * 16) (by
        simp [DataW.weights, Tryz.underlying25, bytes_str])
      simp only [List.length_map, List.length_range, reachBytes] at this
      omega
    refine ⟨some ad, len, m, (List.range len).map Sx, hcs, ?_, ?_⟩
    · rw [List.map_map]
      exact els_of_cells (V := fun i => Value.string (Sx i)) (fun i hi => (hcell i (by omega)).1) hlen
    · intro s hs
      simp only [List.mem_map, List.mem_range] at hs
      obtain ⟨i, hi, rfl⟩ := hs
      have := hw ((Sx i).data.toList.length) (by
        simp only [DataW.weights, Tryz.underlying25, List.mem_cons, List.mem_append]
        refine .inr (.inl (mem_weightsAll (d := .lit (.string (Sx i).data.toList)) (List.mem_map.2 ⟨i, List.mem_range.2 hi, rfl⟩) (by simp [DataW.weights])))
        )
      simp only [reachBytes, Array.length_toList] at this
      exact this

theorem trod_rows {H : Type} {enc : TypeId × Value → H} {W : World} {fuel : Nat} {v : Value} {x : DataW H × List MemPlace}
    (h : DataW.trod enc Tryz.prog W 0 (fun _ => true) true fuel 27 [v] = some x) (hw : ∀ k ∈ x.1.weights Tryz.prog 27, k ≤ reachBytes) :
    ∃ a n c zs, v = .slice a n c ∧ RowsAt (fun k => k < W.heap.size) W a n zs ∧ ∀ z ∈ zs, ∀ y ∈ z, y ≤ 9223372036854775807 := by
  rcases open_int_rows Tryz.underlying27 Tryz.underlying22 Tryz.underlying3 cells_ints cells_int h with ⟨hcs, _⟩ | ⟨ad, len, cap, A, L, C, Z, hcs, _, hl, hm, hx, hcell⟩
  · simp at hcs
    exact ⟨none, 0, 0, [], hcs, ⟨[], ⟨rfl, by decide, .inl rfl⟩, rfl, fun i v z hv => by cases hv⟩, fun z hz => by cases hz⟩
  · simp at hcs
    rw [hx] at hw
    have hlen : len ≤ 140737488351232 := by
      have := hw ((((List.range len).map fun r => (intRow .i64 (A r) (L r) (Z r) : DataW H)).length + ((List.range (cap - len)).map fun j => (intRow .i64 (A (len + j)) (L (len + j)) (Z (len + j)) : DataW H)).length) * 24) (by
        simp [DataW.weights, Tryz.underlying27, bytes_ints])
      simp only [List.length_map, List.length_range, reachBytes] at this
      omega
    refine ⟨some ad, len, cap, (List.range len).map fun r => (Z r).take (L r), hcs, ⟨(List.range len).map fun r => .slice (A r) (L r) (C r), els_of_cells (V := fun r => .slice (A r) (L r) (C r)) (fun i hi => (hcell i (by omega)).1) hlen, by simp, ?_⟩, ?_⟩
    · intro i v z hv hz
      rw [List.getElem?_map] at hv hz
      rcases Nat.lt_or_ge i len with hi | hi
      · rw [List.getElem?_range hi] at hv hz
        simp only [Option.map_some, Option.some.injEq] at hv hz
        subst hv; subst hz
        obtain ⟨_, hLC, _, hZC, _, hA0, hA⟩ := hcell i (by omega)
        have hzl : ((Z i).take (L i)).length = L i := by rw [List.length_take]; omega
        rw [hzl]
        refine ⟨A i, C i, rfl, ?_⟩
        cases hAi : A i with
        | none =>
          have hC0 := hA0 hAi
          have hL0 : L i = 0 := by omega
          rw [hL0]
          exact ⟨by simp, by decide, .inl rfl⟩
        | some a' =>
          obtain ⟨_, hc⟩ := hA a' hAi
          have hLb : L i ≤ 140737488351232 := by
            have := hw (((lits (H := H) .i64 ((Z i).take (L i))).length + (lits (H := H) .i64 ((Z i).drop (L i))).length) * 8) (by
              simp only [DataW.weights, Tryz.underlying27, List.mem_cons, List.mem_append]
              refine .inr (.inl (mem_weightsAll (d := intRow .i64 (A i) (L i) (Z i)) (List.mem_map.2 ⟨i, List.mem_range.2 hi, rfl⟩) ?_))
              rw [hAi]
              simp [intRow, DataW.weights, Tryz.underlying22, bytes_int])
            simp only [lits, List.length_map, List.length_take, List.length_drop, reachBytes] at this
            omega
          have he := els_of_cells (W := W) (ad := a') (n := L i) (V := fun c => .int .i64 ((Z i).getD c 0)) (fun c hc' => hc c (by omega)) hLb
          have e : (List.range (L i)).map (fun c => Value.int .i64 ((Z i).getD c 0)) = ((Z i).take (L i)).map (Value.int .i64) := by
            apply List.ext_getElem?
            intro j
            rw [List.getElem?_map, List.getElem?_map, List.getElem?_take]
            rcases Nat.lt_or_ge j (L i) with hj | hj
            · rw [List.getElem?_range hj, if_pos hj, List.getElem?_eq_getElem (show j < (Z i).length by omega)]
              simp [List.getD_eq_getElem?_getD, List.getElem?_eq_getElem (show j < (Z i).length by omega)]
            · rw [List.getElem?_eq_none (by simpa using hj), if_neg (by omega)]
              rfl
          rw [e] at he
          exact he
      · rw [List.getElem?_eq_none (by simpa using hi)] at hv
        cases hv
    · intro z hz y hy
      simp only [List.mem_map, List.mem_range] at hz
      obtain ⟨r, hr, rfl⟩ := hz
      obtain ⟨_, _, _, _, hwf, _⟩ := hcell r (by omega)
      exact (bounds_i64 (hwf y (List.mem_of_mem_take hy))).2


/-- a list of things of one cell each -/
theorem trod_ones {α : Type} [Inhabited α] (en : α → Value) (Q : α → Prop) {t e : TypeId} {nb : Nat} (ht : Tryz.prog.underlying t = some (.slice e)) (hc : Tryz.prog.cellsOf e = 1) (hb : Tryz.prog.bytesOf e = nb + 1) {H : Type} {enc : TypeId × Value → H} {W : World} {fuel : Nat} {v : Value} {x : DataW H × List MemPlace}
    (h : DataW.trod enc Tryz.prog W 0 (fun _ => true) true fuel t [v] = some x) (hw : ∀ k ∈ x.1.weights Tryz.prog t, k ≤ reachBytes)
    (hel : ∀ (u : Value) (n : Nat) (y : DataW H × List MemPlace), DataW.trod enc Tryz.prog W 0 (fun _ => true) true n e [u] = some y → ∃ z, u = en z ∧ Q z) :
    ∃ (a : Option Addr) (n c : Nat) (xs : List α), v = .slice a n c ∧ Els (fun k => k < W.heap.size) W a n (xs.map en) ∧ ∀ z ∈ xs, Q z := by
  rcases open_slice1 ht hc h with ⟨hcs, _⟩ | ⟨ad, len, cap, m, k, V, D, Pl, hcs, _, hl, hm, hmm, hx, hcell⟩
  · simp at hcs
    exact ⟨none, 0, 0, [], hcs, ⟨rfl, by decide, .inl rfl⟩, fun s hs => by cases hs⟩
  · simp at hcs
    simp only [if_true] at hmm
    subst hmm
    rw [hx] at hw
    obtain ⟨X, hX⟩ := choose_lt (n := m) (p := fun i z => V i = en z ∧ Q z) fun i hi => hel (V i) k _ (hcell i hi).2
    have hreach : m * (nb + 1) ≤ 140737488351232 := by
      have := hw (((((List.range len).map D).length + ((List.range (m - len)).map fun j => D (len + j)).length)) * (nb + 1)) (by
        simp [DataW.weights, ht, hb])
      simp only [List.length_map, List.length_range, reachBytes] at this
      rw [show len + (m - len) = m by omega] at this
      exact this
    have hm' : m ≤ 140737488351232 := Nat.le_trans (Nat.le_mul_of_pos_right _ (Nat.succ_pos _)) hreach
    refine ⟨some ad, len, m, (List.range len).map X, hcs, ?_, ?_⟩
    · have := els_of_cells (W := W) (ad := ad) (n := len) (V := fun i => en (X i)) (fun i hi => by rw [(hcell i (by omega)).1, (hX i (by omega)).1]) (by omega)
      rw [List.map_map]
      exact this
    · intro z hz
      simp only [List.mem_map, List.mem_range] at hz
      obtain ⟨i, hi, rfl⟩ := hz
      exact (hX i (by omega)).2

theorem trod_nums {H : Type} {enc : TypeId × Value → H} {W : World} {fuel : Nat} {v : Value} {x : DataW H × List MemPlace} (h : DataW.trod enc Tryz.prog W 0 (fun _ => true) true fuel 22 [v] = some x) (hw : ∀ k ∈ x.1.weights Tryz.prog 22, k ≤ reachBytes) :
    ∃ (a : Option Addr) (n c : Nat) (xs : List Int), v = .slice a n c ∧ Els (fun k => k < W.heap.size) W a n (xs.map (Value.int .i64)) ∧ ∀ z ∈ xs, z ≤ 9223372036854775807 :=
  trod_ones (Value.int .i64) (fun z => z ≤ 9223372036854775807) Tryz.underlying22 cells_int (nb := 7) bytes_int h hw fun u n y hu => by
    obtain ⟨z, e, _, wf⟩ := DataW.trod_int Tryz.underlying3 hu
    exact ⟨z, by simpa using e, (bounds_i64 wf).2⟩

theorem cells_u64 : Tryz.prog.cellsOf 77 = 1 := by kernel_rfl
theorem bytes_u64 : Tryz.prog.bytesOf 77 = 8 := by kernel_rfl
theorem cells_bool : Tryz.prog.cellsOf 4 = 1 := by kernel_rfl
theorem bytes_bool : Tryz.prog.bytesOf 4 = 1 := by kernel_rfl

theorem trod_words {H : Type} {enc : TypeId × Value → H} {W : World} {fuel : Nat} {v : Value} {x : DataW H × List MemPlace} (h : DataW.trod enc Tryz.prog W 0 (fun _ => true) true fuel 23 [v] = some x) (hw : ∀ k ∈ x.1.weights Tryz.prog 23, k ≤ reachBytes) :
    ∃ (a : Option Addr) (n c : Nat) (xs : List W64), v = .slice a n c ∧ Els (fun k => k < W.heap.size) W a n (xs.map encW) := by
  obtain ⟨a, n, c, xs, e, he, _⟩ := trod_ones encW (fun _ => True) Tryz.underlying23 cells_u64 (nb := 7) bytes_u64 h hw fun u n y hu => by
    obtain ⟨z, e, _, wf⟩ := DataW.trod_int Tryz.underlying77 hu
    have hb := bounds_u64 wf
    refine ⟨⟨z.toNat, by omega⟩, ?_, trivial⟩
    have e' : u = .int .u64 z := by simpa using e
    rw [e']
    unfold encW
    rw [show ((z.toNat : Nat) : Int) = z by omega]
  exact ⟨a, n, c, xs, e, he⟩

theorem trod_flags {H : Type} {enc : TypeId × Value → H} {W : World} {fuel : Nat} {v : Value} {x : DataW H × List MemPlace} (h : DataW.trod enc Tryz.prog W 0 (fun _ => true) true fuel 24 [v] = some x) (hw : ∀ k ∈ x.1.weights Tryz.prog 24, k ≤ reachBytes) :
    ∃ (a : Option Addr) (n c : Nat) (xs : List Bool), v = .slice a n c ∧ Els (fun k => k < W.heap.size) W a n (xs.map Value.bool) := by
  obtain ⟨a, n, c, xs, e, he, _⟩ := trod_ones Value.bool (fun _ => True) Tryz.underlying24 cells_bool (nb := 0) bytes_bool h hw fun u n y hu => by
    obtain ⟨z, e, _⟩ := DataW.trod_bool Tryz.underlying4 hu
    exact ⟨z, by simpa using e, trivial⟩
  exact ⟨a, n, c, xs, e, he⟩

theorem array8 {α : Type} {cs : Array α} (h : cs.size = 8) : ∃ c0 c1 c2 c3 c4 c5 c6 c7, cs = #[c0, c1, c2, c3, c4, c5, c6, c7] := by
  obtain ⟨l⟩ := cs
  match l, h with
  | [c0, c1, c2, c3, c4, c5, c6, c7], _ => exact ⟨c0, c1, c2, c3, c4, c5, c6, c7, rfl⟩

/-- a struct of eight fields of one cell each, by value, opened -/
theorem open8 {H : Type} {enc : TypeId × Value → H} {P : Program} {w : World} {base : Nat} {spare : Nat → Bool} {held : Bool} {r : Reach} {b0 : Nat} {t : TypeId} {f0 f1 f2 f3 f4 f5 f6 f7 : Field} {v : Value} {d : DataW H} {p : List MemPlace}
    (hs : P.underlying t = some (.struct #[f0, f1, f2, f3, f4, f5, f6, f7])) (hone : oneCellFields P #[f0, f1, f2, f3, f4, f5, f6, f7] = true) (hC : P.cellsOf t = 8)
    (hv : Value.okWide P w r b0 t v) (h : DataW.Trod enc P w base spare held t v d p) :
    ∃ (v0 v1 v2 v3 v4 v5 v6 v7 : Value) (y0 y1 y2 y3 y4 y5 y6 y7 : DataW H × List MemPlace) (n : Nat), v = .agg #[v0, v1, v2, v3, v4, v5, v6, v7] ∧ d = .agg [y0.1, y1.1, y2.1, y3.1, y4.1, y5.1, y6.1, y7.1] ∧
      DataW.trod enc P w base spare held n f0.type [v0] = some y0 ∧ DataW.trod enc P w base spare held n f1.type [v1] = some y1 ∧ DataW.trod enc P w base spare held n f2.type [v2] = some y2 ∧ DataW.trod enc P w base spare held n f3.type [v3] = some y3 ∧
      DataW.trod enc P w base spare held n f4.type [v4] = some y4 ∧ DataW.trod enc P w base spare held n f5.type [v5] = some y5 ∧ DataW.trod enc P w base spare held n f6.type [v6] = some y6 ∧ DataW.trod enc P w base spare held n f7.type [v7] = some y7 := by
  obtain ⟨cs, rfl, hsz⟩ := okWide_struct hs hv
  obtain ⟨c0, c1, c2, c3, c4, c5, c6, c7, rfl⟩ := array8 (hsz.trans hC)
  obtain ⟨fuel, hf⟩ := h
  obtain ⟨xs, n, _, hx, _, hlen, hff⟩ := DataW.trod_struct hs hf
  obtain ⟨o0, k0⟩ := hone_of hone 0 f0 rfl
  obtain ⟨o1, k1⟩ := hone_of hone 1 f1 rfl
  obtain ⟨o2, k2⟩ := hone_of hone 2 f2 rfl
  obtain ⟨o3, k3⟩ := hone_of hone 3 f3 rfl
  obtain ⟨o4, k4⟩ := hone_of hone 4 f4 rfl
  obtain ⟨o5, k5⟩ := hone_of hone 5 f5 rfl
  obtain ⟨o6, k6⟩ := hone_of hone 6 f6 rfl
  obtain ⟨o7, k7⟩ := hone_of hone 7 f7 rfl
  match xs, hlen with
  | [y0, y1, y2, y3, y4, y5, y6, y7], _ =>
    simp only [Prod.mk.injEq] at hx
    exact ⟨c0, c1, c2, c3, c4, c5, c6, c7, y0, y1, y2, y3, y4, y5, y6, y7, n, rfl, by simpa using hx.1, by simpa [Value.cells, o0, k0] using hff 0 f0 rfl, by simpa [Value.cells, o1, k1] using hff 1 f1 rfl, by simpa [Value.cells, o2, k2] using hff 2 f2 rfl, by simpa [Value.cells, o3, k3] using hff 3 f3 rfl, by simpa [Value.cells, o4, k4] using hff 4 f4 rfl, by simpa [Value.cells, o5, k5] using hff 5 f5 rfl, by simpa [Value.cells, o6, k6] using hff 6 f6 rfl, by simpa [Value.cells, o7, k7] using hff 7 f7 rfl⟩
end Go.Proofs.YtagdlblegnfemabGreat
