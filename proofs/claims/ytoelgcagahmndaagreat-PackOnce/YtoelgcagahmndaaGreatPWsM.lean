import Derived.Test.YtoelgcagahmndaaGreatPPuA
import Derived.Test.YtoelgcagahmndaaGreatPOpen
import Derived.Deep.Strs
import Derived.Deep.Matrix
import Derived.Test.YtoelgcagahmndaaGreatPRefW
/- PackWrites: the steps that came in, opened. -/
namespace Go.Proofs.YtoelgcagahmndaaGreat
namespace Wm
open Go.ChangeShapes Go.WideShapes Go.ChangeAt Go.RowKit Go.Joins Go.Deep

theorem mem_weightsAll {H : Type} {P : Program} {e : TypeId} : ∀ {l : List (DataW H)} {d : DataW H} {k : Nat}, d ∈ l → k ∈ d.weights P e → k ∈ DataW.weightsAll P e l := by
  intro l
  induction l with
  | nil => intro d k h; cases h
  | cons x l ih =>
    intro d k h hk
    simp only [DataW.weightsAll, List.mem_append]
    rcases List.mem_cons.1 h with rfl | h
    · exact .inl hk
    · exact .inr (ih h hk)
theorem els_of_cells {W : World} {ad : Addr} {n : Nat} {V : Nat → Value} (hc : ∀ i, i < n → W.cell? (ad.add i) = some (V i)) (hn : n ≤ 140737488351232) : Els (fun k => k < W.heap.size) W (some ad) n ((List.range n).map V) := by
  refine ⟨by simp, hn, ?_⟩
  by_cases h0 : n = 0
  · exact .inl h0
  · right
    obtain ⟨b, off, spot⟩ := ad
    have hspot : spot = none := by simpa [Addr.add] using World.cell?_spot (hc 0 (by omega))
    subst hspot
    have hadd : ∀ i, (⟨b, off, none⟩ : Addr).add i = ⟨b, off + i, none⟩ := fun i => by unfold Addr.add; split <;> simp_all
    refine ⟨b, off, rfl, ?_, fun i v hv => ?_⟩
    · have := block_lt_of_cell (hc 0 (by omega))
      rw [hadd] at this
      exact this
    · rw [List.getElem?_map] at hv
      rcases Nat.lt_or_ge i n with hi | hi
      · rw [List.getElem?_range hi] at hv
        simp only [Option.map_some, Option.some.injEq] at hv
        subst hv
        rw [← hadd]
        exact hc i hi
      · rw [List.getElem?_eq_none (by simpa using hi)] at hv
        cases hv
theorem addr_add_add (a : Addr) (x y : Nat) : (a.add x).add y = a.add (x + y) := by
  obtain ⟨b, o, s⟩ := a
  by_cases hx : x = 0 <;> by_cases hy : y = 0 <;> simp [Addr.add, hx, hy, Nat.add_assoc]
theorem bytes_str : Tryz.prog.bytesOf 9 = 16 := by kernel_rfl
theorem cells_str : Tryz.prog.cellsOf 9 = 1 := by kernel_rfl
theorem bytes_int : Tryz.prog.bytesOf 3 = 8 := by kernel_rfl
theorem cells_int : Tryz.prog.cellsOf 3 = 1 := by kernel_rfl
theorem bytes_ints : Tryz.prog.bytesOf 70 = 24 := by kernel_rfl
theorem cells_ints : Tryz.prog.cellsOf 70 = 1 := by kernel_rfl
theorem cells_strs : Tryz.prog.cellsOf 71 = 1 := by kernel_rfl
theorem cells_rows : Tryz.prog.cellsOf 72 = 1 := by kernel_rfl
theorem cells_sl8 : Tryz.prog.cellsOf 23 = 1 := by kernel_rfl
theorem cells_u64 : Tryz.prog.cellsOf 69 = 1 := by kernel_rfl
theorem cells_bool : Tryz.prog.cellsOf 4 = 1 := by kernel_rfl
theorem bytes_step : Tryz.prog.bytesOf 74 = 160 := by kernel_rfl
theorem cells_step : Tryz.prog.cellsOf 74 = 11 := by kernel_rfl

theorem trod_strs {H : Type} {enc : TypeId × Value → H} {W : World} {fuel : Nat} {v : Value} {x : DataW H × List MemPlace}
    (h : DataW.trod enc Tryz.prog W 0 (fun _ => true) true fuel 71 [v] = some x) (hw : ∀ k ∈ x.1.weights Tryz.prog 71, k ≤ reachBytes) :
    ∃ (a : Option Addr) (n c : Nat) (ss : List ByteArray), v = .slice a n c ∧ Els (fun k => k < W.heap.size) W a n (sv ss) ∧ ∀ s ∈ ss, s.size ≤ 140737488351232 := by
  rcases open_strs Tryz.underlying71 Tryz.underlying9 cells_str h with ⟨hcs, _⟩ | ⟨ad, len, cap, m, Sx, hcs, _, hl, hm, hmm, hx, hcell⟩
  · simp at hcs
    exact ⟨none, 0, 0, [], hcs, ⟨rfl, by decide, .inl rfl⟩, fun s hs => by cases hs⟩
  · simp at hcs
    simp only [if_true] at hmm
    subst hmm
    rw [hx] at hw
    have hlen : len ≤ 140737488351232 := by
      have := hw ((((List.range len).map fun i => (DataW.lit (.string (Sx i).data.toList) : DataW H)).length + ((List.range (m - len)).map fun j => (DataW.lit (.string (Sx (len + j)).data.toList) : DataW H)).length) * 16) (by
        simp [DataW.weights, Tryz.underlying71, bytes_str])
      simp only [List.length_map, List.length_range, reachBytes] at this
      omega
    refine ⟨some ad, len, m, (List.range len).map Sx, hcs, ?_, ?_⟩
    · unfold sv
      rw [List.map_map]
      exact els_of_cells (V := fun i => Value.string (Sx i)) (fun i hi => (hcell i (by omega)).1) hlen
    · intro s hs
      simp only [List.mem_map, List.mem_range] at hs
      obtain ⟨i, hi, rfl⟩ := hs
      have := hw ((Sx i).data.toList.length) (by
        simp only [DataW.weights, Tryz.underlying71, List.mem_cons, List.mem_append]
        refine .inr (.inl (mem_weightsAll (d := .lit (.string (Sx i).data.toList)) (List.mem_map.2 ⟨i, List.mem_range.2 hi, rfl⟩) (by simp [DataW.weights])))
        )
      simp only [reachBytes, Array.length_toList] at this
      exact this

theorem trod_rows {H : Type} {enc : TypeId × Value → H} {W : World} {fuel : Nat} {v : Value} {x : DataW H × List MemPlace}
    (h : DataW.trod enc Tryz.prog W 0 (fun _ => true) true fuel 72 [v] = some x) (hw : ∀ k ∈ x.1.weights Tryz.prog 72, k ≤ reachBytes) :
    ∃ a n c vs zs, v = .slice a n c ∧ Els (fun k => k < W.heap.size) W a n vs ∧ Lsts (fun k => k < W.heap.size) W vs zs := by
  rcases open_int_rows Tryz.underlying72 Tryz.underlying70 Tryz.underlying3 cells_ints cells_int h with ⟨hcs, _⟩ | ⟨ad, len, cap, A, L, C, Z, hcs, _, hl, hm, hx, hcell⟩
  · simp at hcs
    exact ⟨none, 0, 0, [], [], hcs, ⟨rfl, by decide, .inl rfl⟩, rfl, fun i v z hv => by cases hv⟩
  · simp at hcs
    rw [hx] at hw
    have hlen : len ≤ 140737488351232 := by
      have := hw ((((List.range len).map fun r => (intRow .i64 (A r) (L r) (Z r) : DataW H)).length + ((List.range (cap - len)).map fun j => (intRow .i64 (A (len + j)) (L (len + j)) (Z (len + j)) : DataW H)).length) * 24) (by
        simp [DataW.weights, Tryz.underlying72, bytes_ints])
      simp only [List.length_map, List.length_range, reachBytes] at this
      omega
    refine ⟨some ad, len, cap, (List.range len).map fun r => .slice (A r) (L r) (C r), (List.range len).map fun r => (Z r).take (L r), hcs, els_of_cells (V := fun r => .slice (A r) (L r) (C r)) (fun i hi => (hcell i (by omega)).1) hlen, by simp, ?_⟩
    · intro i v z hv hz
      rw [List.getElem?_map] at hv hz
      rcases Nat.lt_or_ge i len with hi | hi
      · rw [List.getElem?_range hi] at hv hz
        simp only [Option.map_some, Option.some.injEq] at hv hz
        subst hv; subst hz
        obtain ⟨_, hLC, _, hZC, hwf, hA0, hA⟩ := hcell i (by omega)
        have hzl : ((Z i).take (L i)).length = L i := by rw [List.length_take]; omega
        refine ⟨A i, L i, C i, rfl, ?_, fun y hy => (bounds_i64 (hwf y (List.mem_of_mem_take hy))).2⟩
        cases hAi : A i with
        | none =>
          have hC0 := hA0 hAi
          have hL0 : L i = 0 := by omega
          rw [hL0]
          exact ⟨by simp [iv], by decide, .inl rfl⟩
        | some a' =>
          obtain ⟨_, hc⟩ := hA a' hAi
          have hLb : L i ≤ 140737488351232 := by
            have := hw (((lits (H := H) .i64 ((Z i).take (L i))).length + (lits (H := H) .i64 ((Z i).drop (L i))).length) * 8) (by
              simp only [DataW.weights, Tryz.underlying72, List.mem_cons, List.mem_append]
              refine .inr (.inl (mem_weightsAll (d := intRow .i64 (A i) (L i) (Z i)) (List.mem_map.2 ⟨i, List.mem_range.2 hi, rfl⟩) ?_))
              rw [hAi]
              simp [intRow, DataW.weights, Tryz.underlying70, bytes_int])
            simp only [lits, List.length_map, List.length_take, List.length_drop, reachBytes] at this
            omega
          have he := els_of_cells (W := W) (ad := a') (n := L i) (V := fun c => .int .i64 ((Z i).getD c 0)) (fun c hc' => hc c (by omega)) hLb
          have e : (List.range (L i)).map (fun c => Value.int .i64 ((Z i).getD c 0)) = iv ((Z i).take (L i)) := by
            unfold iv
            apply List.ext_getElem?
            intro j
            rw [List.getElem?_map, List.getElem?_map, List.getElem?_take]
            rcases Nat.lt_or_ge j (L i) with hj | hj
            · rw [List.getElem?_range hj, if_pos hj, List.getElem?_eq_getElem (show j < (Z i).length by omega)]
              simp [List.getD_eq_getElem?_getD, List.getElem?_eq_getElem (show j < (Z i).length by omega)]
            · rw [List.getElem?_eq_none (by simpa using hj), if_neg (by omega)]
              rfl
          rw [e] at he
          exact he
      · rw [List.getElem?_eq_none (by simpa using hi)] at hv
        cases hv

theorem trod_nums {H : Type} {enc : TypeId × Value → H} {W : World} {fuel : Nat} {v : Value} {x : DataW H × List MemPlace} (h : DataW.trod enc Tryz.prog W 0 (fun _ => true) true fuel 70 [v] = some x) (hw : ∀ k ∈ x.1.weights Tryz.prog 70, k ≤ reachBytes) :
    ∃ (a : Option Addr) (n c : Nat) (xs : List Int), v = .slice a n c ∧ Els (fun k => k < W.heap.size) W a n (iv xs) ∧ n ≤ 17592186043904 ∧ ∀ z ∈ xs, z ≤ 9223372036854775807 := by
  rcases open_slice1 Tryz.underlying70 cells_int h with ⟨hcs, _⟩ | ⟨ad, len, cap, m, k, V, D, Pl, hcs, _, hl, hm, hmm, hx, hcell⟩
  · simp at hcs
    exact ⟨none, 0, 0, [], hcs, ⟨rfl, by decide, .inl rfl⟩, by decide, fun s hs => by cases hs⟩
  · simp at hcs
    simp only [if_true] at hmm
    subst hmm
    rw [hx] at hw
    obtain ⟨X, hX⟩ := choose_lt (n := m) (p := fun i (z : Int) => V i = .int .i64 z ∧ z ≤ 9223372036854775807) fun i hi => by
      obtain ⟨z, e, _, wf⟩ := DataW.trod_int Tryz.underlying3 (hcell i hi).2
      exact ⟨z, by simpa using e, (bounds_i64 wf).2⟩
    have hreach : m * 8 ≤ 140737488351232 := by
      have := hw (((((List.range len).map D).length + ((List.range (m - len)).map fun j => D (len + j)).length)) * 8) (by
        simp [DataW.weights, Tryz.underlying70, bytes_int])
      simp only [List.length_map, List.length_range, reachBytes] at this
      rw [show len + (m - len) = m by omega] at this
      exact this
    refine ⟨some ad, len, m, (List.range len).map X, hcs, ?_, by omega, ?_⟩
    · have := els_of_cells (W := W) (ad := ad) (n := len) (V := fun i => .int .i64 (X i)) (fun i hi => by rw [(hcell i (by omega)).1, (hX i (by omega)).1]) (by omega)
      unfold iv
      rw [List.map_map]
      exact this
    · intro z hz
      simp only [List.mem_map, List.mem_range] at hz
      obtain ⟨i, hi, rfl⟩ := hz
      exact (hX i (by omega)).2
theorem one_int {H : Type} {enc : TypeId × Value → H} {W : World} {base : Nat} {sp : Nat → Bool} {held : Bool} {n : Nat} {v : Value} {y : DataW H × List MemPlace} (h : DataW.trod enc Tryz.prog W base sp held n 3 [v] = some y) :
    ∃ z : Int, v = .int .i64 z ∧ -9223372036854775808 ≤ z ∧ z ≤ 9223372036854775807 := by
  obtain ⟨z, e, _, wf⟩ := DataW.trod_int Tryz.underlying3 h
  have b := bounds_i64 wf
  exact ⟨z, by simpa using e, by omega, by omega⟩
def Sp.row (q : Sp) : List Value := [.int .i64 q.wh, .int .i64 q.le, .int .i64 q.mo, .int .i64 q.nn, .int .u64 (q.X : Nat), .bool q.F, .string q.st, .slice q.aB q.nB q.cB, .slice q.aL q.nL q.cL, .slice q.aT q.nT q.cT, .slice q.aD q.nD q.cD]
theorem Sp.val_row (q : Sp) : q.val = .agg q.row.toArray := rfl
/-- a script in memory -/
def RdSp (W : World) (a : Option Addr) (n : Nat) (qs : List Sp) : Prop :=
  n = qs.length ∧ n ≤ 900000000000 ∧ (∀ q ∈ qs, q.Ok (fun k => k < W.heap.size) W) ∧ (n = 0 ∨ ∃ b off, a = some ⟨b, off, none⟩ ∧ ∀ i q, qs[i]? = some q → ∀ j u, q.row[j]? = some u → W.cell? ⟨b, off + i * 11 + j, none⟩ = some u)
set_option maxRecDepth 100000 in
/-- one step, by its cells -/
theorem step_open {H : Type} {enc : TypeId × Value → H} {W : World} {k : Nat} {cs : List Value} {y : DataW H × List MemPlace} (hlen : cs.length = 11) (h : DataW.trod enc Tryz.prog W 0 (fun _ => true) true k 74 cs = some y) (hw : ∀ k ∈ y.1.weights Tryz.prog 74, k ≤ reachBytes) :
    ∃ q : Sp, cs = q.row ∧ q.Ok (fun k => k < W.heap.size) W := by
  obtain ⟨xs, k1, hk, hxy, _, hxl, hff⟩ := DataW.trod_struct Tryz.underlying74 h
  match xs, hxl, cs, hlen with
  | [y0, y1, y2, y3, y4, y5, y6, y7, y8, y9, y10], _, [v0, v1, v2, v3, v4, v5, v6, v7, v8, v9, v10], _ =>
    have g0 := hff 0 _ rfl
    have g1 := hff 1 _ rfl
    have g2 := hff 2 _ rfl
    have g3 := hff 3 _ rfl
    have g4 := hff 4 _ rfl
    have g5 := hff 5 _ rfl
    have g6 := hff 6 _ rfl
    have g7 := hff 7 _ rfl
    have g8 := hff 8 _ rfl
    have g9 := hff 9 _ rfl
    have g10 := hff 10 _ rfl
    simp [cells_int, cells_sl8, cells_u64, cells_bool, cells_str, cells_ints, cells_strs, cells_rows] at g0 g1 g2 g3 g4 g5 g6 g7 g8 g9 g10
    rw [hxy] at hw
    have w6 := weigh_field Tryz.underlying74 hw (j := 6) rfl rfl
    have w7 := weigh_field Tryz.underlying74 hw (j := 7) rfl rfl
    have w8 := weigh_field Tryz.underlying74 hw (j := 8) rfl rfl
    have w9 := weigh_field Tryz.underlying74 hw (j := 9) rfl rfl
    have w10 := weigh_field Tryz.underlying74 hw (j := 10) rfl rfl
    obtain ⟨z0, rfl, b0, c0⟩ := one_int g0
    obtain ⟨z1, rfl, b1, c1⟩ := one_int g1
    obtain ⟨z2, rfl, b2, c2⟩ := one_int g2
    obtain ⟨z3, rfl, b3, c3⟩ := one_int g3
    obtain ⟨z4, e4, _, wf4⟩ := DataW.trod_int Tryz.underlying69 g4
    have b4 := bounds_u64 wf4
    obtain ⟨z5, e5, _⟩ := DataW.trod_bool Tryz.underlying4 g5
    obtain ⟨z6, e6, hy6, wf6⟩ := DataW.trod_string Tryz.underlying9 g6
    simp at e4 e5 e6
    subst e4 e5 e6
    obtain ⟨a7, n7, c7, l7, rfl, r7, _, o7⟩ := trod_bytes_any g7 w7
    have m7 := trod_small g7 w7
    obtain ⟨a8, n8, c8, x8, rfl, r8, m8, q8⟩ := trod_nums g8 w8
    obtain ⟨a9, n9, c9, x9, rfl, r9, q9⟩ := trod_strs g9 w9
    obtain ⟨a10, n10, c10, vs, zs, rfl, r10, q10⟩ := trod_rows g10 w10
    obtain ⟨u4, rfl⟩ := Int.eq_ofNat_of_zero_le (show 0 ≤ z4 by omega)
    have s6 : z6.size ≤ 140737488351232 := by
      have := w6 z6.data.toList.length (by rw [hy6]; simp [DataW.weights])
      simp only [reachBytes, Array.length_toList] at this
      exact this
    refine ⟨⟨z0, z1, z2, z3, u4, z5, z6, a7, n7, c7, l7, a8, n8, c8, x8, a9, n9, c9, x9, a10, n10, c10, vs, zs⟩, rfl, b0, c0, c3, (by show u4 < _; omega), s6, r7, o7, m7, fun h0 b off e => ?_, r8, q8, m8, r9, q9, r10, q10⟩
    rcases r7.2.2.2 with hz | ⟨b', off', e', hc⟩
    · exact absurd hz h0
    · have e2 : a7 = some ⟨b, off, none⟩ := e
      rw [e2] at e'
      injection e' with e'
      injection e' with e1 e2'
      have := block_lt_of_cell (hc 0 (Nat.pos_of_ne_zero h0))
      show b < _
      rw [e1]
      exact this
theorem open_steps {H : Type} {enc : TypeId × Value → H} {W : World} {a : Option Addr} {n c : Nat} {d : DataW H} {p : List MemPlace}
    (h : DataW.Trod enc Tryz.prog W 0 (fun _ => true) true 64 (.slice a n c) d p) (hw : ∀ k ∈ d.weights Tryz.prog 64, k ≤ reachBytes) : ∃ qs, RdSp W a n qs := by
  obtain ⟨fuel, hf⟩ := h
  rcases open_slice Tryz.underlying64 hf with ⟨hcs, _⟩ | ⟨y, len, cap, m, k, D, Pl, hcs, _, hl, hm, hmm, hx, hel⟩
  · simp [Value.cells] at hcs
    obtain ⟨rfl, rfl, rfl⟩ := hcs
    exact ⟨[], rfl, Nat.zero_le _, (fun q hq => by cases hq), .inl rfl⟩
  · simp [Value.cells] at hcs
    obtain ⟨rfl, rfl, rfl⟩ := hcs
    simp only [if_true] at hmm
    subst hmm
    simp only [Prod.mk.injEq] at hx
    have hreach : m * 160 ≤ 140737488351232 := by
      have := hw (((((List.range n).map D).length + ((List.range (m - n)).map fun j => D (n + j)).length)) * 160) (by
        rw [hx.1]
        simp [DataW.weights, Tryz.underlying64, bytes_step])
      simp only [List.length_map, List.length_range, reachBytes] at this
      omega
    rw [cells_step] at hel
    obtain ⟨b, off, spot⟩ := y
    have key : ∀ i, i < n → ∃ q : Sp, q.Ok (fun k => k < W.heap.size) W ∧ ∀ j x, q.row[j]? = some x → W.cell? ((⟨b, off, spot⟩ : Addr).add (i * 11 + j)) = some x := by
      intro i hi
      obtain ⟨cs', h1, h2⟩ := hel i (by omega)
      obtain ⟨_, hlen, hcell⟩ := World.cells?_some h1
      have hwi : ∀ k ∈ (D i).weights Tryz.prog 74, k ≤ reachBytes := fun k hk => hw k (by
        rw [hx.1]
        simp only [DataW.weights, Tryz.underlying64, List.mem_cons, List.mem_append]
        exact .inr (.inl (mem_weightsAll (d := D i) (List.mem_map.2 ⟨i, List.mem_range.2 hi, rfl⟩) hk)))
      obtain ⟨q, hq1, hq2⟩ := step_open hlen h2 hwi
      refine ⟨q, hq2, fun j x hjx => ?_⟩
      have hj : j < 11 := (List.getElem?_eq_some_iff.1 hjx).1
      have := hcell j hj
      rw [addr_add_add] at this
      rw [this, hq1]; exact hjx
    have hne : Nonempty Sp := ⟨⟨0, 0, 0, 0, 0, false, ⟨#[]⟩, none, 0, 0, [], none, 0, 0, [], none, 0, 0, [], none, 0, 0, [], []⟩⟩
    have : Inhabited Sp := ⟨⟨0, 0, 0, 0, 0, false, ⟨#[]⟩, none, 0, 0, [], none, 0, 0, [], none, 0, 0, [], none, 0, 0, [], []⟩⟩
    obtain ⟨f, hf'⟩ := choose_lt key
    refine ⟨(List.range n).map f, by simp, (by show n ≤ _; omega), fun q hq => ?_, ?_⟩
    · obtain ⟨i, hi, rfl⟩ := List.mem_map.1 hq
      exact (hf' i (List.mem_range.1 hi)).1
    · by_cases h0 : n = 0
      · exact .inl h0
      · right
        have hspot : spot = none := by simpa [Addr.add] using World.cell?_spot ((hf' 0 (by omega)).2 0 _ rfl)
        subst hspot
        refine ⟨b, off, rfl, fun i q hq j u hu => ?_⟩
        have hi : i < n := by have := (List.getElem?_eq_some_iff.1 hq).1; simpa using this
        obtain rfl : f i = q := by
          rw [List.getElem?_map, List.getElem?_range hi] at hq
          simpa using hq
        have := (hf' i hi).2 j u hu
        have hadd : ∀ i, (⟨b, off, none⟩ : Addr).add i = ⟨b, off + i, none⟩ := fun i => by unfold Addr.add; split <;> simp_all
        rw [hadd] at this
        rw [Nat.add_assoc]; exact this
end Wm
end Go.Proofs.YtoelgcagahmndaaGreat

/- PackWrites: two writers in memory, the script beside them. -/
namespace Go.Proofs.YtoelgcagahmndaaGreat
namespace Wm
open Go.RowKit Go.Deep

theorem wset_ltW {w : World} {p : Nat} {v : Value} {s : K.WS} (h : Wr w p v s) {k : Nat} (hk : Wset p v k) : k < w.heap.size := by
  rcases hk with rfl | hk
  · exact (Array.getElem?_eq_some_iff.1 h.blk).1
  · exact (h.row.lt k hk).2
theorem wset_ltV {w : World} {p : Nat} {v : Value} {s : K.WS} (h : Vr w p v s) {k : Nat} (hk : Wset p v k) : k < w.heap.size := by
  rcases hk with rfl | hk
  · exact (Array.getElem?_eq_some_iff.1 h.blk).1
  · exact (h.row.lt k hk).2
/-- two writers, each in blocks of its own -/
structure St (w0 w : World) (p : Nat) (vW : Value) (q : Nat) (vV : Value) (s : K.WS) (s' : K.WS) : Prop where
  wr : Wr w p vW s
  vr : Vr w q vV s'
  wv : ∀ k, Wset p vW k → ¬ Wset q vV k
  gw : ∀ k, Wset p vW k → w0.heap.size ≤ k
  gv : ∀ k, Wset q vV k → w0.heap.size ≤ k
  bl : Below w0.heap.size w0 w
section
variable {w0 w w' : World} {p q : Nat} {vW vV : Value} {sW sV : K.WS}
theorem St.atW (h : St w0 w p vW q vV sW sV) : WAt (Wset p vW) w p sW w := ⟨Keep.refl _ _, vW, h.wr, fun _ hk => .inl hk⟩
theorem St.atV (h : St w0 w p vW q vV sW sV) : VAt (Wset q vV) w q sV w := ⟨Keep.refl _ _, vV, h.vr, fun _ hk => .inl hk⟩
theorem St.wput (h : St w0 w p vW q vV sW sV) {s' : K.WS} (a : WAt (Wset p vW) w p s' w') : ∃ v', St w0 w' p v' q vV s' sV := by
  obtain ⟨v', hw, hs⟩ := a.wr
  have hsz := h.bl.size
  have hnot : ∀ k, k < w.heap.size → ¬ Wset p vW k → ¬ Wset p v' k := fun k h1 h2 h3 => by
    rcases hs k h3 with h4 | h4
    · exact h2 h4
    · omega
  refine ⟨v', hw, h.vr.keep a.keep (fun k hk hw => h.wv k hw hk), fun k hk hv => hnot k (wset_ltV h.vr hv) (fun h5 => h.wv k h5 hv) hk, fun k hk => ?_, h.gv, h.bl.trans (a.keep.below hsz h.gw)⟩
  rcases hs k hk with h4 | h4
  · exact h.gw k h4
  · omega
theorem St.vput (h : St w0 w p vW q vV sW sV) {s' : K.WS} (a : VAt (Wset q vV) w q s' w') : ∃ v', St w0 w' p vW q v' sW s' := by
  obtain ⟨v', hw, hs⟩ := a.wr
  have hsz := h.bl.size
  have hnot : ∀ k, k < w.heap.size → ¬ Wset q vV k → ¬ Wset q v' k := fun k h1 h2 h3 => by
    rcases hs k h3 with h4 | h4
    · exact h2 h4
    · omega
  refine ⟨v', h.wr.keep a.keep (fun k hk hw => h.wv k hk hw), hw, fun k hk hv => hnot k (wset_ltW h.wr hk) (fun h5 => h.wv k hk h5) hv, h.gw, fun k hk => ?_, h.bl.trans (a.keep.below hsz h.gv)⟩
  rcases hs k hk with h4 | h4
  · exact h.gv k h4
  · omega
theorem St.new (h : St w0 w p vW q vV sW sV) (b : Below w.heap.size w w') : St w0 w' p vW q vV sW sV := by
  have a : Keep (fun _ => False) w w' := Keep.ofBelow b (Nat.le_refl _)
  exact ⟨h.wr.keep a fun _ _ f => f, h.vr.keep a fun _ _ f => f, h.wv, h.gw, h.gv, h.bl.trans (b.mono h.bl.size)⟩
theorem St.begin {w1 w2 w3 : World} {p q : Nat} {s1 s2 : K.WS} (hb : Below w0.heap.size w0 w1) (h1 : WAt (fun k => w1.heap.size ≤ k) w1 p s1 w2) (h2 : VAt (fun k => w2.heap.size ≤ k) w2 q s2 w3) : ∃ v u, St w0 w3 p v q u s1 s2 := by
  obtain ⟨v, hv, hs⟩ := h1.wr
  obtain ⟨u, hu, ht⟩ := h2.wr
  have k3 : Keep (fun k => w2.heap.size ≤ k) w2 w3 := h2.keep
  have z1 := hb.size
  have z2 := h1.keep.size
  have z3 := h2.keep.size
  have hv3 : Wr w3 p v s1 := hv.keep k3 fun k hk hle => by have := wset_ltW hv hk; omega
  have lv : ∀ k, Wset p v k → w1.heap.size ≤ k := fun k hk => (hs k hk).elim id id
  have lu : ∀ k, Wset q u k → w2.heap.size ≤ k := fun k hk => (ht k hk).elim id id
  refine ⟨v, u, hv3, hu, fun k h5 h6 => ?_, fun k hk => ?_, fun k hk => ?_, (hb.trans (h1.keep.below z1 fun i hi => by omega)).trans (h2.keep.below (by omega) fun i hi => by omega)⟩
  · have := wset_ltW hv h5; have := lu k h6; omega
  · have := lv k hk; omega
  · have := lu k hk; omega
end
/-- a step stays as it is -/
theorem els_wide {D : Nat → Prop} {W w : World} {a : Option Addr} {n : Nat} {vs : List Value} (h : Els (fun k => k < W.heap.size) W a n vs) (hb : Below W.heap.size W w) (hD : ∀ k, k < W.heap.size → D k) : Els D w a n vs := els_keep h hb hD
theorem Sp.Ok.keep {q : Sp} {D : Nat → Prop} {W w : World} (h : q.Ok (fun k => k < W.heap.size) W) (hb : Below W.heap.size W w) (hD : ∀ k, k < W.heap.size → D k) : q.Ok D w :=
  ⟨h.w1, h.w2, h.n2, h.x, h.s, h.b.keep hb, h.b0, h.bn, fun h0 b off e => hD b (h.bd h0 b off e), els_wide h.l hb hD, h.ly, h.ln, els_wide h.t hb hD, h.ty, els_wide h.d hb hD, h.dl.1, fun i x l hx hl => by
    obtain ⟨a, n, c, e, he, hy⟩ := h.dl.2 i x l hx hl
    exact ⟨a, n, c, e, els_wide he hb hD, hy⟩⟩
theorem RdSp.row {W : World} {a : Option Addr} {n : Nat} {qs : List Sp} (h : RdSp W a n qs) {i : Nat} (hi : i < n) : ∃ q b off, qs[i]? = some q ∧ a = some ⟨b, off, none⟩ ∧ q.Ok (fun k => k < W.heap.size) W ∧ ∀ w, Below W.heap.size W w → w.rangeAt b (off + i * 11) q.row := by
  obtain ⟨q, hq⟩ : ∃ q, qs[i]? = some q := ⟨_, List.getElem?_eq_getElem (by have := h.1; omega)⟩
  rcases h.2.2.2 with h0 | ⟨b, off, e, hc⟩
  · omega
  · refine ⟨q, b, off, hq, e, h.2.2.1 q (List.mem_of_getElem? hq), fun w hb j u hu => ?_⟩
    have := hc i q hq j u hu
    rw [hb.cell (p := ⟨b, off + i * 11 + j, none⟩) (block_lt_of_cell this)]
    exact this
theorem St.dW {w0 w : World} {p q : Nat} {vW vV : Value} {sW sV : K.WS} (h : St w0 w p vW q vV sW sV) : ∀ k, k < w0.heap.size → (¬ Wset p vW k ∧ k < w.heap.size) := fun k hk => ⟨fun h1 => by have := h.gw k h1; omega, Nat.lt_of_lt_of_le hk h.bl.size⟩
theorem St.dV {w0 w : World} {p q : Nat} {vW vV : Value} {sW sV : K.WS} (h : St w0 w p vW q vV sW sV) : ∀ k, k < w0.heap.size → (¬ Wset q vV k ∧ k < w.heap.size) := fun k hk => ⟨fun h1 => by have := h.gv k h1; omega, Nat.lt_of_lt_of_le hk h.bl.size⟩
/-- what came out, read -/
theorem rd_out {w w' : World} {a : Option Addr} {n c : Nat} {l : List Nat} (h : w.ownsRow 0 5 1 (.slice a n c) l.length (B8 l)) (hd : ∀ d ∈ l, d < 256) (hs : l.length < 281474976710656) (hb : Below w.heap.size w w') : Rd w' a n l := by
  obtain ⟨a', c', e, h1, h2, _⟩ := ownsRow_rd h hd hs
  injection e with e1 e2 e3
  subst e1 e2 e3
  exact h1.keep hb
theorem info_step : (Tryz.prog.info? 74).map (·.size) = some 11 := by kernel_rfl
/-- the scripts' effect -/
def runS (qs : List Sp) (s : K.WS) : K.WS := qs.foldl (fun s q => q.eff s) s
theorem run_succ {qs : List Sp} {i : Nat} {q : Sp} (h : qs[i]? = some q) (s : K.WS) : runS (qs.take (i + 1)) s = q.eff (runS (qs.take i) s) := by
  unfold runS
  rw [List.take_add_one, h, Option.toList_some, List.foldl_append]
  rfl
end Wm
end Go.Proofs.YtoelgcagahmndaaGreat
