/- Codec: what the laws' operations are made of, opened (written by cgi_gen.py). -/
import Derived.Test.YtbjcckfhfbjchaaGreatCGh
import Derived.Test.YtbjcckfhfbjchaaGreatPOpen
import Derived.Deep.Slices
namespace Go.Proofs.YtbjcckfhfbjchaaGreat
namespace Cd
open Go.ChangeShapes Go.WideShapes Go.ChangeAt Go.RowKit Go.Joins Go.Deep

/-- what a node is made of -/
structure Ra where
  nm : Int
  la : Int
  bu : Int
  cl : Int
  be : Int
  ba : Int
  ca : Int
  ji : Int
  ne : Option Addr × Nat × Nat
  af : Option Addr × Nat × Nat
  nl : List Int
  al : List Int
def Ra.row (q : Ra) : List Value := [.int .i64 q.nm, .int .i64 q.la, .int .i64 q.bu, .int .i64 q.cl, .int .i64 q.be, .int .i64 q.ba, .int .i64 q.ca, .int .i64 q.ji, .slice q.ne.1 q.ne.2.1 q.ne.2.2, .slice q.af.1 q.af.2.1 q.af.2.2]
/-- a number of 64 bits -/
def In64 (x : Int) : Prop := -9223372036854775808 ≤ x ∧ x ≤ 9223372036854775807
structure RaOk (q : Ra) : Prop where
  nm : In64 q.nm
  la : In64 q.la
  bu : In64 q.bu
  cl : In64 q.cl
  be : In64 q.be
  ba : In64 q.ba
  ca : In64 q.ca
  ji : In64 q.ji
  nl : ∀ x ∈ q.nl, In64 x
  al : ∀ x ∈ q.al, In64 x
def RaAt (w : World) (B o : Nat) (q : Ra) : Prop := ∀ j v, q.row[j]? = some v → w.cell? ⟨B, o + j, none⟩ = some v
def RdA (B : Nat) (w : World) (s : Option Addr × Nat × Nat) (xs : List Ra) : Prop :=
  s.2.1 = xs.length ∧ s.2.1 ≤ 1300000000000 ∧ (s.2.1 = 0 ∨ ∃ g off, s.1 = some ⟨g, off, none⟩ ∧ g < B ∧ ∀ i x, xs[i]? = some x → RaAt w g (off + i * 10) x) ∧ ∀ x ∈ xs, RaOk x ∧ Gr.RdZ B w x.ne x.nl ∧ Gr.RdZ B w x.af x.al
theorem RdA.keep {B : Nat} {w w' : World} {s : Option Addr × Nat × Nat} {xs : List Ra} {S : Nat → Prop} (h : RdA B w s xs) (k : Keep S w w') (hS : ∀ i, S i → B ≤ i) : RdA B w' s xs := by
  obtain ⟨h1, h2, h3, h4⟩ := h
  refine ⟨h1, h2, ?_, fun x hx => ⟨(h4 x hx).1, (h4 x hx).2.1.keep k hS, (h4 x hx).2.2.keep k hS⟩⟩
  rcases h3 with h3 | ⟨g, off, e, hg, h3⟩
  · exact .inl h3
  · exact .inr ⟨g, off, e, hg, fun i x hx j v hv => k.cell (h3 i x hx j v hv) fun hs => by have := hS _ hs; simp at this; omega⟩
theorem RdA.bel {w w' : World} {B : Nat} {s : Option Addr × Nat × Nat} {xs : List Ra} (h : RdA B w s xs) (hb : Below w.heap.size w w') : RdA B w' s xs :=
  h.keep (Keep.ofBelow (S := fun _ => False) hb (Nat.le_refl _)) fun _ f => f.elim
/-- what an operation is made of -/
structure De where
  ki : Int
  s : Option Addr × Nat × Nat
  nu : Int
  wo : Int
  t : Option Addr × Nat × Nat
  lu : Nat
  rs : List Ra
  tx : List Nat
def De.row (q : De) : List Value := [.int .i64 q.ki, .slice q.s.1 q.s.2.1 q.s.2.2, .int .i64 q.nu, .int .i64 q.wo, .slice q.t.1 q.t.2.1 q.t.2.2, .int .u64 (q.lu : Int)]
structure De.In (q : De) (W : World) : Prop where
  ki : In64 q.ki
  nu : In64 q.nu
  wo : In64 q.wo
  lu : q.lu < 18446744073709551616
  rd : RdA W.heap.size W q.s q.rs
  tx : Rd W q.t.1 q.t.2.1 q.tx
  tn : q.t.2.1 ≤ q.t.2.2
  t0 : q.t.1 = none → q.t.2.2 = 0
  td : q.t.2.1 ≠ 0 → ∀ b off, q.t.1 = some ⟨b, off, none⟩ → b < W.heap.size
theorem cells_int : Tryz.prog.cellsOf 3 = 1 := by kernel_rfl
theorem cells_u64 : Tryz.prog.cellsOf 25 = 1 := by kernel_rfl
theorem cells_ints : Tryz.prog.cellsOf 52 = 1 := by kernel_rfl
theorem cells_bytes : Tryz.prog.cellsOf 24 = 1 := by kernel_rfl
theorem cells_raw : Tryz.prog.cellsOf 60 = 10 := by kernel_rfl
theorem cells_raws : Tryz.prog.cellsOf 23 = 1 := by kernel_rfl
theorem cells_deed : Tryz.prog.cellsOf 27 = 6 := by kernel_rfl
theorem bytes_raw : Tryz.prog.bytesOf 60 = 112 := by kernel_rfl
theorem bytes_int : Tryz.prog.bytesOf 3 = 8 := by kernel_rfl
theorem one_int {H : Type} {enc : TypeId × Value → H} {W : World} {base : Nat} {sp : Nat → Bool} {held : Bool} {n : Nat} {v : Value} {y : DataW H × List MemPlace} (h : DataW.trod enc Tryz.prog W base sp held n 3 [v] = some y) :
    ∃ z : Int, v = .int .i64 z ∧ -9223372036854775808 ≤ z ∧ z ≤ 9223372036854775807 := by
  obtain ⟨z, e, _, wf⟩ := DataW.trod_int Tryz.underlying3 h
  have b := bounds_i64 wf
  exact ⟨z, by simpa using e, by omega, by omega⟩
theorem one_u64 {H : Type} {enc : TypeId × Value → H} {W : World} {base : Nat} {sp : Nat → Bool} {held : Bool} {n : Nat} {v : Value} {y : DataW H × List MemPlace} (h : DataW.trod enc Tryz.prog W base sp held n 25 [v] = some y) :
    ∃ z : Nat, v = .int .u64 (z : Int) ∧ z < 18446744073709551616 := by
  obtain ⟨z, e, _, wf⟩ := DataW.trod_int Tryz.underlying25 h
  have b := bounds_u64 wf
  obtain ⟨u, rfl⟩ := Int.eq_ofNat_of_zero_le (show 0 ≤ z by omega)
  exact ⟨u, by simpa using e, by omega⟩
set_option maxRecDepth 100000 in
/-- a struct by value, as its cells -/
theorem struct_cells {H : Type} {enc : TypeId × Value → H} {w : World} {r : Reach} {b0 : Nat} {t : TypeId} {fs : Array Field} {v : Value} {d : DataW H} {p : List MemPlace}
    (hs : Tryz.prog.underlying t = some (.struct fs)) (hv : Value.okWide Tryz.prog w r b0 t v) (h : DataW.Trod enc Tryz.prog w 0 (fun _ => true) true t v d p) :
    ∃ cs : Array Value, v = .agg cs ∧ cs.toList.length = Tryz.prog.cellsOf t ∧ ∃ k, DataW.trod enc Tryz.prog w 0 (fun _ => true) true k t cs.toList = some (d, p) := by
  obtain ⟨cs, rfl, hsz⟩ := okWide_struct hs hv
  obtain ⟨fuel, hf⟩ := h
  exact ⟨cs, rfl, hsz, fuel, hf⟩
theorem addr_add_add (a : Addr) (x y : Nat) : (a.add x).add y = a.add (x + y) := by
  obtain ⟨b, o, s⟩ := a
  by_cases hx : x = 0 <;> by_cases hy : y = 0 <;> simp [Addr.add, hx, hy, Nat.add_assoc]
theorem mem_weightsAll {H : Type} {P : Program} {e : TypeId} : ∀ {l : List (DataW H)} {d : DataW H} {k : Nat}, d ∈ l → k ∈ d.weights P e → k ∈ DataW.weightsAll P e l := by
  intro l
  induction l with
  | nil => intro d k h; cases h
  | cons x r ih =>
    intro d k h hk
    simp only [DataW.weightsAll, List.mem_append]
    rcases List.mem_cons.1 h with rfl | h
    · exact .inl hk
    · exact .inr (ih h hk)
theorem hadd (b off x : Nat) : (⟨b, off, none⟩ : Addr).add x = ⟨b, off + x, none⟩ := by unfold Addr.add; split <;> simp_all
/-- a list of numbers, opened -/
theorem trod_nums {H : Type} {enc : TypeId × Value → H} {W : World} {fuel : Nat} {v : Value} {x : DataW H × List MemPlace}
    (hf : DataW.trod enc Tryz.prog W 0 (fun _ => true) true fuel 52 [v] = some x) (hw : ∀ k ∈ x.1.weights Tryz.prog 52, k ≤ reachBytes) : ∃ (s : Option Addr × Nat × Nat) (z : List Int), v = .slice s.1 s.2.1 s.2.2 ∧ (s.1 = none → s.2.2 = 0) ∧ Gr.RdZ W.heap.size W s z ∧ ∀ x ∈ z, In64 x := by
  rcases open_slice Tryz.underlying52 hf with ⟨hcs, _⟩ | ⟨y, len, cap, m, k, D, Pl, hcs, _, hl, hm, hmm, hx, hel⟩
  · exact ⟨(none, 0, 0), [], by simpa using hcs, fun _ => rfl, ⟨rfl, by simp, .inl rfl⟩, fun x hx => by cases hx⟩
  · simp only [if_true] at hmm
    subst hmm
    subst hx
    have hreach : m * 8 ≤ 140737488351232 := by
      have := hw (((((List.range len).map D).length + ((List.range (m - len)).map fun j => D (len + j)).length)) * 8) (by
        simp [DataW.weights, Tryz.underlying52, bytes_int])
      simp only [List.length_map, List.length_range, reachBytes] at this
      omega
    rw [cells_int] at hel
    obtain ⟨b, off, spot⟩ := y
    have key : ∀ i, ∃ z : Int, In64 z ∧ (i < len → W.cell? ((⟨b, off, spot⟩ : Addr).add i) = some (.int .i64 z)) := by
      intro i
      by_cases hi : i < len
      · obtain ⟨cs', h1, h2⟩ := hel i (by omega)
        obtain ⟨_, hlen, hcell⟩ := World.cells?_some h1
        match cs', hlen with
        | [v0], _ =>
          obtain ⟨z, rfl, hz⟩ := one_int h2
          refine ⟨z, hz, fun _ => ?_⟩
          have := hcell 0 (by decide)
          rw [addr_add_add] at this
          simpa using this
      · exact ⟨0, by unfold In64; omega, fun h => absurd h hi⟩
    obtain ⟨f, hf'⟩ := Classical.axiomOfChoice key
    refine ⟨(some ⟨b, off, spot⟩, len, m), (List.range len).map f, by simpa using hcs, (fun e => by cases e), ⟨by simp, by show len ≤ _; omega, ?_⟩, fun x hx => by obtain ⟨i, _, rfl⟩ := List.mem_map.1 hx; exact (hf' i).1⟩
    by_cases h0 : len = 0
    · exact .inl h0
    · right
      have hspot : spot = none := by simpa [Addr.add] using World.cell?_spot ((hf' 0).2 (by omega))
      subst hspot
      have hblk : b < W.heap.size := by
        have := (hf' 0).2 (by omega)
        rw [hadd] at this
        exact World.block_lt_of_cell? W _ this
      refine ⟨b, off, rfl, hblk, fun j u hu => ?_⟩
      have hi : j < len := by have := (List.getElem?_eq_some_iff.1 hu).1; simpa using this
      obtain rfl : f j = u := by
        rw [List.getElem?_map, List.getElem?_range hi] at hu
        simpa using hu
      have := (hf' j).2 hi
      rwa [hadd] at this
/-- a node, opened -/
def RaIn (W : World) (x : Ra) : Prop := RaOk x ∧ Gr.RdZ W.heap.size W x.ne x.nl ∧ Gr.RdZ W.heap.size W x.af x.al
set_option maxRecDepth 100000 in
theorem raw_open {H : Type} {enc : TypeId × Value → H} {W : World} {k : Nat} {cs : List Value} {y : DataW H × List MemPlace} (hlen : cs.length = 10) (h : DataW.trod enc Tryz.prog W 0 (fun _ => true) true k 60 cs = some y) (hw : ∀ k ∈ y.1.weights Tryz.prog 60, k ≤ reachBytes) :
    ∃ x : Ra, cs = x.row ∧ RaIn W x := by
  obtain ⟨xs, k1, hk, hxy, _, hxl, hff⟩ := DataW.trod_struct Tryz.underlying60 h
  match xs, hxl, cs, hlen with
  | [y0, y1, y2, y3, y4, y5, y6, y7, y8, y9], _, [v0, v1, v2, v3, v4, v5, v6, v7, v8, v9], _ =>
    have g0 := hff 0 _ rfl
    have g1 := hff 1 _ rfl
    have g2 := hff 2 _ rfl
    have g3 := hff 3 _ rfl
    have g4 := hff 4 _ rfl
    have g5 := hff 5 _ rfl
    have g6 := hff 6 _ rfl
    have g7 := hff 7 _ rfl
    have g8 := hff 8 _ rfl
    have g9 := hff 9 _ rfl
    simp [cells_int, cells_ints] at g0 g1 g2 g3 g4 g5 g6 g7 g8 g9
    rw [hxy] at hw
    have w8 := weigh_field Tryz.underlying60 hw (j := 8) rfl rfl
    have w9 := weigh_field Tryz.underlying60 hw (j := 9) rfl rfl
    obtain ⟨z0, rfl, c0⟩ := one_int g0
    obtain ⟨z1, rfl, c1⟩ := one_int g1
    obtain ⟨z2, rfl, c2⟩ := one_int g2
    obtain ⟨z3, rfl, c3⟩ := one_int g3
    obtain ⟨z4, rfl, c4⟩ := one_int g4
    obtain ⟨z5, rfl, c5⟩ := one_int g5
    obtain ⟨z6, rfl, c6⟩ := one_int g6
    obtain ⟨z7, rfl, c7⟩ := one_int g7
    obtain ⟨z8, l8, rfl, _, r8, i8⟩ := trod_nums g8 w8
    obtain ⟨z9, l9, rfl, _, r9, i9⟩ := trod_nums g9 w9
    exact ⟨⟨z0, z1, z2, z3, z4, z5, z6, z7, z8, z9, l8, l9⟩, rfl, ⟨c0, c1, c2, c3, c4, c5, c6, c7, i8, i9⟩, r8, r9⟩
def noRa : Ra := ⟨0, 0, 0, 0, 0, 0, 0, 0, (none, 0, 0), (none, 0, 0), [], []⟩
/-- a list of nodes, opened -/
theorem trod_raws {H : Type} {enc : TypeId × Value → H} {W : World} {fuel : Nat} {v : Value} {x : DataW H × List MemPlace}
    (hf : DataW.trod enc Tryz.prog W 0 (fun _ => true) true fuel 23 [v] = some x) (hw : ∀ k ∈ x.1.weights Tryz.prog 23, k ≤ reachBytes) : ∃ (s : Option Addr × Nat × Nat) (xs : List Ra), v = .slice s.1 s.2.1 s.2.2 ∧ RdA W.heap.size W s xs := by
  rcases open_slice Tryz.underlying23 hf with ⟨hcs, _⟩ | ⟨y, len, cap, m, k, D, Pl, hcs, _, hl, hm, hmm, hx, hel⟩
  · exact ⟨(none, 0, 0), [], by simpa using hcs, rfl, by simp, .inl rfl, fun x hx => by cases hx⟩
  · simp only [if_true] at hmm
    subst hmm
    subst hx
    have hreach : m * 112 ≤ 140737488351232 := by
      have := hw (((((List.range len).map D).length + ((List.range (m - len)).map fun j => D (len + j)).length)) * 112) (by
        simp [DataW.weights, Tryz.underlying23, bytes_raw])
      simp only [List.length_map, List.length_range, reachBytes] at this
      omega
    rw [cells_raw] at hel
    obtain ⟨b, off, spot⟩ := y
    have key : ∀ i, ∃ q : Ra, i < len → RaIn W q ∧ ∀ j x, q.row[j]? = some x → W.cell? ((⟨b, off, spot⟩ : Addr).add (i * 10 + j)) = some x := by
      intro i
      by_cases hi : i < len
      · obtain ⟨cs', h1, h2⟩ := hel i (by omega)
        obtain ⟨_, hlen, hcell⟩ := World.cells?_some h1
        have hwi : ∀ k ∈ (D i).weights Tryz.prog 60, k ≤ reachBytes := fun k hk => hw k (by
          simp only [DataW.weights, Tryz.underlying23, List.mem_cons, List.mem_append]
          exact .inr (.inl (mem_weightsAll (d := D i) (List.mem_map.2 ⟨i, List.mem_range.2 hi, rfl⟩) hk)))
        obtain ⟨q, hq1, hq2⟩ := raw_open hlen h2 hwi
        refine ⟨q, fun _ => ⟨hq2, fun j x hjx => ?_⟩⟩
        have hj : j < 10 := (List.getElem?_eq_some_iff.1 hjx).1
        have := hcell j hj
        rw [addr_add_add] at this
        rw [this, hq1]; exact hjx
      · exact ⟨noRa, fun h => absurd h hi⟩
    obtain ⟨f, hf'⟩ := Classical.axiomOfChoice key
    refine ⟨(some ⟨b, off, spot⟩, len, m), (List.range len).map f, by simpa using hcs, by simp, by show len ≤ _; omega, ?_, fun x hx => ?_⟩
    · by_cases h0 : len = 0
      · exact .inl h0
      · right
        have hspot : spot = none := by simpa [Addr.add] using World.cell?_spot ((hf' 0 (by omega)).2 0 _ rfl)
        subst hspot
        have hblk : b < W.heap.size := by
          have := (hf' 0 (by omega)).2 0 _ rfl
          rw [hadd] at this
          exact World.block_lt_of_cell? W _ this
        refine ⟨b, off, rfl, hblk, fun i q hq j u hu => ?_⟩
        have hi : i < len := by have := (List.getElem?_eq_some_iff.1 hq).1; simpa using this
        obtain rfl : f i = q := by
          rw [List.getElem?_map, List.getElem?_range hi] at hq
          simpa using hq
        have := (hf' i hi).2 j u hu
        rw [hadd] at this
        rw [Nat.add_assoc]; exact this
    · obtain ⟨i, hi, rfl⟩ := List.mem_map.1 hx
      exact (hf' i (List.mem_range.1 hi)).1
theorem trod_text {H : Type} {enc : TypeId × Value → H} {W : World} {fuel : Nat} {v : Value} {x : DataW H × List MemPlace}
    (hf : DataW.trod enc Tryz.prog W 0 (fun _ => true) true fuel 24 [v] = some x) (hw : ∀ k ∈ x.1.weights Tryz.prog 24, k ≤ reachBytes) : ∃ (s : Option Addr × Nat × Nat) (l : List Nat), v = .slice s.1 s.2.1 s.2.2 ∧ Rd W s.1 s.2.1 l ∧ s.2.1 ≤ s.2.2 ∧ (s.1 = none → s.2.2 = 0) := by
  obtain ⟨a, n, c, l, e, h1, h2, h3⟩ := trod_bytes_any hf hw
  exact ⟨(a, n, c), l, e, h1, h2, h3⟩
set_option maxRecDepth 100000 in
theorem deed_open {H : Type} {enc : TypeId × Value → H} {W : World} {k : Nat} {cs : List Value} {y : DataW H × List MemPlace} (hlen : cs.length = 6) (h : DataW.trod enc Tryz.prog W 0 (fun _ => true) true k 27 cs = some y) (hw : ∀ k ∈ y.1.weights Tryz.prog 27, k ≤ reachBytes) :
    ∃ q : De, cs = q.row ∧ q.In W := by
  obtain ⟨xs, k1, hk, hxy, _, hxl, hff⟩ := DataW.trod_struct Tryz.underlying27 h
  match xs, hxl, cs, hlen with
  | [y0, y1, y2, y3, y4, y5], _, [v0, v1, v2, v3, v4, v5], _ =>
    have g0 := hff 0 _ rfl
    have g1 := hff 1 _ rfl
    have g2 := hff 2 _ rfl
    have g3 := hff 3 _ rfl
    have g4 := hff 4 _ rfl
    have g5 := hff 5 _ rfl
    simp [cells_int, cells_raws, cells_bytes, cells_u64] at g0 g1 g2 g3 g4 g5
    rw [hxy] at hw
    have w1 := weigh_field Tryz.underlying27 hw (j := 1) rfl rfl
    have w4 := weigh_field Tryz.underlying27 hw (j := 4) rfl rfl
    obtain ⟨z0, rfl, c0⟩ := one_int g0
    obtain ⟨s, rs, rfl, r1⟩ := trod_raws g1 w1
    obtain ⟨z2, rfl, c2⟩ := one_int g2
    obtain ⟨z3, rfl, c3⟩ := one_int g3
    obtain ⟨t, tx, rfl, t1, t2, t3⟩ := trod_text g4 w4
    obtain ⟨u, rfl, hu⟩ := one_u64 g5
    refine ⟨⟨z0, s, z2, z3, t, u, rs, tx⟩, rfl, c0, c2, c3, hu, r1, t1, t2, t3, fun hn b off e => ?_⟩
    rcases t1.2.2.2 with h0 | ⟨b', off', e', hc⟩
    · exact absurd h0 hn
    · have e : t.1 = some ⟨b, off, none⟩ := e
      rw [e] at e'
      injection e' with e'
      injection e' with e1 e2
      subst e1 e2
      exact World.block_lt_of_cell? W _ (hc 0 (Nat.pos_of_ne_zero hn))
set_option maxRecDepth 100000 in
theorem open_deed {H : Type} {enc : TypeId × Value → H} {W : World} {r : Reach} {b0 : Nat} {v : Value} {d : DataW H} {p : List MemPlace}
    (hv : Value.okWide Tryz.prog W r b0 27 v) (h : DataW.Trod enc Tryz.prog W 0 (fun _ => true) true 27 v d p) (hw : ∀ k ∈ d.weights Tryz.prog 27, k ≤ reachBytes) :
    ∃ q : De, v = .agg q.row.toArray ∧ q.In W := by
  obtain ⟨cs, rfl, hl, k, h⟩ := struct_cells Tryz.underlying27 hv h
  rw [cells_deed] at hl
  obtain ⟨q, hq, hi⟩ := deed_open hl h hw
  exact ⟨q, by rw [← hq], hi⟩
end Cd
end Go.Proofs.YtbjcckfhfbjchaaGreat
