/- Plans and questions that came in, opened. -/
import Derived.Test.YtfnndnceaddhgaaVNdO
import Derived.Test.YtfnndnceaddhgaaVTel
namespace Go.Proofs.Ytfnndnceaddhgaa
open Go.ChangeShapes Go.WideShapes Go.ChangeAt Go.RowKit Go.Joins Go.Deep

theorem bytes_node : Try.prog.bytesOf 31 = 120 := by kernel_rfl
theorem bytes_ask : Try.prog.bytesOf 36 = 248 := by kernel_rfl
theorem cells_ask : Try.prog.cellsOf 36 = 23 := by kernel_rfl
theorem cells_plan : Try.prog.cellsOf 34 = 3 := by kernel_rfl
theorem cells_nodes : Try.prog.cellsOf 32 = 1 := by kernel_rfl
theorem addr_add_add (a : Addr) (x y : Nat) : (a.add x).add y = a.add (x + y) := by
  obtain ⟨b, o, s⟩ := a
  by_cases hx : x = 0 <;> by_cases hy : y = 0 <;> simp [Addr.add, hx, hy, Nat.add_assoc]
/-- the weights of a field -/
theorem weigh_field {H : Type} {t : TypeId} {fs : Array Field} {parts : List (DataW H)} (hs : Try.prog.underlying t = some (.struct fs)) (h : ∀ k ∈ (DataW.agg parts).weights Try.prog t, k ≤ reachBytes) {j : Nat} {f : TypeId} {d : DataW H} (hf : (fs.toList.map (·.type))[j]? = some f) (hd : parts[j]? = some d) : ∀ k ∈ d.weights Try.prog f, k ≤ reachBytes := fun k hk => by
  refine h k ?_
  simp only [DataW.weights, hs]
  exact DataW.weights_mem_each hf hd k hk
theorem mem_weightsAll {H : Type} {P : Program} {e : TypeId} : ∀ {l : List (DataW H)} {d : DataW H} {k : Nat}, d ∈ l → k ∈ d.weights P e → k ∈ DataW.weightsAll P e l := by
  intro l
  induction l with
  | nil => intro d k h; cases h
  | cons x r ih =>
    intro d k h hk
    simp only [DataW.weightsAll, List.mem_append]
    rcases List.mem_cons.1 h with rfl | h
    · exact .inl hk
    · exact .inr (ih h hk)

/-- a list of nodes, opened -/
theorem trod_nodes {H : Type} {enc : TypeId × Value → H} {W : World} {fuel : Nat} {v : Value} {x : DataW H × List MemPlace}
    (hf : DataW.trod enc Try.prog W 0 (fun _ => true) true fuel 32 [v] = some x) (hw : ∀ k ∈ x.1.weights Try.prog 32, k ≤ reachBytes) : ∃ (s : Option Addr × Nat × Nat) (qs : List V.Nd), v = .slice s.1 s.2.1 s.2.2 ∧ s.2.1 ≤ 1172812402926 ∧ RdN W s.1 s.2.1 qs := by
  rcases open_slice Try.underlying32 hf with ⟨hcs, _⟩ | ⟨y, len, cap, m, k, D, Pl, hcs, _, hl, hm, hmm, hx, hel⟩
  · exact ⟨(none, 0, 0), [], by simpa using hcs, by decide, rfl, by decide, (fun q hq => by cases hq), .inl rfl⟩
  · simp only [if_true] at hmm
    subst hmm
    subst hx
    have hreach : m * 120 ≤ 140737488351232 := by
      have := hw (((((List.range len).map D).length + ((List.range (m - len)).map fun j => D (len + j)).length)) * 120) (by
        simp [DataW.weights, Try.underlying32, bytes_node])
      simp only [List.length_map, List.length_range, reachBytes] at this
      omega
    rw [cells_node] at hel
    obtain ⟨b, off, spot⟩ := y
    have key : ∀ i, ∃ q : V.Nd, i < len → V.Nd.In q ∧ ∀ j x, q.row[j]? = some x → W.cell? ((⟨b, off, spot⟩ : Addr).add (i * 10 + j)) = some x := by
      intro i
      by_cases hi : i < len
      · obtain ⟨cs', h1, h2⟩ := hel i (by omega)
        obtain ⟨_, hlen, hcell⟩ := World.cells?_some h1
        obtain ⟨q, hq1, hq2⟩ := node_open hlen h2
        refine ⟨q, fun _ => ⟨hq2, fun j x hjx => ?_⟩⟩
        have hj : j < 10 := (List.getElem?_eq_some_iff.1 hjx).1
        have := hcell j hj
        rw [addr_add_add] at this
        rw [this, hq1]; exact hjx
      · exact ⟨V.zN 0, fun h => absurd h hi⟩
    obtain ⟨f, hf'⟩ := Classical.axiomOfChoice key
    refine ⟨(some ⟨b, off, spot⟩, len, m), (List.range len).map f, by simpa using hcs, by show len ≤ _; omega, by simp, by show len ≤ _; omega, fun q hq => ?_, ?_⟩
    · obtain ⟨i, hi, rfl⟩ := List.mem_map.1 hq
      exact (hf' i (List.mem_range.1 hi)).1
    · by_cases h0 : len = 0
      · exact .inl h0
      · right
        have hspot : spot = none := by simpa [Addr.add] using World.cell?_spot ((hf' 0 (by omega)).2 0 _ rfl)
        subst hspot
        have hadd : ∀ x, (⟨b, off, none⟩ : Addr).add x = ⟨b, off + x, none⟩ := fun x => by unfold Addr.add; split <;> simp_all
        have hblk : b < W.heap.size := by
          have := (hf' 0 (by omega)).2 0 _ rfl
          rw [hadd] at this
          exact World.block_lt_of_cell? W _ this
        refine ⟨b, off, rfl, hblk, fun i q hq => ⟨fun j u hu => ?_, hblk⟩⟩
        have hi : i < len := by have := (List.getElem?_eq_some_iff.1 hq).1; simpa using this
        obtain rfl : f i = q := by
          rw [List.getElem?_map, List.getElem?_range hi] at hq
          simpa using hq
        have := (hf' i hi).2 j u hu
        rw [hadd] at this
        rw [Nat.add_assoc]; exact this

set_option maxRecDepth 100000 in
/-- a question, by its cells -/
theorem ask_open {H : Type} {enc : TypeId × Value → H} {W : World} {k : Nat} {cs : List Value} {y : DataW H × List MemPlace} (hlen : cs.length = 23) (h : DataW.trod enc Try.prog W 0 (fun _ => true) true k 36 cs = some y) (hw : ∀ k ∈ y.1.weights Try.prog 36, k ≤ reachBytes) :
    ∃ (q : V.Ak) (qs : List V.Nd), cs = q.row ∧ V.Ak.In q ∧ q.sl.2.1 ≤ 1172812402926 ∧ RdN W q.sl.1 q.sl.2.1 qs := by
  obtain ⟨xs, k1, hk, hxy, _, hxl, hff⟩ := DataW.trod_struct Try.underlying36 h
  match xs, hxl, cs, hlen with
  | [y0, y1, y2, y3, y4, y5, y6, y7, y8, y9, y10, y11], _, [v0, v1, v2, v3, v4, v5, v6, v7, v8, v9, v10, v11, v12, v13, v14, v15, v16, v17, v18, v19, v20, v21, v22], _ =>
    have g0 := hff 0 _ rfl
    have g1 := hff 1 _ rfl
    have g2 := hff 2 _ rfl
    have g3 := hff 3 _ rfl
    have g4 := hff 4 _ rfl
    have g5 := hff 5 _ rfl
    have g6 := hff 6 _ rfl
    have g7 := hff 7 _ rfl
    have g8 := hff 8 _ rfl
    have g9 := hff 9 _ rfl
    have g10 := hff 10 _ rfl
    have g11 := hff 11 _ rfl
    simp [cells_int, cells_u64, cells_node, cells_plan] at g0 g1 g2 g3 g4 g5 g6 g7 g8 g9 g10 g11
    rw [hxy] at hw
    have w9 := weigh_field Try.underlying36 hw (j := 9) rfl rfl
    obtain ⟨z0, rfl, b0⟩ := one_int g0
    obtain ⟨z1, rfl, b1⟩ := one_int g1
    obtain ⟨z2, rfl, b2⟩ := one_int g2
    obtain ⟨z3, rfl, b3⟩ := one_int g3
    obtain ⟨z4, rfl, b4⟩ := one_u64 g4
    obtain ⟨z5, rfl, b5⟩ := one_int g5
    obtain ⟨z6, rfl, b6⟩ := one_int g6
    obtain ⟨z7, rfl, b7⟩ := one_int g7
    obtain ⟨nd, hnd, b8⟩ := node_open rfl g8
    obtain ⟨z10, rfl, b10⟩ := one_int g10
    obtain ⟨z11, rfl, b11⟩ := one_int g11
    obtain ⟨xs2, k2, hk2, hxy2, _, hxl2, hff2⟩ := DataW.trod_struct Try.underlying34 g9
    match xs2, hxl2 with
    | [u0, u1, u2], _ =>
      have e0 := hff2 0 _ rfl
      have e1 := hff2 1 _ rfl
      have e2 := hff2 2 _ rfl
      simp [cells_str, cells_int, cells_nodes] at e0 e1 e2
      rw [hxy2] at w9
      have w92 := weigh_field Try.underlying34 w9 (j := 2) rfl rfl
      obtain ⟨t0, rfl⟩ := one_str e0
      obtain ⟨t1, rfl, d1⟩ := one_int e1
      obtain ⟨s, qs, rfl, hs, hr⟩ := trod_nodes e2 w92
      refine ⟨⟨z0, z1, z2, z3, z4, z5, z6, z7, nd, t0, t1, s, z10, z11⟩, qs, ?_, ⟨b0, b3, b5, b6, b7⟩, hs, hr⟩
      simp only [V.Ak.row, ← hnd]
      rfl

set_option maxRecDepth 100000 in
theorem open_asks {H : Type} {enc : TypeId × Value → H} {W : World} {a : Option Addr} {n c : Nat} {d : DataW H} {p : List MemPlace}
    (h : DataW.Trod enc Try.prog W 0 (fun _ => true) true 27 (.slice a n c) d p) (hw : ∀ k ∈ d.weights Try.prog 27, k ≤ reachBytes) : ∃ As, RdA W a n As := by
  obtain ⟨fuel, hf⟩ := h
  rcases open_slice Try.underlying27 hf with ⟨hcs, _⟩ | ⟨y, len, cap, m, k, D, Pl, hcs, _, hl, hm, hmm, hx, hel⟩
  · simp [Value.cells] at hcs
    obtain ⟨rfl, rfl, rfl⟩ := hcs
    exact ⟨[], rfl, by decide, .inl rfl⟩
  · simp [Value.cells] at hcs
    obtain ⟨rfl, rfl, rfl⟩ := hcs
    simp only [if_true] at hmm
    subst hmm
    simp only [Prod.mk.injEq] at hx
    have hreach : m * 248 ≤ 140737488351232 := by
      have := hw (((((List.range n).map D).length + ((List.range (m - n)).map fun j => D (n + j)).length)) * 248) (by
        rw [hx.1]
        simp [DataW.weights, Try.underlying27, bytes_ask])
      simp only [List.length_map, List.length_range, reachBytes] at this
      omega
    rw [cells_ask] at hel
    obtain ⟨b, off, spot⟩ := y
    have key : ∀ i, ∃ q : V.Ak × List V.Nd, i < n → V.Ak.In q.1 ∧ q.1.sl.2.1 ≤ 1172812402926 ∧ RdN W q.1.sl.1 q.1.sl.2.1 q.2 ∧ ∀ j x, q.1.row[j]? = some x → W.cell? ((⟨b, off, spot⟩ : Addr).add (i * 23 + j)) = some x := by
      intro i
      by_cases hi : i < n
      · obtain ⟨cs', h1, h2⟩ := hel i (by omega)
        obtain ⟨_, hlen, hcell⟩ := World.cells?_some h1
        have hwi : ∀ k ∈ (D i).weights Try.prog 36, k ≤ reachBytes := fun k hk => hw k (by
          rw [hx.1]
          simp only [DataW.weights, Try.underlying27, List.mem_cons, List.mem_append]
          exact .inr (.inl (mem_weightsAll (d := D i) (List.mem_map.2 ⟨i, List.mem_range.2 hi, rfl⟩) hk)))
        obtain ⟨q, qs, hq1, hq2, hq3, hq4⟩ := ask_open hlen h2 hwi
        refine ⟨(q, qs), fun _ => ⟨hq2, hq3, hq4, fun j x hjx => ?_⟩⟩
        have hj : j < 23 := by rw [← hlen, hq1]; exact (List.getElem?_eq_some_iff.1 hjx).1
        have := hcell j hj
        rw [addr_add_add] at this
        rw [this, hq1]; exact hjx
      · exact ⟨(⟨0, 0, 0, 0, 0, 0, 0, 0, V.zN 0, ⟨#[]⟩, 0, (none, 0, 0), 0, 0⟩, []), fun h => absurd h hi⟩
    obtain ⟨f, hf'⟩ := Classical.axiomOfChoice key
    refine ⟨(List.range n).map f, by simp, by omega, ?_⟩
    by_cases h0 : n = 0
    · exact .inl h0
    · right
      have hspot : spot = none := by simpa [Addr.add] using World.cell?_spot ((hf' 0 (by omega)).2.2.2 0 _ rfl)
      subst hspot
      have hadd : ∀ x, (⟨b, off, none⟩ : Addr).add x = ⟨b, off + x, none⟩ := fun x => by unfold Addr.add; split <;> simp_all
      have hblk : b < W.heap.size := by
        have := (hf' 0 (by omega)).2.2.2 0 _ rfl
        rw [hadd] at this
        exact World.block_lt_of_cell? W _ this
      refine ⟨b, off, rfl, hblk, fun i q hq => ?_⟩
      have hi : i < n := by have := (List.getElem?_eq_some_iff.1 hq).1; simpa using this
      obtain rfl : f i = q := by
        rw [List.getElem?_map, List.getElem?_range hi] at hq
        simpa using hq
      obtain ⟨k1, k2, k3, k4⟩ := hf' i hi
      refine ⟨k1, k2, k3, fun j v hv => ?_⟩
      have := k4 j v hv
      rw [hadd] at this
      rw [Nat.add_assoc]; exact this
end Go.Proofs.Ytfnndnceaddhgaa
