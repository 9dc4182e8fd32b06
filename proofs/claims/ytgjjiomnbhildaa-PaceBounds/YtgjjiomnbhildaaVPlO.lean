/- Plans that came in, opened: nodes as package pace sees them. -/
import Derived.Test.YtgjjiomnbhildaaVNdO
import Derived.Test.YtgjjiomnbhildaaVBnM
namespace Go.Proofs.Ytgjjiomnbhildaa
open Go.ChangeShapes Go.WideShapes Go.ChangeAt Go.RowKit Go.Joins Go.Deep

def zNb : V.Nd := ⟨⟨#[]⟩, 0, 0, 0, 0, 0, 0, 0, (none, 0, 0), (none, 0, 0)⟩
theorem bytes_node : Try.prog.bytesOf 24 = 120 := by kernel_rfl
theorem cells_plan : Try.prog.cellsOf 37 = 3 := by kernel_rfl
theorem cells_nodes : Try.prog.cellsOf 35 = 1 := by kernel_rfl
theorem addr_add_add (a : Addr) (x y : Nat) : (a.add x).add y = a.add (x + y) := by
  obtain ⟨b, o, s⟩ := a
  by_cases hx : x = 0 <;> by_cases hy : y = 0 <;> simp [Addr.add, hx, hy, Nat.add_assoc]
/-- the weights of a field -/
theorem weigh_field {H : Type} {t : TypeId} {fs : Array Field} {parts : List (DataW H)} (hs : Try.prog.underlying t = some (.struct fs)) (h : ∀ k ∈ (DataW.agg parts).weights Try.prog t, k ≤ reachBytes) {j : Nat} {f : TypeId} {d : DataW H} (hf : (fs.toList.map (·.type))[j]? = some f) (hd : parts[j]? = some d) : ∀ k ∈ d.weights Try.prog f, k ≤ reachBytes := fun k hk => by
  refine h k ?_
  simp only [DataW.weights, hs]
  exact DataW.weights_mem_each hf hd k hk
theorem mem_weightsAll {H : Type} {P : Program} {e : TypeId} : ∀ {l : List (DataW H)} {d : DataW H} {k : Nat}, d ∈ l → k ∈ d.weights P e → k ∈ DataW.weightsAll P e l := by
  intro l
  induction l with
  | nil => intro d k h; cases h
  | cons x r ih =>
    intro d k h hk
    simp only [DataW.weightsAll, List.mem_append]
    rcases List.mem_cons.1 h with rfl | h
    · exact .inl hk
    · exact .inr (ih h hk)

/-- a list of nodes, opened -/
theorem trod_nodes {H : Type} {enc : TypeId × Value → H} {W : World} {fuel : Nat} {v : Value} {x : DataW H × List MemPlace}
    (hf : DataW.trod enc Try.prog W 0 (fun _ => true) true fuel 35 [v] = some x) (hw : ∀ k ∈ x.1.weights Try.prog 35, k ≤ reachBytes) : ∃ (s : Option Addr × Nat × Nat) (qs : List V.Nd), v = .slice s.1 s.2.1 s.2.2 ∧ s.2.1 ≤ 1172812402926 ∧ RdN W s.1 s.2.1 qs := by
  rcases open_slice Try.underlying35 hf with ⟨hcs, _⟩ | ⟨y, len, cap, m, k, D, Pl, hcs, _, hl, hm, hmm, hx, hel⟩
  · exact ⟨(none, 0, 0), [], by simpa using hcs, by decide, rfl, by decide, (fun q hq => by cases hq), .inl rfl⟩
  · simp only [if_true] at hmm
    subst hmm
    subst hx
    have hreach : m * 120 ≤ 140737488351232 := by
      have := hw (((((List.range len).map D).length + ((List.range (m - len)).map fun j => D (len + j)).length)) * 120) (by
        simp [DataW.weights, Try.underlying35, bytes_node])
      simp only [List.length_map, List.length_range, reachBytes] at this
      omega
    rw [cells_node] at hel
    obtain ⟨b, off, spot⟩ := y
    have key : ∀ i, ∃ q : V.Nd, i < len → V.Nd.In q ∧ ∀ j x, q.row[j]? = some x → W.cell? ((⟨b, off, spot⟩ : Addr).add (i * 10 + j)) = some x := by
      intro i
      by_cases hi : i < len
      · obtain ⟨cs', h1, h2⟩ := hel i (by omega)
        obtain ⟨_, hlen, hcell⟩ := World.cells?_some h1
        obtain ⟨q, hq1, hq2⟩ := node_open hlen h2
        refine ⟨q, fun _ => ⟨hq2, fun j x hjx => ?_⟩⟩
        have hj : j < 10 := (List.getElem?_eq_some_iff.1 hjx).1
        have := hcell j hj
        rw [addr_add_add] at this
        rw [this, hq1]; exact hjx
      · exact ⟨zNb, fun h => absurd h hi⟩
    obtain ⟨f, hf'⟩ := Classical.axiomOfChoice key
    refine ⟨(some ⟨b, off, spot⟩, len, m), (List.range len).map f, by simpa using hcs, by show len ≤ _; omega, by simp, by show len ≤ _; omega, fun q hq => ?_, ?_⟩
    · obtain ⟨i, hi, rfl⟩ := List.mem_map.1 hq
      exact (hf' i (List.mem_range.1 hi)).1
    · by_cases h0 : len = 0
      · exact .inl h0
      · right
        have hspot : spot = none := by simpa [Addr.add] using World.cell?_spot ((hf' 0 (by omega)).2 0 _ rfl)
        subst hspot
        have hadd : ∀ x, (⟨b, off, none⟩ : Addr).add x = ⟨b, off + x, none⟩ := fun x => by unfold Addr.add; split <;> simp_all
        have hblk : b < W.heap.size := by
          have := (hf' 0 (by omega)).2 0 _ rfl
          rw [hadd] at this
          exact World.block_lt_of_cell? W _ this
        refine ⟨b, off, rfl, hblk, fun i q hq => ⟨fun j u hu => ?_, hblk⟩⟩
        have hi : i < len := by have := (List.getElem?_eq_some_iff.1 hq).1; simpa using this
        obtain rfl : f i = q := by
          rw [List.getElem?_map, List.getElem?_range hi] at hq
          simpa using hq
        have := (hf' i hi).2 j u hu
        rw [hadd] at this
        rw [Nat.add_assoc]; exact this

/-- a plan that came in -/
structure Pb where
  nm : ByteArray
  dl : Int
  s : Option Addr × Nat × Nat
  qs : List V.Nd
def Pb.row (q : Pb) : List Value := [.string q.nm, .int .i64 q.dl, .slice q.s.1 q.s.2.1 q.s.2.2]
structure Pb.In (q : Pb) (W : World) : Prop where
  rd : RdN W q.s.1 q.s.2.1 q.qs
  dl : V.i64 q.dl
set_option maxRecDepth 100000 in
theorem open_plan {H : Type} {enc : TypeId × Value → H} {W : World} {r : Reach} {b0 : Nat} {v : Value} {d : DataW H} {p : List MemPlace}
    (hv : Value.okWide Try.prog W r b0 37 v) (h : DataW.Trod enc Try.prog W 0 (fun _ => true) true 37 v d p) (hw : ∀ k ∈ d.weights Try.prog 37, k ≤ reachBytes) :
    ∃ q : Pb, v = .agg q.row.toArray ∧ q.In W := by
  obtain ⟨cs, rfl, hsz⟩ := okWide_struct Try.underlying37 hv
  rw [cells_plan] at hsz
  obtain ⟨fuel, hf⟩ := h
  obtain ⟨xs, k1, hk, hxy, _, hxl, hff⟩ := DataW.trod_struct Try.underlying37 hf
  obtain ⟨cs⟩ := cs
  simp only [Value.cells] at hff
  match xs, hxl, cs, hsz with
  | [y0, y1, y2], _, [v0, v1, v2], _ =>
    have g0 := hff 0 _ rfl
    have g1 := hff 1 _ rfl
    have g2 := hff 2 _ rfl
    simp [cells_str, cells_int, cells_nodes] at g0 g1 g2
    have hd := congrArg Prod.fst hxy
    simp only at hd
    rw [hd] at hw
    have w2 := weigh_field Try.underlying37 hw (j := 2) rfl rfl
    obtain ⟨z0, rfl⟩ := one_str g0
    obtain ⟨z1, rfl, c1⟩ := one_int g1
    obtain ⟨s2, qs, rfl, _, r2⟩ := trod_nodes g2 w2
    exact ⟨⟨z0, z1, s2, qs⟩, rfl, r2, c1⟩
end Go.Proofs.Ytgjjiomnbhildaa
