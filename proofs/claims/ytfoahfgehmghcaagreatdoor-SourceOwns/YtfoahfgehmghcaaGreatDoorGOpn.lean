import Derived.Test.YtfoahfgehmghcaaGreatDoorRows
import Derived.Test.YtfoahfgehmghcaaGreatDoorCards
import Derived.Test.YtfoahfgehmghcaaGreatDoorTie
import Derived.Test.YtfoahfgehmghcaaGreatDoorUBeg
import Derived.Test.YtfoahfgehmghcaaGreatDoorUPar
import Derived.ProofKit
import Derived.LaidMore
import Derived.LaidLaws
import Derived.LaidHandle
import Derived.LaidSub
import Derived.Lay
import Derived.Lib.LaidTab
import Derived.OpenShut
import Derived.ChangeOld
import Derived.SizedLaws
import Derived.Stop.Joined
import Derived.SevenTiedAt
import Derived.Deep.Fields
import Derived.Deep.DeepHandedRow
import Derived.Test.YtfoahfgehmghcaaGreatDoorUMod
import Derived.Below
import Derived.WalkSpells
import Derived.Lib.SmallJoins
import Derived.Deep.Slices
/- Package source's laws: what their rows share: the variables that are laid, the witness. -/
namespace Go.Proofs.YtfoahfgehmghcaaGreatDoor
namespace U
open Go.ChangeShapes Go.WideShapes Go.ChangeAt Go.RowKit Go.Deep

theorem own : ownKnob Tryz.prog.godebug = none := by kernel_rfl
theorem laidOut : laidOutB Tryz.prog = true := by kernel_rfl
abbrev laid6 : List (String × DataW Unit) := [("math/bits.deBruijn32tab", Rows.laid_math_bits_deBruijn32tab), ("math/bits.deBruijn64tab", Rows.laid_math_bits_deBruijn64tab), ("internal/strconv.uint64pow10", Rows.laid_internal_strconv_uint64pow10), ("unicode/utf8.acceptRanges", Rows.laid_unicode_utf8_acceptRanges), ("errors.errorType", Rows.laid_errors_errorType), ("unicode/utf8.first", Rows.laid_unicode_utf8_first)]
theorem tPow : (Tryz.prog.globals[1]?).map (·.type) = some 183 := by kernel_rfl
set_option maxRecDepth 100000 in
theorem envI_of_laid {W : World} (h : laidMetH Tryz.prog laid6 W) : EnvI W := by
  have h := h.filter (fun x => x.1 == "internal/strconv.uint64pow10")
  have e : laid6.filter (fun x => x.1 == "internal/strconv.uint64pow10") = [("internal/strconv.uint64pow10", Rows.laid_internal_strconv_uint64pow10)] := by kernel_rfl
  rw [e] at h
  rw [MakeChecks.laidMetH_plain _ _ _ (by kernel_rfl)] at h
  exact Lib.tabIs_of_head globalTab tPow Tryz.underlying183 Tryz.underlying163 (by kernel_rfl) (by kernel_rfl) (rest := []) h
theorem gErr : Tryz.prog.globalNamed "errors.errorType" = some 0 := by kernel_rfl
theorem rtypeAt : (Tryz.prog.cutTypes.find? (·.1 == "internal/reflectlite.rtype")).map (·.2) = some 135 := by kernel_rfl
theorem errName : Rows.laid_errors_errorType.handleName? (H := Unit) = some [101, 114, 114, 111, 114] := by kernel_rfl
set_option maxRecDepth 100000 in
theorem errOne : ((List.range Tryz.prog.types.size).all fun t => !Tryz.prog.rowNamed t [101, 114, 114, 111, 114] || t == 50) = true := by kernel_rfl
theorem typeErr : typeHandle Tryz.prog 50 = hdl 50 := by kernel_rfl
set_option maxRecDepth 100000 in
theorem envA_of_laid {W : World} (h : laidMetH Tryz.prog laid6 W) : EnvA W := by
  obtain ⟨_, h2⟩ := laidMetH_iff.1 h
  have hm : (("errors.errorType", Rows.laid_errors_errorType) : String × DataW Unit) ∈ laid6.filter fun x => x.2.handleName?.isSome := List.mem_filter.2 ⟨by simp, by rw [errName]; rfl⟩
  have h3 := h2 _ hm
  have hf : (Rows.laid_errors_errorType (H := Unit)).funcsIn? = none := by kernel_rfl
  simp only [hf] at h3
  obtain ⟨name, u, ty, e1, e2, e3, e4, e5⟩ := h3
  rw [errName] at e1
  obtain rfl := Option.some.inj e1
  rw [rtypeAt] at e2
  obtain rfl := Option.some.inj e2
  have h6 := List.all_eq_true.1 errOne ty (List.mem_range.2 e3)
  rw [e4] at h6
  have h7 : ty = 50 := by simpa using h6
  subst h7
  unfold World.var? at e5
  rw [gErr] at e5
  simp only [Option.bind_some] at e5
  rw [typeErr] at e5
  unfold EnvA
  split at e5
  · rename_i cs elem fz hh
    have e6 := Option.some.inj e5
    subst e6
    rw [World.cell?, hh]
    simp
  · cases e5
/-- a world in which they are laid -/
noncomputable def laidWorld (os : Os) : World :=
  { World.laidAll Tryz.prog os (laid6.filter fun x => x.2.handleName?.isNone) with heap := (World.laidAll Tryz.prog os (laid6.filter fun x => x.2.handleName?.isNone)).heap.modify 0 fun
      | .cells _ t frozen => .cells #[.iface 135 (.agg #[hdl 50])] t frozen
      | o => o }
set_option maxRecDepth 100000 in
theorem laid_met (os : Os) (args : Array Value) : laidMetH Tryz.prog laid6 ((laidWorld os).forCall (fun _ _ => 0) ⟨#[], args, []⟩).memory :=
  laidMetH_of_parts (laidMet_of_run' 8 (by kernel_rfl) (by kernel_rfl)) (by kernel_rfl)
end U
end Go.Proofs.YtfoahfgehmghcaaGreatDoor

/- Plans that came in, opened; what every row of chapter 10 wants. -/
namespace Go.Proofs.YtfoahfgehmghcaaGreatDoor
open Go.ChangeShapes Go.WideShapes Go.ChangeAt Go.RowKit Go.Joins Go.Deep

theorem own : ownKnob Tryz.prog.godebug = none := by kernel_rfl
theorem laidOut : laidOutB Tryz.prog = true := by kernel_rfl
theorem cells_int : Tryz.prog.cellsOf 3 = 1 := by kernel_rfl
theorem cells_str : Tryz.prog.cellsOf 9 = 1 := by kernel_rfl
theorem cells_ints : Tryz.prog.cellsOf 30 = 1 := by kernel_rfl
theorem cells_node : Tryz.prog.cellsOf 32 = 10 := by kernel_rfl
theorem cells_plan : Tryz.prog.cellsOf 24 = 3 := by kernel_rfl
theorem cells_nodes : Tryz.prog.cellsOf 22 = 1 := by kernel_rfl
theorem bytes_node : Tryz.prog.bytesOf 32 = 120 := by kernel_rfl
theorem bytes_int : Tryz.prog.bytesOf 3 = 8 := by kernel_rfl
/-- the weights of one argument -/
theorem weigh {H : Type} {ts : List TypeId} {ds : List (DataW H)} (h : (DataW.weightsEach Tryz.prog ts ds).all (· ≤ reachBytes) = true) {j : Nat} {t : TypeId} {d : DataW H} (ht : ts[j]? = some t) (hd : ds[j]? = some d) : ∀ k ∈ d.weights Tryz.prog t, k ≤ reachBytes := fun k hk => by
  have := List.all_eq_true.1 h _ (DataW.weights_mem_each ht hd k hk)
  simpa using this
theorem one_int {H : Type} {enc : TypeId × Value → H} {W : World} {base : Nat} {sp : Nat → Bool} {held : Bool} {n : Nat} {v : Value} {y : DataW H × List MemPlace} (h : DataW.trod enc Tryz.prog W base sp held n 3 [v] = some y) :
    ∃ z : Int, v = .int .i64 z ∧ -9223372036854775808 ≤ z ∧ z ≤ 9223372036854775807 := by
  obtain ⟨z, e, _, wf⟩ := DataW.trod_int Tryz.underlying3 h
  have b := bounds_i64 wf
  exact ⟨z, by simpa using e, by omega, by omega⟩
set_option maxRecDepth 100000 in
/-- a struct by value, as its cells -/
theorem struct_cells {H : Type} {enc : TypeId × Value → H} {w : World} {r : Reach} {b0 : Nat} {t : TypeId} {fs : Array Field} {v : Value} {d : DataW H} {p : List MemPlace}
    (hs : Tryz.prog.underlying t = some (.struct fs)) (hv : Value.okWide Tryz.prog w r b0 t v) (h : DataW.Trod enc Tryz.prog w 0 (fun _ => true) true t v d p) :
    ∃ cs : Array Value, v = .agg cs ∧ cs.toList.length = Tryz.prog.cellsOf t ∧ ∃ k, DataW.trod enc Tryz.prog w 0 (fun _ => true) true k t cs.toList = some (d, p) := by
  obtain ⟨cs, rfl, hsz⟩ := okWide_struct hs hv
  obtain ⟨fuel, hf⟩ := h
  exact ⟨cs, rfl, hsz, fuel, hf⟩
theorem one_str {H : Type} {enc : TypeId × Value → H} {W : World} {base : Nat} {sp : Nat → Bool} {held : Bool} {n : Nat} {v : Value} {y : DataW H × List MemPlace} (h : DataW.trod enc Tryz.prog W base sp held n 9 [v] = some y) :
    ∃ s : ByteArray, v = .string s ∧ s.size ≤ 9223372036854775807 := by
  obtain ⟨s, e, _, hs⟩ := DataW.trod_string Tryz.underlying9 h
  exact ⟨s, by simpa using e, by unfold maxLen at hs; omega⟩
theorem one_strW {H : Type} {enc : TypeId × Value → H} {W : World} {base : Nat} {sp : Nat → Bool} {held : Bool} {n : Nat} {v : Value} {y : DataW H × List MemPlace} (h : DataW.trod enc Tryz.prog W base sp held n 9 [v] = some y) (hw : ∀ k ∈ y.1.weights Tryz.prog 9, k ≤ reachBytes) :
    ∃ s : ByteArray, v = .string s ∧ s.size ≤ 140737488351232 := by
  obtain ⟨s, e, he, hs⟩ := DataW.trod_string Tryz.underlying9 h
  refine ⟨s, by simpa using e, ?_⟩
  have hl := hw s.data.toList.length (by rw [he]; exact List.mem_singleton.2 rfl)
  rw [Array.length_toList] at hl
  exact hl
theorem addr_add_add (a : Addr) (x y : Nat) : (a.add x).add y = a.add (x + y) := by
  obtain ⟨b, o, s⟩ := a
  by_cases hx : x = 0 <;> by_cases hy : y = 0 <;> simp [Addr.add, hx, hy, Nat.add_assoc]
/-- the weights of a field -/
theorem weigh_field {H : Type} {t : TypeId} {fs : Array Field} {parts : List (DataW H)} (hs : Tryz.prog.underlying t = some (.struct fs)) (h : ∀ k ∈ (DataW.agg parts).weights Tryz.prog t, k ≤ reachBytes) {j : Nat} {f : TypeId} {d : DataW H} (hf : (fs.toList.map (·.type))[j]? = some f) (hd : parts[j]? = some d) : ∀ k ∈ d.weights Tryz.prog f, k ≤ reachBytes := fun k hk => by
  refine h k ?_
  simp only [DataW.weights, hs]
  exact DataW.weights_mem_each hf hd k hk
theorem mem_weightsAll {H : Type} {P : Program} {e : TypeId} : ∀ {l : List (DataW H)} {d : DataW H} {k : Nat}, d ∈ l → k ∈ d.weights P e → k ∈ DataW.weightsAll P e l := by
  intro l
  induction l with
  | nil => intro d k h; cases h
  | cons x r ih =>
    intro d k h hk
    simp only [DataW.weightsAll, List.mem_append]
    rcases List.mem_cons.1 h with rfl | h
    · exact .inl hk
    · exact .inr (ih h hk)
theorem hadd (b off x : Nat) : (⟨b, off, none⟩ : Addr).add x = ⟨b, off + x, none⟩ := by unfold Addr.add; split <;> simp_all
/-- a list of numbers, opened -/
theorem trod_nums {H : Type} {enc : TypeId × Value → H} {W : World} {fuel : Nat} {v : Value} {x : DataW H × List MemPlace}
    (hf : DataW.trod enc Tryz.prog W 0 (fun _ => true) true fuel 30 [v] = some x) (hw : ∀ k ∈ x.1.weights Tryz.prog 30, k ≤ reachBytes) : ∃ (s : Option Addr × Nat × Nat) (z : List Int), v = .slice s.1 s.2.1 s.2.2 ∧ (s.1 = none → s.2.2 = 0) ∧ Gr.RdZ W.heap.size W s z := by
  rcases open_slice Tryz.underlying30 hf with ⟨hcs, _⟩ | ⟨y, len, cap, m, k, D, Pl, hcs, _, hl, hm, hmm, hx, hel⟩
  · exact ⟨(none, 0, 0), [], by simpa using hcs, fun _ => rfl, rfl, by simp, .inl rfl⟩
  · simp only [if_true] at hmm
    subst hmm
    subst hx
    have hreach : m * 8 ≤ 140737488351232 := by
      have := hw (((((List.range len).map D).length + ((List.range (m - len)).map fun j => D (len + j)).length)) * 8) (by
        simp [DataW.weights, Tryz.underlying30, bytes_int])
      simp only [List.length_map, List.length_range, reachBytes] at this
      omega
    rw [cells_int] at hel
    obtain ⟨b, off, spot⟩ := y
    have key : ∀ i, ∃ z : Int, i < len → W.cell? ((⟨b, off, spot⟩ : Addr).add i) = some (.int .i64 z) := by
      intro i
      by_cases hi : i < len
      · obtain ⟨cs', h1, h2⟩ := hel i (by omega)
        obtain ⟨_, hlen, hcell⟩ := World.cells?_some h1
        match cs', hlen with
        | [v0], _ =>
          obtain ⟨z, rfl, _⟩ := one_int h2
          refine ⟨z, fun _ => ?_⟩
          have := hcell 0 (by decide)
          rw [addr_add_add] at this
          simpa using this
      · exact ⟨0, fun h => absurd h hi⟩
    obtain ⟨f, hf'⟩ := Classical.axiomOfChoice key
    refine ⟨(some ⟨b, off, spot⟩, len, m), (List.range len).map f, by simpa using hcs, (fun e => by cases e), by simp, by show len ≤ _; omega, ?_⟩
    by_cases h0 : len = 0
    · exact .inl h0
    · right
      have hspot : spot = none := by simpa [Addr.add] using World.cell?_spot (hf' 0 (by omega))
      subst hspot
      have hblk : b < W.heap.size := by
        have := hf' 0 (by omega)
        rw [hadd] at this
        exact World.block_lt_of_cell? W _ this
      refine ⟨b, off, rfl, hblk, fun j u hu => ?_⟩
      have hi : j < len := by have := (List.getElem?_eq_some_iff.1 hu).1; simpa using this
      obtain rfl : f j = u := by
        rw [List.getElem?_map, List.getElem?_range hi] at hu
        simpa using hu
      have := hf' j hi
      rwa [hadd] at this
/-- a node, opened -/
def NoIn (W : World) (x : Gr.No) : Prop := (x.q.nm.size ≤ 140737488351232 ∧ (x.q.ne.1 = none → x.q.ne.2.2 = 0) ∧ (x.q.af.1 = none → x.q.af.2.2 = 0)) ∧ Gr.RdZ W.heap.size W x.q.ne x.nl ∧ Gr.RdZ W.heap.size W x.q.af x.al
set_option maxRecDepth 100000 in
theorem node_open {H : Type} {enc : TypeId × Value → H} {W : World} {k : Nat} {cs : List Value} {y : DataW H × List MemPlace} (hlen : cs.length = 10) (h : DataW.trod enc Tryz.prog W 0 (fun _ => true) true k 32 cs = some y) (hw : ∀ k ∈ y.1.weights Tryz.prog 32, k ≤ reachBytes) :
    ∃ x : Gr.No, cs = x.q.row ∧ NoIn W x := by
  obtain ⟨xs, k1, hk, hxy, _, hxl, hff⟩ := DataW.trod_struct Tryz.underlying32 h
  match xs, hxl, cs, hlen with
  | [y0, y1, y2, y3, y4, y5, y6, y7, y8, y9], _, [v0, v1, v2, v3, v4, v5, v6, v7, v8, v9], _ =>
    have g0 := hff 0 _ rfl
    have g1 := hff 1 _ rfl
    have g2 := hff 2 _ rfl
    have g3 := hff 3 _ rfl
    have g4 := hff 4 _ rfl
    have g5 := hff 5 _ rfl
    have g6 := hff 6 _ rfl
    have g7 := hff 7 _ rfl
    have g8 := hff 8 _ rfl
    have g9 := hff 9 _ rfl
    simp [cells_str, cells_int, cells_ints] at g0 g1 g2 g3 g4 g5 g6 g7 g8 g9
    rw [hxy] at hw
    have w0 := weigh_field Tryz.underlying32 hw (j := 0) rfl rfl
    have w8 := weigh_field Tryz.underlying32 hw (j := 8) rfl rfl
    have w9 := weigh_field Tryz.underlying32 hw (j := 9) rfl rfl
    obtain ⟨z0, rfl, s0⟩ := one_strW g0 w0
    obtain ⟨z1, rfl, c1⟩ := one_int g1
    obtain ⟨z2, rfl, c2⟩ := one_int g2
    obtain ⟨z3, rfl, c3⟩ := one_int g3
    obtain ⟨z4, rfl, c4⟩ := one_int g4
    obtain ⟨z5, rfl, c5⟩ := one_int g5
    obtain ⟨z6, rfl, c6⟩ := one_int g6
    obtain ⟨z7, rfl, c7⟩ := one_int g7
    obtain ⟨z8, l8, rfl, p8, r8⟩ := trod_nums g8 w8
    obtain ⟨z9, l9, rfl, p9, r9⟩ := trod_nums g9 w9
    exact ⟨⟨⟨z0, z1, z2, z3, z4, z5, z6, z7, z8, z9⟩, l8, l9⟩, rfl, ⟨s0, p8, p9⟩, r8, r9⟩
def noNo : Gr.No := ⟨⟨⟨#[]⟩, 0, 0, 0, 0, 0, 0, 0, (none, 0, 0), (none, 0, 0)⟩, [], []⟩
/-- a list of nodes, opened -/
theorem trod_nodes {H : Type} {enc : TypeId × Value → H} {W : World} {fuel : Nat} {v : Value} {x : DataW H × List MemPlace}
    (hf : DataW.trod enc Tryz.prog W 0 (fun _ => true) true fuel 22 [v] = some x) (hw : ∀ k ∈ x.1.weights Tryz.prog 22, k ≤ reachBytes) : ∃ (s : Option Addr × Nat × Nat) (xs : List Gr.No), v = .slice s.1 s.2.1 s.2.2 ∧ Gr.RdP W.heap.size W s xs ∧ (∀ x ∈ xs, x.q.nm.size ≤ 140737488351232 ∧ (x.q.ne.1 = none → x.q.ne.2.2 = 0) ∧ (x.q.af.1 = none → x.q.af.2.2 = 0)) ∧ (s.1 = none → s.2.2 = 0) := by
  rcases open_slice Tryz.underlying22 hf with ⟨hcs, _⟩ | ⟨y, len, cap, m, k, D, Pl, hcs, _, hl, hm, hmm, hx, hel⟩
  · exact ⟨(none, 0, 0), [], by simpa using hcs, ⟨rfl, by simp, .inl rfl, (fun x hx => by cases hx)⟩, (fun x hx => by cases hx), fun _ => rfl⟩
  · simp only [if_true] at hmm
    subst hmm
    subst hx
    have hreach : m * 120 ≤ 140737488351232 := by
      have := hw (((((List.range len).map D).length + ((List.range (m - len)).map fun j => D (len + j)).length)) * 120) (by
        simp [DataW.weights, Tryz.underlying22, bytes_node])
      simp only [List.length_map, List.length_range, reachBytes] at this
      omega
    rw [cells_node] at hel
    obtain ⟨b, off, spot⟩ := y
    have key : ∀ i, ∃ q : Gr.No, i < len → NoIn W q ∧ ∀ j x, q.q.row[j]? = some x → W.cell? ((⟨b, off, spot⟩ : Addr).add (i * 10 + j)) = some x := by
      intro i
      by_cases hi : i < len
      · obtain ⟨cs', h1, h2⟩ := hel i (by omega)
        obtain ⟨_, hlen, hcell⟩ := World.cells?_some h1
        have hwi : ∀ k ∈ (D i).weights Tryz.prog 32, k ≤ reachBytes := fun k hk => hw k (by
          simp only [DataW.weights, Tryz.underlying22, List.mem_cons, List.mem_append]
          exact .inr (.inl (mem_weightsAll (d := D i) (List.mem_map.2 ⟨i, List.mem_range.2 hi, rfl⟩) hk)))
        obtain ⟨q, hq1, hq2⟩ := node_open hlen h2 hwi
        refine ⟨q, fun _ => ⟨hq2, fun j x hjx => ?_⟩⟩
        have hj : j < 10 := (List.getElem?_eq_some_iff.1 hjx).1
        have := hcell j hj
        rw [addr_add_add] at this
        rw [this, hq1]; exact hjx
      · exact ⟨noNo, fun h => absurd h hi⟩
    obtain ⟨f, hf'⟩ := Classical.axiomOfChoice key
    refine ⟨(some ⟨b, off, spot⟩, len, m), (List.range len).map f, by simpa using hcs, ⟨by simp, by show len ≤ _; omega, ?_, fun x hx => ?_⟩, (fun x hx => ?_), fun h => by cases h⟩
    · by_cases h0 : len = 0
      · exact .inl h0
      · right
        have hspot : spot = none := by simpa [Addr.add] using World.cell?_spot ((hf' 0 (by omega)).2 0 _ rfl)
        subst hspot
        have hblk : b < W.heap.size := by
          have := (hf' 0 (by omega)).2 0 _ rfl
          rw [hadd] at this
          exact World.block_lt_of_cell? W _ this
        refine ⟨b, off, rfl, hblk, fun i q hq j u hu => ?_⟩
        have hi : i < len := by have := (List.getElem?_eq_some_iff.1 hq).1; simpa using this
        obtain rfl : f i = q := by
          rw [List.getElem?_map, List.getElem?_range hi] at hq
          simpa using hq
        have := (hf' i hi).2 j u hu
        rw [hadd] at this
        rw [Nat.add_assoc]; exact this
    · obtain ⟨i, hi, rfl⟩ := List.mem_map.1 hx
      exact (hf' i (List.mem_range.1 hi)).1.2
    · obtain ⟨i, hi, rfl⟩ := List.mem_map.1 hx
      exact (hf' i (List.mem_range.1 hi)).1.1
/-- a plan that came in -/
structure Pl where
  nm : ByteArray
  dl : Int
  s : Option Addr × Nat × Nat
  xs : List Gr.No
def Pl.row (q : Pl) : List Value := [.string q.nm, .int .i64 q.dl, .slice q.s.1 q.s.2.1 q.s.2.2]
structure Pl.In (q : Pl) (W : World) : Prop where
  rd : Gr.RdP W.heap.size W q.s q.xs
  sz : Gr.Sz q.nm q.xs
  cp : ∀ x ∈ q.xs, (x.q.ne.1 = none → x.q.ne.2.2 = 0) ∧ (x.q.af.1 = none → x.q.af.2.2 = 0)
  dl : -9223372036854775808 ≤ q.dl ∧ q.dl ≤ 9223372036854775807
  wt : ∀ x ∈ q.xs, x.q.nm.size ≤ 140737488351232
  c0 : q.s.1 = none → q.s.2.2 = 0
set_option maxRecDepth 100000 in
theorem plan_open {H : Type} {enc : TypeId × Value → H} {W : World} {k : Nat} {cs : List Value} {y : DataW H × List MemPlace} (hlen : cs.length = 3) (h : DataW.trod enc Tryz.prog W 0 (fun _ => true) true k 24 cs = some y) (hw : ∀ k ∈ y.1.weights Tryz.prog 24, k ≤ reachBytes) :
    ∃ q : Pl, cs = q.row ∧ q.In W := by
  obtain ⟨xs, k1, hk, hxy, _, hxl, hff⟩ := DataW.trod_struct Tryz.underlying24 h
  match xs, hxl, cs, hlen with
  | [y0, y1, y2], _, [v0, v1, v2], _ =>
    have g0 := hff 0 _ rfl
    have g1 := hff 1 _ rfl
    have g2 := hff 2 _ rfl
    simp [cells_str, cells_int, cells_nodes] at g0 g1 g2
    rw [hxy] at hw
    have w2 := weigh_field Tryz.underlying24 hw (j := 2) rfl rfl
    obtain ⟨z0, rfl, s0⟩ := one_str g0
    obtain ⟨z1, rfl, c1⟩ := one_int g1
    obtain ⟨s, xs', rfl, r2, s2, s3⟩ := trod_nodes g2 w2
    exact ⟨⟨z0, z1, s, xs'⟩, rfl, r2, ⟨s0, fun x hx => Nat.le_trans (s2 x hx).1 (by decide)⟩, fun x hx => (s2 x hx).2, c1, fun x hx => (s2 x hx).1, s3⟩
set_option maxRecDepth 100000 in
theorem open_plan {H : Type} {enc : TypeId × Value → H} {W : World} {r : Reach} {b0 : Nat} {v : Value} {d : DataW H} {p : List MemPlace}
    (hv : Value.okWide Tryz.prog W r b0 24 v) (h : DataW.Trod enc Tryz.prog W 0 (fun _ => true) true 24 v d p) (hw : ∀ k ∈ d.weights Tryz.prog 24, k ≤ reachBytes) :
    ∃ q : Pl, v = .agg q.row.toArray ∧ q.In W := by
  obtain ⟨cs, rfl, hl, k, h⟩ := struct_cells Tryz.underlying24 hv h
  rw [cells_plan] at hl
  obtain ⟨q, hq, hi⟩ := plan_open hl h hw
  exact ⟨q, by rw [← hq], hi⟩
end Go.Proofs.YtfoahfgehmghcaaGreatDoor
