import Derived.Test.YtilpidioengnbaaRows
import Derived.Test.YtilpidioengnbaaDScr
import Derived.ProofKit
import Derived.OpenShut
import Derived.ChangeOld
import Derived.Below
import Derived.WalkSpells
import Derived.Lib.SmallJoins
import Derived.SizedLaws
import Derived.Deep.Fields
import Derived.Deep.Slices
/- Scripts that came in, opened. -/
namespace Go.Proofs.Ytilpidioengnbaa
open Go.ChangeShapes Go.WideShapes Go.ChangeAt Go.RowKit Go.Joins Go.Deep

theorem own : ownKnob Try.prog.godebug = none := by kernel_rfl
theorem laidOut : laidOutB Try.prog = true := by kernel_rfl
theorem bytes_u8 : Try.prog.bytesOf 5 = 1 := by kernel_rfl
theorem cells_u8 : Try.prog.cellsOf 5 = 1 := by kernel_rfl
theorem bytes_int : Try.prog.bytesOf 3 = 8 := by kernel_rfl
theorem cells_int : Try.prog.cellsOf 3 = 1 := by kernel_rfl
theorem cells_bool : Try.prog.cellsOf 4 = 1 := by kernel_rfl
theorem cells_sl8 : Try.prog.cellsOf 33 = 1 := by kernel_rfl
theorem cells_sli : Try.prog.cellsOf 34 = 1 := by kernel_rfl
theorem bytes_step : Try.prog.bytesOf 36 = 96 := by kernel_rfl
theorem cells_step : Try.prog.cellsOf 36 = 8 := by kernel_rfl

/-- the weights of one argument -/
theorem weigh {H : Type} {ts : List TypeId} {ds : List (DataW H)} (h : (DataW.weightsEach Try.prog ts ds).all (· ≤ reachBytes) = true) {j : Nat} {t : TypeId} {d : DataW H} (ht : ts[j]? = some t) (hd : ds[j]? = some d) : ∀ k ∈ d.weights Try.prog t, k ≤ reachBytes := fun k hk => by
  have := List.all_eq_true.1 h _ (DataW.weights_mem_each ht hd k hk)
  simpa using this
/-- the weights of a field -/
theorem weigh_field {H : Type} {t : TypeId} {fs : Array Field} {parts : List (DataW H)} (hs : Try.prog.underlying t = some (.struct fs)) (h : ∀ k ∈ (DataW.agg parts).weights Try.prog t, k ≤ reachBytes) {j : Nat} {f : TypeId} {d : DataW H} (hf : (fs.toList.map (·.type))[j]? = some f) (hd : parts[j]? = some d) : ∀ k ∈ d.weights Try.prog f, k ≤ reachBytes := fun k hk => by
  refine h k ?_
  simp only [DataW.weights, hs]
  exact DataW.weights_mem_each hf hd k hk
theorem mem_weightsAll {H : Type} {P : Program} {e : TypeId} : ∀ {l : List (DataW H)} {d : DataW H} {k : Nat}, d ∈ l → k ∈ d.weights P e → k ∈ DataW.weightsAll P e l := by
  intro l
  induction l with
  | nil => intro d k h; cases h
  | cons x r ih =>
    intro d k h hk
    simp only [DataW.weightsAll, List.mem_append]
    rcases List.mem_cons.1 h with rfl | h
    · exact .inl hk
    · exact .inr (ih h hk)

theorem trod_bytes {H : Type} {enc : TypeId × Value → H} {W : World} {fuel : Nat} {v : Value} {x : DataW H × List MemPlace}
    (h : DataW.trod enc Try.prog W 0 (fun _ => true) true fuel 33 [v] = some x) (hw : ∀ k ∈ x.1.weights Try.prog 33, k ≤ reachBytes) : ∃ a c l, v = .slice a l.length c ∧ Rd W a l.length l := by
  rcases open_ints Try.underlying33 Try.underlying5 cells_u8 h with ⟨hcs, _⟩ | ⟨y, len, cap, zs, hcs, _, hl, hm, hz, hx, hcell, hwz⟩
  · simp at hcs
    exact ⟨none, 0, [], hcs, ⟨rfl, by decide, by simp, .inl rfl⟩⟩
  · simp at hcs
    simp only [if_true] at hz
    have hreach : cap ≤ 140737488351232 := by
      have := hw ((lits (H := H) .u8 (zs.take len)).length + (lits (H := H) .u8 (zs.drop len)).length) (by
        rw [hx]
        simp [DataW.weights, Try.underlying33, bytes_u8])
      simp only [lits, List.length_map, List.length_take, List.length_drop, reachBytes] at this
      omega
    have hbd : ∀ i, 0 ≤ zs.getD i 0 ∧ zs.getD i 0 ≤ 255 := fun i => by
      rw [List.getD_eq_getElem?_getD]; exact range_u8 hwz i
    have hll : ((zs.take len).map Int.toNat).length = len := by simp; omega
    refine ⟨some y, cap, (zs.take len).map Int.toNat, by rw [hll]; exact hcs, ?_⟩
    rw [hll]
    refine ⟨hll.symm, by omega, ?_, ?_⟩
    · intro d hd
      simp only [List.mem_map] at hd
      obtain ⟨z, hz', rfl⟩ := hd
      have := bounds_u8 (hwz z (List.mem_of_mem_take hz'))
      omega
    · by_cases h0 : len = 0
      · exact .inl h0
      · right
        obtain ⟨b, off, spot⟩ := y
        have hspot : spot = none := by simpa [Addr.add] using World.cell?_spot (hcell 0 (by omega))
        subst hspot
        refine ⟨b, off, rfl, fun i hi => ?_⟩
        have hadd : (⟨b, off, none⟩ : Addr).add i = ⟨b, off + i, none⟩ := by unfold Addr.add; split <;> simp_all
        rw [← hadd, hcell i (by omega)]
        have hbi := hbd i
        have e : ((zs.take len).map Int.toNat).getD i 0 = (zs.getD i 0).toNat := by
          simp only [List.getD_eq_getElem?_getD, List.getElem?_map, List.getElem?_take, if_pos hi]
          rw [List.getElem?_eq_getElem (show i < zs.length by omega)]
          rfl
        rw [e, Int.toNat_of_nonneg hbi.1]

theorem trod_ints {H : Type} {enc : TypeId × Value → H} {W : World} {fuel : Nat} {v : Value} {x : DataW H × List MemPlace}
    (h : DataW.trod enc Try.prog W 0 (fun _ => true) true fuel 34 [v] = some x) (hw : ∀ k ∈ x.1.weights Try.prog 34, k ≤ reachBytes) : ∃ a c l, v = .slice a l.length c ∧ Rz W a l.length l := by
  rcases open_ints Try.underlying34 Try.underlying3 cells_int h with ⟨hcs, _⟩ | ⟨y, len, cap, zs, hcs, _, hl, hm, hz, hx, hcell, hwz⟩
  · simp at hcs
    exact ⟨none, 0, [], hcs, ⟨rfl, by decide, by simp, .inl rfl⟩⟩
  · simp at hcs
    simp only [if_true] at hz
    have hreach : cap * 8 ≤ 140737488351232 := by
      have := hw (((lits (H := H) .i64 (zs.take len)).length + (lits (H := H) .i64 (zs.drop len)).length) * 8) (by
        rw [hx]
        simp [DataW.weights, Try.underlying34, bytes_int])
      simp only [lits, List.length_map, List.length_take, List.length_drop, reachBytes] at this
      omega
    have hll : (zs.take len).length = len := by simp; omega
    refine ⟨some y, cap, zs.take len, by rw [hll]; exact hcs, ?_⟩
    rw [hll]
    refine ⟨hll.symm, by omega, fun d hd => ?_, ?_⟩
    · have := bounds_i64 (hwz d (List.mem_of_mem_take hd))
      omega
    · by_cases h0 : len = 0
      · exact .inl h0
      · right
        obtain ⟨b, off, spot⟩ := y
        have hspot : spot = none := by simpa [Addr.add] using World.cell?_spot (hcell 0 (by omega))
        subst hspot
        refine ⟨b, off, rfl, fun i hi => ?_⟩
        have hadd : (⟨b, off, none⟩ : Addr).add i = ⟨b, off + i, none⟩ := by unfold Addr.add; split <;> simp_all
        rw [← hadd, hcell i (by omega)]
        rw [List.getD_eq_getElem?_getD, List.getD_eq_getElem?_getD, List.getElem?_take, if_pos hi]

theorem one_int {H : Type} {enc : TypeId × Value → H} {W : World} {base : Nat} {sp : Nat → Bool} {held : Bool} {n : Nat} {v : Value} {y : DataW H × List MemPlace} (h : DataW.trod enc Try.prog W base sp held n 3 [v] = some y) :
    ∃ z : Int, v = .int .i64 z ∧ -9223372036854775808 ≤ z ∧ z ≤ 9223372036854775807 := by
  obtain ⟨z, e, _, wf⟩ := DataW.trod_int Try.underlying3 h
  have b := bounds_i64 wf
  exact ⟨z, by simpa using e, by omega, by omega⟩
theorem one_u8 {H : Type} {enc : TypeId × Value → H} {W : World} {base : Nat} {sp : Nat → Bool} {held : Bool} {n : Nat} {v : Value} {y : DataW H × List MemPlace} (h : DataW.trod enc Try.prog W base sp held n 5 [v] = some y) :
    ∃ z : Nat, v = .int .u8 (z : Nat) ∧ z < 256 := by
  obtain ⟨z, e, _, wf⟩ := DataW.trod_int Try.underlying5 h
  have b := bounds_u8 wf
  exact ⟨z.toNat, by rw [show ((z.toNat : Nat) : Int) = z by omega]; simpa using e, by omega⟩
theorem one_bool {H : Type} {enc : TypeId × Value → H} {W : World} {base : Nat} {sp : Nat → Bool} {held : Bool} {n : Nat} {v : Value} {y : DataW H × List MemPlace} (h : DataW.trod enc Try.prog W base sp held n 4 [v] = some y) : ∃ z : Bool, v = .bool z := by
  obtain ⟨z, e, _⟩ := DataW.trod_bool Try.underlying4 h
  exact ⟨z, by simpa using e⟩

/-- a step's cells in memory -/
def StpIn (w : World) (b o : Nat) (q : Stp) : Prop :=
  w.cell? ⟨b, o, none⟩ = some (.int .i64 q.which) ∧ w.cell? ⟨b, o + 1, none⟩ = some (.bool q.copy) ∧ w.cell? ⟨b, o + 2, none⟩ = some (.int .i64 q.what) ∧ w.cell? ⟨b, o + 3, none⟩ = some (.int .i64 q.seg) ∧ w.cell? ⟨b, o + 4, none⟩ = some (.int .i64 q.n) ∧
    w.cell? ⟨b, o + 5, none⟩ = some (.int .u8 (q.mask : Nat)) ∧ w.cell? ⟨b, o + 6, none⟩ = some (.slice q.ba q.b.length q.bc) ∧ w.cell? ⟨b, o + 7, none⟩ = some (.slice q.fa q.fate.length q.fc)

set_option maxRecDepth 100000 in
/-- one step, by its cells -/
theorem step_open {H : Type} {enc : TypeId × Value → H} {W : World} {k : Nat} {cs : List Value} {y : DataW H × List MemPlace} (hlen : cs.length = 8) (h : DataW.trod enc Try.prog W 0 (fun _ => true) true k 36 cs = some y) (hw : ∀ k ∈ y.1.weights Try.prog 36, k ≤ reachBytes) :
    ∃ q : Stp, cs = q.cells ∧ StpOk W q := by
  obtain ⟨xs, k1, hk, hxy, _, hxl, hff⟩ := DataW.trod_struct Try.underlying36 h
  match xs, hxl, cs, hlen with
  | [y0, y1, y2, y3, y4, y5, y6, y7], _, [v0, v1, v2, v3, v4, v5, v6, v7], _ =>
    have g0 := hff 0 _ rfl
    have g1 := hff 1 _ rfl
    have g2 := hff 2 _ rfl
    have g3 := hff 3 _ rfl
    have g4 := hff 4 _ rfl
    have g5 := hff 5 _ rfl
    have g6 := hff 6 _ rfl
    have g7 := hff 7 _ rfl
    simp [cells_int, cells_bool, cells_u8, cells_sl8, cells_sli] at g0 g1 g2 g3 g4 g5 g6 g7
    rw [hxy] at hw
    have w6 := weigh_field Try.underlying36 hw (j := 6) rfl rfl
    have w7 := weigh_field Try.underlying36 hw (j := 7) rfl rfl
    obtain ⟨z0, rfl, b0, c0⟩ := one_int g0
    obtain ⟨z1, rfl⟩ := one_bool g1
    obtain ⟨z2, rfl, b2, c2⟩ := one_int g2
    obtain ⟨z3, rfl, b3, c3⟩ := one_int g3
    obtain ⟨z4, rfl, b4, c4⟩ := one_int g4
    obtain ⟨z5, rfl, b5⟩ := one_u8 g5
    obtain ⟨a6, c6, l6, rfl, r6⟩ := trod_bytes g6 w6
    obtain ⟨a7, c7, l7, rfl, r7⟩ := trod_ints g7 w7
    exact ⟨⟨z0, z1, z2, z3, z4, z5, l6, l7, a6, c6, a7, c7⟩, rfl, ⟨⟨b0, c0⟩, ⟨b2, c2⟩, ⟨b3, c3⟩, ⟨b4, c4⟩, b5, r6, r7⟩⟩

theorem open_steps {H : Type} {enc : TypeId × Value → H} {W : World} {a : Option Addr} {n c : Nat} {d : DataW H} {p : List MemPlace}
    (h : DataW.Trod enc Try.prog W 0 (fun _ => true) true 22 (.slice a n c) d p) (hw : ∀ k ∈ d.weights Try.prog 22, k ≤ reachBytes) : ∃ qs, RdQ W a n qs := by
  obtain ⟨fuel, hf⟩ := h
  rcases open_slice Try.underlying22 hf with ⟨hcs, _⟩ | ⟨y, len, cap, m, k, D, Pl, hcs, _, hl, hm, hmm, hx, hel⟩
  · simp [Value.cells] at hcs
    obtain ⟨rfl, rfl, rfl⟩ := hcs
    exact ⟨[], rfl, by decide, (fun q hq => by cases hq), fun i hi => by cases hi⟩
  · simp [Value.cells] at hcs
    obtain ⟨rfl, rfl, rfl⟩ := hcs
    simp only [if_true] at hmm
    subst hmm
    simp only [Prod.mk.injEq] at hx
    have hreach : m * 96 ≤ 140737488351232 := by
      have := hw (((((List.range n).map D).length + ((List.range (m - n)).map fun j => D (n + j)).length)) * 96) (by
        rw [hx.1]
        simp [DataW.weights, Try.underlying22, bytes_step])
      simp only [List.length_map, List.length_range, reachBytes] at this
      omega
    rw [cells_step] at hel
    obtain ⟨b, off, spot⟩ := y
    have key : ∀ i, ∃ q : Stp, i < n → StpOk W q ∧ ∀ j x, q.cells[j]? = some x → W.cell? ((⟨b, off, spot⟩ : Addr).add (i * 8 + j)) = some x := by
      intro i
      by_cases hi : i < n
      · obtain ⟨cs', h1, h2⟩ := hel i (by omega)
        obtain ⟨_, hlen, hcell⟩ := World.cells?_some h1
        have hwi : ∀ k ∈ (D i).weights Try.prog 36, k ≤ reachBytes := fun k hk => hw k (by
          rw [hx.1]
          simp only [DataW.weights, Try.underlying22, List.mem_cons, List.mem_append]
          exact .inr (.inl (mem_weightsAll (d := D i) (List.mem_map.2 ⟨i, List.mem_range.2 hi, rfl⟩) hk)))
        obtain ⟨q, hq1, hq2⟩ := step_open hlen h2 hwi
        refine ⟨q, fun _ => ⟨hq2, fun j x hjx => ?_⟩⟩
        have hj : j < 8 := (List.getElem?_eq_some_iff.1 hjx).1
        have := hcell j hj
        rw [add_add] at this
        rw [this, hq1]; exact hjx
      · exact ⟨⟨0, false, 0, 0, 0, 0, [], [], none, 0, none, 0⟩, fun h => absurd h hi⟩
    obtain ⟨f, hf'⟩ := Classical.axiomOfChoice key
    refine ⟨(List.range n).map f, by simp, by omega, fun q hq => ?_, fun i hi => ?_⟩
    · obtain ⟨i, hi, rfl⟩ := List.mem_map.1 hq
      exact (hf' i (List.mem_range.1 hi)).1
    · rw [List.length_map, List.length_range] at hi
      obtain ⟨_, hc⟩ := hf' i hi
      have hspot : spot = none := by simpa [Addr.add] using World.cell?_spot ((hf' 0 (by omega)).2 0 _ rfl)
      subst hspot
      have hadd : ∀ x, (⟨b, off, none⟩ : Addr).add x = ⟨b, off + x, none⟩ := fun x => by unfold Addr.add; split <;> simp_all
      have hc' : ∀ jj x, (f i).cells[jj]? = some x → W.cell? ⟨b, off + i * 8 + jj, none⟩ = some x := fun jj x hx => by
        have := hc jj x hx
        rw [hadd] at this
        rw [Nat.add_assoc]; exact this
      simp only [List.getElem_map, List.getElem_range]
      exact ⟨b, off, rfl, hc' 0 _ rfl, hc' 1 _ rfl, hc' 2 _ rfl, hc' 3 _ rfl, hc' 4 _ rfl, hc' 5 _ rfl, hc' 6 _ rfl, hc' 7 _ rfl⟩

theorem open_fate {H : Type} {enc : TypeId × Value → H} {W : World} {a : Option Addr} {n c : Nat} {d : DataW H} {p : List MemPlace}
    (h : DataW.Trod enc Try.prog W 0 (fun _ => true) true 34 (.slice a n c) d p) (hw : ∀ k ∈ d.weights Try.prog 34, k ≤ reachBytes) : ∃ z, Rz W a n z := by
  obtain ⟨fuel, hf⟩ := h
  simp only [Value.cells] at hf
  obtain ⟨a', c', l, e, hr⟩ := trod_ints (v := .slice a n c) hf hw
  injection e with e1 e2 e3
  subst e1 e2 e3
  exact ⟨l, hr⟩

end Go.Proofs.Ytilpidioengnbaa

/- DiskOwns: a script that came in, opened, with how long its bytes are. -/
namespace Go.Proofs.Ytilpidioengnbaa
open Go.ChangeShapes Go.WideShapes Go.ChangeAt Go.RowKit Go.Joins Go.Deep

/-- what is known besides of a step that came in -/
def More (q : Stp) : Prop := q.b.length ≤ 140737488351232 ∧ (q.ba = none → q.bc = 0) ∧ (q.fa = none → q.fc = 0)
theorem bytes_more {H : Type} {enc : TypeId × Value → H} {W : World} {fuel : Nat} {a : Option Addr} {n c : Nat} {x : DataW H × List MemPlace}
    (h : DataW.trod enc Try.prog W 0 (fun _ => true) true fuel 33 [.slice a n c] = some x) (hw : ∀ k ∈ x.1.weights Try.prog 33, k ≤ reachBytes) : n ≤ 140737488351232 ∧ (a = none → c = 0) := by
  rcases open_ints Try.underlying33 Try.underlying5 cells_u8 h with ⟨hcs, _⟩ | ⟨y, len, cap, zs, hcs, _, hl, hm, hz, hx, hcell, hwz⟩
  · simp at hcs
    obtain ⟨rfl, rfl, rfl⟩ := hcs
    exact ⟨by decide, fun _ => rfl⟩
  · simp at hcs
    obtain ⟨rfl, rfl, rfl⟩ := hcs
    simp only [if_true] at hz
    have hreach : c ≤ 140737488351232 := by
      have := hw ((lits (H := H) .u8 (zs.take n)).length + (lits (H := H) .u8 (zs.drop n)).length) (by
        rw [hx]
        simp [DataW.weights, Try.underlying33, bytes_u8])
      simp only [lits, List.length_map, List.length_take, List.length_drop, reachBytes] at this
      omega
    exact ⟨by omega, fun e => by cases e⟩
theorem ints_more {H : Type} {enc : TypeId × Value → H} {W : World} {fuel : Nat} {a : Option Addr} {n c : Nat} {x : DataW H × List MemPlace}
    (h : DataW.trod enc Try.prog W 0 (fun _ => true) true fuel 34 [.slice a n c] = some x) : a = none → c = 0 := by
  rcases open_ints Try.underlying34 Try.underlying3 cells_int h with ⟨hcs, _⟩ | ⟨y, len, cap, zs, hcs, _, hl, hm, hz, hx, hcell, hwz⟩
  · simp at hcs
    obtain ⟨rfl, rfl, rfl⟩ := hcs
    exact fun _ => rfl
  · simp at hcs
    obtain ⟨rfl, rfl, rfl⟩ := hcs
    exact fun e => by cases e
set_option maxRecDepth 100000 in
theorem step_open2 {H : Type} {enc : TypeId × Value → H} {W : World} {k : Nat} {cs : List Value} {y : DataW H × List MemPlace} (hlen : cs.length = 8) (h : DataW.trod enc Try.prog W 0 (fun _ => true) true k 36 cs = some y) (hw : ∀ k ∈ y.1.weights Try.prog 36, k ≤ reachBytes) :
    ∃ q : Stp, cs = q.cells ∧ StpOk W q ∧ More q := by
  obtain ⟨q, rfl, ok⟩ := step_open hlen h hw
  refine ⟨q, rfl, ok, ?_⟩
  obtain ⟨xs, k1, hk, hxy, _, hxl, hff⟩ := DataW.trod_struct Try.underlying36 h
  match xs, hxl with
  | [y0, y1, y2, y3, y4, y5, y6, y7], _ =>
    have g6 := hff 6 _ rfl
    have g7 := hff 7 _ rfl
    simp [cells_sl8, cells_sli, Stp.cells] at g6 g7
    rw [hxy] at hw
    have w6 := weigh_field Try.underlying36 hw (j := 6) rfl rfl
    obtain ⟨m1, m2⟩ := bytes_more g6 w6
    exact ⟨m1, m2, ints_more g7⟩
theorem open_steps2 {H : Type} {enc : TypeId × Value → H} {W : World} {a : Option Addr} {n c : Nat} {d : DataW H} {p : List MemPlace}
    (h : DataW.Trod enc Try.prog W 0 (fun _ => true) true 22 (.slice a n c) d p) (hw : ∀ k ∈ d.weights Try.prog 22, k ≤ reachBytes) : ∃ qs, RdQ W a n qs ∧ ∀ q ∈ qs, More q := by
  obtain ⟨fuel, hf⟩ := h
  rcases open_slice Try.underlying22 hf with ⟨hcs, _⟩ | ⟨y, len, cap, m, k, D, Pl, hcs, _, hl, hm, hmm, hx, hel⟩
  · simp [Value.cells] at hcs
    obtain ⟨rfl, rfl, rfl⟩ := hcs
    exact ⟨[], ⟨rfl, by decide, (fun q hq => by cases hq), fun i hi => by cases hi⟩, fun q hq => by cases hq⟩
  · simp [Value.cells] at hcs
    obtain ⟨rfl, rfl, rfl⟩ := hcs
    simp only [if_true] at hmm
    subst hmm
    simp only [Prod.mk.injEq] at hx
    have hreach : m * 96 ≤ 140737488351232 := by
      have := hw (((((List.range n).map D).length + ((List.range (m - n)).map fun j => D (n + j)).length)) * 96) (by
        rw [hx.1]
        simp [DataW.weights, Try.underlying22, bytes_step])
      simp only [List.length_map, List.length_range, reachBytes] at this
      omega
    rw [cells_step] at hel
    obtain ⟨b, off, spot⟩ := y
    have key : ∀ i, ∃ q : Stp, i < n → (StpOk W q ∧ More q) ∧ ∀ j x, q.cells[j]? = some x → W.cell? ((⟨b, off, spot⟩ : Addr).add (i * 8 + j)) = some x := by
      intro i
      by_cases hi : i < n
      · obtain ⟨cs', h1, h2⟩ := hel i (by omega)
        obtain ⟨_, hlen, hcell⟩ := World.cells?_some h1
        have hwi : ∀ k ∈ (D i).weights Try.prog 36, k ≤ reachBytes := fun k hk => hw k (by
          rw [hx.1]
          simp only [DataW.weights, Try.underlying22, List.mem_cons, List.mem_append]
          exact .inr (.inl (mem_weightsAll (d := D i) (List.mem_map.2 ⟨i, List.mem_range.2 hi, rfl⟩) hk)))
        obtain ⟨q, hq1, hq2⟩ := step_open2 hlen h2 hwi
        refine ⟨q, fun _ => ⟨hq2, fun j x hjx => ?_⟩⟩
        have hj : j < 8 := (List.getElem?_eq_some_iff.1 hjx).1
        have := hcell j hj
        rw [add_add] at this
        rw [this, hq1]; exact hjx
      · exact ⟨⟨0, false, 0, 0, 0, 0, [], [], none, 0, none, 0⟩, fun h => absurd h hi⟩
    obtain ⟨f, hf'⟩ := Classical.axiomOfChoice key
    refine ⟨(List.range n).map f, ⟨by simp, by omega, fun q hq => ?_, fun i hi => ?_⟩, fun q hq => ?_⟩
    · obtain ⟨i, hi, rfl⟩ := List.mem_map.1 hq
      exact (hf' i (List.mem_range.1 hi)).1.1
    · rw [List.length_map, List.length_range] at hi
      obtain ⟨_, hc⟩ := hf' i hi
      have hspot : spot = none := by simpa [Addr.add] using World.cell?_spot ((hf' 0 (by omega)).2 0 _ rfl)
      subst hspot
      have hadd : ∀ x, (⟨b, off, none⟩ : Addr).add x = ⟨b, off + x, none⟩ := fun x => by unfold Addr.add; split <;> simp_all
      have hc' : ∀ jj x, (f i).cells[jj]? = some x → W.cell? ⟨b, off + i * 8 + jj, none⟩ = some x := fun jj x hx => by
        have := hc jj x hx
        rw [hadd] at this
        rw [Nat.add_assoc]; exact this
      simp only [List.getElem_map, List.getElem_range]
      exact ⟨b, off, rfl, hc' 0 _ rfl, hc' 1 _ rfl, hc' 2 _ rfl, hc' 3 _ rfl, hc' 4 _ rfl, hc' 5 _ rfl, hc' 6 _ rfl, hc' 7 _ rfl⟩
    · obtain ⟨i, hi, rfl⟩ := List.mem_map.1 hq
      exact (hf' i (List.mem_range.1 hi)).1.2
end Go.Proofs.Ytilpidioengnbaa
