/- DiskOwns: a script that came in, opened, with how long its bytes are. -/
import Derived.Test.YtmaeaibphggceaaDOpn
namespace Go.Proofs.Ytmaeaibphggceaa
open Go.ChangeShapes Go.WideShapes Go.ChangeAt Go.RowKit Go.Joins Go.Deep

/-- what is known besides of a step that came in -/
def More (q : Stp) : Prop := q.b.length ≤ 140737488351232 ∧ (q.ba = none → q.bc = 0) ∧ (q.fa = none → q.fc = 0)
theorem bytes_more {H : Type} {enc : TypeId × Value → H} {W : World} {fuel : Nat} {a : Option Addr} {n c : Nat} {x : DataW H × List MemPlace}
    (h : DataW.trod enc Try.prog W 0 (fun _ => true) true fuel 26 [.slice a n c] = some x) (hw : ∀ k ∈ x.1.weights Try.prog 26, k ≤ reachBytes) : n ≤ 140737488351232 ∧ (a = none → c = 0) := by
  rcases open_ints Try.underlying26 Try.underlying5 cells_u8 h with ⟨hcs, _⟩ | ⟨y, len, cap, zs, hcs, _, hl, hm, hz, hx, hcell, hwz⟩
  · simp at hcs
    obtain ⟨rfl, rfl, rfl⟩ := hcs
    exact ⟨by decide, fun _ => rfl⟩
  · simp at hcs
    obtain ⟨rfl, rfl, rfl⟩ := hcs
    simp only [if_true] at hz
    have hreach : c ≤ 140737488351232 := by
      have := hw ((lits (H := H) .u8 (zs.take n)).length + (lits (H := H) .u8 (zs.drop n)).length) (by
        rw [hx]
        simp [DataW.weights, Try.underlying26, bytes_u8])
      simp only [lits, List.length_map, List.length_take, List.length_drop, reachBytes] at this
      omega
    exact ⟨by omega, fun e => by cases e⟩
theorem ints_more {H : Type} {enc : TypeId × Value → H} {W : World} {fuel : Nat} {a : Option Addr} {n c : Nat} {x : DataW H × List MemPlace}
    (h : DataW.trod enc Try.prog W 0 (fun _ => true) true fuel 27 [.slice a n c] = some x) : a = none → c = 0 := by
  rcases open_ints Try.underlying27 Try.underlying3 cells_int h with ⟨hcs, _⟩ | ⟨y, len, cap, zs, hcs, _, hl, hm, hz, hx, hcell, hwz⟩
  · simp at hcs
    obtain ⟨rfl, rfl, rfl⟩ := hcs
    exact fun _ => rfl
  · simp at hcs
    obtain ⟨rfl, rfl, rfl⟩ := hcs
    exact fun e => by cases e
set_option maxRecDepth 100000 in
theorem step_open2 {H : Type} {enc : TypeId × Value → H} {W : World} {k : Nat} {cs : List Value} {y : DataW H × List MemPlace} (hlen : cs.length = 8) (h : DataW.trod enc Try.prog W 0 (fun _ => true) true k 29 cs = some y) (hw : ∀ k ∈ y.1.weights Try.prog 29, k ≤ reachBytes) :
    ∃ q : Stp, cs = q.cells ∧ StpOk W q ∧ More q := by
  obtain ⟨q, rfl, ok⟩ := step_open hlen h hw
  refine ⟨q, rfl, ok, ?_⟩
  obtain ⟨xs, k1, hk, hxy, _, hxl, hff⟩ := DataW.trod_struct Try.underlying29 h
  match xs, hxl with
  | [y0, y1, y2, y3, y4, y5, y6, y7], _ =>
    have g6 := hff 6 _ rfl
    have g7 := hff 7 _ rfl
    simp [cells_sl8, cells_sli, Stp.cells] at g6 g7
    rw [hxy] at hw
    have w6 := weigh_field Try.underlying29 hw (j := 6) rfl rfl
    obtain ⟨m1, m2⟩ := bytes_more g6 w6
    exact ⟨m1, m2, ints_more g7⟩
theorem open_steps2 {H : Type} {enc : TypeId × Value → H} {W : World} {a : Option Addr} {n c : Nat} {d : DataW H} {p : List MemPlace}
    (h : DataW.Trod enc Try.prog W 0 (fun _ => true) true 22 (.slice a n c) d p) (hw : ∀ k ∈ d.weights Try.prog 22, k ≤ reachBytes) : ∃ qs, RdQ W a n qs ∧ ∀ q ∈ qs, More q := by
  obtain ⟨fuel, hf⟩ := h
  rcases open_slice Try.underlying22 hf with ⟨hcs, _⟩ | ⟨y, len, cap, m, k, D, Pl, hcs, _, hl, hm, hmm, hx, hel⟩
  · simp [Value.cells] at hcs
    obtain ⟨rfl, rfl, rfl⟩ := hcs
    exact ⟨[], ⟨rfl, by decide, (fun q hq => by cases hq), fun i hi => by cases hi⟩, fun q hq => by cases hq⟩
  · simp [Value.cells] at hcs
    obtain ⟨rfl, rfl, rfl⟩ := hcs
    simp only [if_true] at hmm
    subst hmm
    simp only [Prod.mk.injEq] at hx
    have hreach : m * 96 ≤ 140737488351232 := by
      have := hw (((((List.range n).map D).length + ((List.range (m - n)).map fun j => D (n + j)).length)) * 96) (by
        rw [hx.1]
        simp [DataW.weights, Try.underlying22, bytes_step])
      simp only [List.length_map, List.length_range, reachBytes] at this
      omega
    rw [cells_step] at hel
    obtain ⟨b, off, spot⟩ := y
    have key : ∀ i, ∃ q : Stp, i < n → (StpOk W q ∧ More q) ∧ ∀ j x, q.cells[j]? = some x → W.cell? ((⟨b, off, spot⟩ : Addr).add (i * 8 + j)) = some x := by
      intro i
      by_cases hi : i < n
      · obtain ⟨cs', h1, h2⟩ := hel i (by omega)
        obtain ⟨_, hlen, hcell⟩ := World.cells?_some h1
        have hwi : ∀ k ∈ (D i).weights Try.prog 29, k ≤ reachBytes := fun k hk => hw k (by
          rw [hx.1]
          simp only [DataW.weights, Try.underlying22, List.mem_cons, List.mem_append]
          exact .inr (.inl (mem_weightsAll (d := D i) (List.mem_map.2 ⟨i, List.mem_range.2 hi, rfl⟩) hk)))
        obtain ⟨q, hq1, hq2⟩ := step_open2 hlen h2 hwi
        refine ⟨q, fun _ => ⟨hq2, fun j x hjx => ?_⟩⟩
        have hj : j < 8 := (List.getElem?_eq_some_iff.1 hjx).1
        have := hcell j hj
        rw [add_add] at this
        rw [this, hq1]; exact hjx
      · exact ⟨⟨0, false, 0, 0, 0, 0, [], [], none, 0, none, 0⟩, fun h => absurd h hi⟩
    obtain ⟨f, hf'⟩ := Classical.axiomOfChoice key
    refine ⟨(List.range n).map f, ⟨by simp, by omega, fun q hq => ?_, fun i hi => ?_⟩, fun q hq => ?_⟩
    · obtain ⟨i, hi, rfl⟩ := List.mem_map.1 hq
      exact (hf' i (List.mem_range.1 hi)).1.1
    · rw [List.length_map, List.length_range] at hi
      obtain ⟨_, hc⟩ := hf' i hi
      have hspot : spot = none := by simpa [Addr.add] using World.cell?_spot ((hf' 0 (by omega)).2 0 _ rfl)
      subst hspot
      have hadd : ∀ x, (⟨b, off, none⟩ : Addr).add x = ⟨b, off + x, none⟩ := fun x => by unfold Addr.add; split <;> simp_all
      have hc' : ∀ jj x, (f i).cells[jj]? = some x → W.cell? ⟨b, off + i * 8 + jj, none⟩ = some x := fun jj x hx => by
        have := hc jj x hx
        rw [hadd] at this
        rw [Nat.add_assoc]; exact this
      simp only [List.getElem_map, List.getElem_range]
      exact ⟨b, off, rfl, hc' 0 _ rfl, hc' 1 _ rfl, hc' 2 _ rfl, hc' 3 _ rfl, hc' 4 _ rfl, hc' 5 _ rfl, hc' 6 _ rfl, hc' 7 _ rfl⟩
    · obtain ⟨i, hi, rfl⟩ := List.mem_map.1 hq
      exact (hf' i (List.mem_range.1 hi)).1.2
end Go.Proofs.Ytmaeaibphggceaa
