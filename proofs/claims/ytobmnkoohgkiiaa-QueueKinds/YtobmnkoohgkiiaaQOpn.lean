/- Scripts of chapter 8 that came in, opened; what every row of chapter 8 wants. -/
import Derived.Test.YtobmnkoohgkiiaaQLft
import Derived.Test.YtobmnkoohgkiiaaQFil
namespace Go.Proofs.Ytobmnkoohgkiiaa
open Go.ChangeShapes Go.WideShapes Go.ChangeAt Go.RowKit Go.Joins Go.Deep

theorem cells_int : Try.prog.cellsOf 3 = 1 := by kernel_rfl
theorem bytes_step : Try.prog.bytesOf 42 = 24 := by kernel_rfl
theorem cells_step : Try.prog.cellsOf 42 = 3 := by kernel_rfl
/-- the weights of one argument -/
theorem weigh {H : Type} {ts : List TypeId} {ds : List (DataW H)} (h : (DataW.weightsEach Try.prog ts ds).all (· ≤ reachBytes) = true) {j : Nat} {t : TypeId} {d : DataW H} (ht : ts[j]? = some t) (hd : ds[j]? = some d) : ∀ k ∈ d.weights Try.prog t, k ≤ reachBytes := fun k hk => by
  have := List.all_eq_true.1 h _ (DataW.weights_mem_each ht hd k hk)
  simpa using this
theorem one_int {H : Type} {enc : TypeId × Value → H} {W : World} {base : Nat} {sp : Nat → Bool} {held : Bool} {n : Nat} {v : Value} {y : DataW H × List MemPlace} (h : DataW.trod enc Try.prog W base sp held n 3 [v] = some y) :
    ∃ z : Int, v = .int .i64 z ∧ -9223372036854775808 ≤ z ∧ z ≤ 9223372036854775807 := by
  obtain ⟨z, e, _, wf⟩ := DataW.trod_int Try.underlying3 h
  have b := bounds_i64 wf
  exact ⟨z, by simpa using e, by omega, by omega⟩
set_option maxRecDepth 100000 in
/-- one step, by its cells -/
theorem step_open {H : Type} {enc : TypeId × Value → H} {W : World} {k : Nat} {cs : List Value} {y : DataW H × List MemPlace} (hlen : cs.length = 3) (h : DataW.trod enc Try.prog W 0 (fun _ => true) true k 42 cs = some y) :
    ∃ q : Qu.Sp, cs = [.int .i64 q.1, .int .i64 q.2.1, .int .i64 q.2.2] ∧ Qu.Sp.In q := by
  obtain ⟨xs, k1, hk, hxy, _, hxl, hff⟩ := DataW.trod_struct Try.underlying42 h
  match xs, hxl, cs, hlen with
  | [y0, y1, y2], _, [v0, v1, v2], _ =>
    have g0 := hff 0 _ rfl
    have g1 := hff 1 _ rfl
    have g2 := hff 2 _ rfl
    simp [cells_int] at g0 g1 g2
    obtain ⟨z0, rfl, b0, c0⟩ := one_int g0
    obtain ⟨z1, rfl, b1, c1⟩ := one_int g1
    obtain ⟨z2, rfl, b2, c2⟩ := one_int g2
    exact ⟨(z0, z1, z2), rfl, ⟨b0, c0⟩, ⟨b1, c1⟩, ⟨b2, c2⟩⟩

theorem open_steps {H : Type} {enc : TypeId × Value → H} {W : World} {a : Option Addr} {n c : Nat} {d : DataW H} {p : List MemPlace}
    (h : DataW.Trod enc Try.prog W 0 (fun _ => true) true 22 (.slice a n c) d p) (hw : ∀ k ∈ d.weights Try.prog 22, k ≤ reachBytes) : ∃ qs, Qu.RdQ W.heap.size W a n qs := by
  obtain ⟨fuel, hf⟩ := h
  rcases open_slice Try.underlying22 hf with ⟨hcs, _⟩ | ⟨y, len, cap, m, k, D, Pl, hcs, _, hl, hm, hmm, hx, hel⟩
  · simp [Value.cells] at hcs
    obtain ⟨rfl, rfl, rfl⟩ := hcs
    exact ⟨[], rfl, by decide, (fun q hq => by cases hq), fun j x hj => by simp at hj⟩
  · simp [Value.cells] at hcs
    obtain ⟨rfl, rfl, rfl⟩ := hcs
    simp only [if_true] at hmm
    subst hmm
    simp only [Prod.mk.injEq] at hx
    have hreach : m * 24 ≤ 140737488351232 := by
      have := hw (((((List.range n).map D).length + ((List.range (m - n)).map fun j => D (n + j)).length)) * 24) (by
        rw [hx.1]
        simp [DataW.weights, Try.underlying22, bytes_step])
      simp only [List.length_map, List.length_range, reachBytes] at this
      omega
    rw [cells_step] at hel
    obtain ⟨b, off, spot⟩ := y
    have key : ∀ i, ∃ q : Qu.Sp, i < n → Qu.Sp.In q ∧ ∀ j x, ([.int .i64 q.1, .int .i64 q.2.1, .int .i64 q.2.2] : List Value)[j]? = some x → W.cell? ((⟨b, off, spot⟩ : Addr).add (i * 3 + j)) = some x := by
      intro i
      by_cases hi : i < n
      · obtain ⟨cs', h1, h2⟩ := hel i (by omega)
        obtain ⟨_, hlen, hcell⟩ := World.cells?_some h1
        obtain ⟨q, hq1, hq2⟩ := step_open hlen h2
        refine ⟨q, fun _ => ⟨hq2, fun j x hjx => ?_⟩⟩
        have hj : j < 3 := (List.getElem?_eq_some_iff.1 hjx).1
        have := hcell j hj
        rw [add_add] at this
        rw [this, hq1]; exact hjx
      · exact ⟨(0, 0, 0), fun h => absurd h hi⟩
    obtain ⟨f, hf'⟩ := Classical.axiomOfChoice key
    refine ⟨(List.range n).map f, by simp, by simp; omega, fun q hq => ?_, fun i x hi => ?_⟩
    · obtain ⟨i, hi, rfl⟩ := List.mem_map.1 hq
      exact (hf' i (List.mem_range.1 hi)).1
    · have hin : i < n := by have := (List.getElem?_eq_some_iff.1 hi).1; simpa using this
      have hxe : x = f i := by
        rw [List.getElem?_map, List.getElem?_range hin] at hi
        simpa using hi.symm
      subst hxe
      obtain ⟨_, hc⟩ := hf' i hin
      have hspot : spot = none := by simpa [Addr.add] using World.cell?_spot ((hf' 0 (by omega)).2 0 _ rfl)
      subst hspot
      have hc' : ∀ jj x, ([.int .i64 (f i).1, .int .i64 (f i).2.1, .int .i64 (f i).2.2] : List Value)[jj]? = some x → W.cell? ⟨b, off + i * 3 + jj, none⟩ = some x := fun jj x hx => by
        have := hc jj x hx
        rw [Addr.add_mid] at this
        rw [Nat.add_assoc]; exact this
      exact ⟨b, off, rfl, block_lt_of_cell (hc' 0 _ rfl), hc' 0 _ rfl, hc' 1 _ rfl, hc' 2 _ rfl⟩

end Go.Proofs.Ytobmnkoohgkiiaa
