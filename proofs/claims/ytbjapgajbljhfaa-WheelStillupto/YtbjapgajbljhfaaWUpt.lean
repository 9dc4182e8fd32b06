/- What every bounded row of chapter 7 wants: slices of numbers that came in. -/
import Derived.Test.YtbjapgajbljhfaaWLft
import Derived.Test.YtbjapgajbljhfaaWFil
import Derived.JoinedCond
namespace Go.Proofs.Ytbjapgajbljhfaa
open Go.ChangeShapes Go.WideShapes Go.ChangeAt Go.RowKit Go.Joins Go.Deep

theorem cells_int : Try.prog.cellsOf 3 = 1 := by kernel_rfl
theorem bulk_pos {H : Type} (d : DataW H) : 0 < Rows.uptoBulk d := by
  cases d with
  | lit l => cases l <;> simp [Rows.uptoBulk]
  | _ => simp [Rows.uptoBulk]
theorem bulk_many {H : Type} : ∀ l : List (DataW H), l.length ≤ Rows.uptoBulkAll l
  | [] => Nat.zero_le _
  | d :: r => by
    have h1 := bulk_pos d
    have h2 := bulk_many r
    simp only [Rows.uptoBulkAll, List.length_cons]
    omega
theorem bulk_mem {H : Type} {d : DataW H} : ∀ {l : List (DataW H)}, d ∈ l → Rows.uptoBulk d ≤ Rows.uptoBulkAll l
  | x :: r, h => by
    simp only [Rows.uptoBulkAll]
    rcases List.mem_cons.1 h with rfl | h
    · omega
    · have := bulk_mem h; omega

theorem open_nums {H : Type} {enc : TypeId × Value → H} {W : World} {a : Option Addr} {n c : Nat} {d : DataW H} {p : List MemPlace}
    (h : DataW.Trod enc Try.prog W 0 (fun _ => true) true 22 (.slice a n c) d p) (hb : Rows.uptoBulk d ≤ 1048576) : ∃ z, Wh.Rz W a n z := by
  obtain ⟨fuel, hf⟩ := h
  simp only [Value.cells] at hf
  rcases open_ints Try.underlying22 Try.underlying3 cells_int hf with ⟨hcs, _⟩ | ⟨y, len, cap, zs, hcs, _, hl, hm, hz, hx, hcell, hwz⟩
  · simp at hcs
    obtain ⟨rfl, rfl, rfl⟩ := hcs
    exact ⟨[], rfl, by decide, by simp, .inl rfl⟩
  · simp at hcs
    obtain ⟨rfl, rfl, rfl⟩ := hcs
    simp only [if_true] at hz
    have hll : (zs.take n).length = n := by simp; omega
    have hlen : n ≤ 1048576 := by
      have hx1 : d = .slice (lits (H := H) .i64 (zs.take n)) (lits (H := H) .i64 (zs.drop n)) := by
        have := congrArg Prod.fst hx
        simpa using this
      rw [hx1] at hb
      simp only [Rows.uptoBulk] at hb
      have := bulk_many (lits (H := H) .i64 (zs.take n))
      have e : (lits (H := H) .i64 (zs.take n)).length = n := by simp only [lits, List.length_map]; exact hll
      omega
    refine ⟨zs.take n, hll.symm, hlen, fun x hx => ?_, ?_⟩
    · have := bounds_i64 (hwz x (List.mem_of_mem_take hx))
      omega
    · by_cases h0 : n = 0
      · exact .inl h0
      · right
        obtain ⟨b, off, spot⟩ := y
        have hspot : spot = none := by simpa [Addr.add] using World.cell?_spot (hcell 0 (by omega))
        subst hspot
        have hc : ∀ i, i < n → W.cell? ⟨b, off + i, none⟩ = some (.int .i64 ((zs.take n).getD i 0)) := fun i hi => by
          have hadd : (⟨b, off, none⟩ : Addr).add i = ⟨b, off + i, none⟩ := by unfold Addr.add; split <;> simp_all
          rw [← hadd, hcell i (by omega)]
          rw [List.getD_eq_getElem?_getD, List.getD_eq_getElem?_getD, List.getElem?_take, if_pos hi]
        exact ⟨b, off, rfl, block_lt_of_cell (hc 0 (by omega)), hc⟩

end Go.Proofs.Ytbjapgajbljhfaa
