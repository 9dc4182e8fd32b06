/- The document's Matches, whatever the time; lists of times that came in. -/
import Derived.Test.YtbgioclbjbmicaaDoorXRd6
import Derived.Test.YtbgioclbjbmicaaDoorXLf7
import Derived.Lib.SmallJoins
namespace Go.Proofs.YtbgioclbjbmicaaDoor
open Go.ChangeShapes Go.WideShapes Go.ChangeAt Go.RowKit Go.Joins Go.Deep

set_option maxHeartbeats 1000000 in
set_option maxRecDepth 100000 in
theorem refMatches_any (G : Nat → Nat) (S : X.Sets) (hG : X.Good S) (t : Int) (w : World) (hX : RxAt G S w) :
    Calls Tryd.prog 13 #[rex G, .int .i64 t] w fun e w' => e = .returned (.bool (X.matB S t)) ∧ Below w.heap.size w w' := by
  by_cases h : 0 ≤ t ∧ t ≤ 4611686018427387904 ∧ t % 60 = 0
  · exact refMatches_in G S hG t h.1 h.2.1 h.2.2 w hX
  · have hmat : X.matB S t = false := X.matB_no fun k => h ⟨k.1, k.2.1, k.2.2.1⟩
    rw [hmat]
    clear hmat hX
    unfold rex
    by_cases h1 : t < 0
    · go_enter Tryd.func13, Tryd.ntmps13
      go_wp2_with fail
      go_ret
      exact ⟨rfl, Below.put (Below.refl _ _) _⟩
    · by_cases h2 : 4611686018427387904 < t
      · go_enter Tryd.func13, Tryd.ntmps13
        go_wp2_with fail
        go_ret
        exact ⟨rfl, Below.put (Below.refl _ _) _⟩
      · have h3 : ¬ t.tmod 60 = 0 := fun k => h ⟨by omega, by omega, (tmod60 t).1 k⟩
        have h3' : (t.tmod 60 == 0) = false := by simpa using h3
        have h4 : (t % 60 != 0) = true := by have : ¬ t % 60 = 0 := fun k => h3 ((tmod60 t).2 k); simpa using this
        go_enter Tryd.func13, Tryd.ntmps13
        go_wp2_with fail
        all_goals (try (go_ret; exact ⟨rfl, Below.put (Below.refl _ _) _⟩))
/-- what a slice of ints reads: numbers that an int holds -/
def RdI (w : World) (a : Option Addr) (n : Nat) (z : List Int) : Prop :=
  n ≤ 1048576 ∧ (n = 0 ∨ ∃ b off, a = some ⟨b, off, none⟩ ∧ ∀ i, i < n → w.cell? ⟨b, off + i, none⟩ = some (.int .i64 (z.getD i 0)))
theorem RdI.keep {w w' : World} {a : Option Addr} {n : Nat} {z : List Int} (h : RdI w a n z) (b : Below w.heap.size w w') : RdI w' a n z := by
  refine ⟨h.1, h.2.imp id ?_⟩
  rintro ⟨g, off, rfl, hc⟩
  refine ⟨g, off, rfl, fun i hi => ?_⟩
  rw [b.cell (p := ⟨g, off + i, none⟩) (World.block_lt_of_cell? _ _ (hc i hi))]
  exact hc i hi
theorem cells_int : Tryd.prog.cellsOf 3 = 1 := by kernel_rfl
theorem bulk_pos {H : Type} (d : DataW H) : 0 < Rows.uptoBulk d := by
  cases d with
  | lit l => cases l <;> simp [Rows.uptoBulk]
  | _ => simp [Rows.uptoBulk]
theorem bulk_many {H : Type} : ∀ l : List (DataW H), l.length ≤ Rows.uptoBulkAll l
  | [] => Nat.zero_le _
  | d :: r => by
    have h1 := bulk_pos d
    have h2 := bulk_many r
    simp only [Rows.uptoBulkAll, List.length_cons]
    omega
theorem list_bulk {H : Type} {d : DataW H} {r : List (DataW H)} (h : Rows.uptoBulkAll (d :: r) ≤ 1048576) : Rows.uptoBulk d ≤ 1048576 := by
  simp only [Rows.uptoBulkAll] at h; omega
theorem open_numsU {H : Type} {enc : TypeId × Value → H} {W : World} {a : Option Addr} {n c : Nat} {d : DataW H} {p : List MemPlace}
    (h : DataW.Trod enc Tryd.prog W 0 (fun _ => true) true 32 (.slice a n c) d p) (hb : Rows.uptoBulk d ≤ 1048576) : ∃ z, RdI W a n z := by
  obtain ⟨fuel, hf⟩ := h
  rcases open_ints Tryd.underlying32 Tryd.underlying3 cells_int hf with ⟨hcs, _⟩ | ⟨y, len, cap, zs, hcs, _, hl, hm, hz, hx, hcell, hwz⟩
  · simp [Value.cells] at hcs
    obtain ⟨rfl, rfl, rfl⟩ := hcs
    exact ⟨[], by decide, .inl rfl⟩
  · simp [Value.cells] at hcs
    obtain ⟨rfl, rfl, rfl⟩ := hcs
    simp only [if_true] at hz
    have hll : (zs.take n).length = n := by simp; omega
    have hlen : n ≤ 1048576 := by
      have hx1 : d = .slice (lits (H := H) .i64 (zs.take n)) (lits (H := H) .i64 (zs.drop n)) := by
        have := congrArg Prod.fst hx
        simpa using this
      rw [hx1] at hb
      simp only [Rows.uptoBulk] at hb
      have := bulk_many (lits (H := H) .i64 (zs.take n))
      have e : (lits (H := H) .i64 (zs.take n)).length = n := by simp only [lits, List.length_map]; exact hll
      omega
    refine ⟨zs, hlen, ?_⟩
    by_cases h0 : n = 0
    · exact .inl h0
    · right
      obtain ⟨b, off, spot⟩ := y
      have hspot : spot = none := by simpa [Addr.add] using World.cell?_spot (hcell 0 (by omega))
      subst hspot
      refine ⟨b, off, rfl, fun i hi => ?_⟩
      have hadd : (⟨b, off, none⟩ : Addr).add i = ⟨b, off + i, none⟩ := by unfold Addr.add; split <;> simp_all
      rw [← hadd, hcell i (by omega), List.getD_eq_getElem?_getD]
end Go.Proofs.YtbgioclbjbmicaaDoor
