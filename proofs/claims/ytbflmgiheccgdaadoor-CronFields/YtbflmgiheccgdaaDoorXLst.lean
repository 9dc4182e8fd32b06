/- CronFields: listed. -/
import Derived.Test.YtbflmgiheccgdaaDoorXFld
import Derived.Test.YtbflmgiheccgdaaDoorXOpenI
import Derived.Deep.OwnRows
namespace Go.Proofs.YtbflmgiheccgdaaDoor
open Go.RowKit

/-- Bools of the call's own. -/
structure HasAt (w0 : World) (m : Nat) (H : Nat → Bool) (w : World) : Prop where
  c : ∀ v, v < m → w.cell? ⟨w0.heap.size, v, none⟩ = some (.bool (H v))
  fr : ∀ j, w.frozen? ⟨w0.heap.size, j, none⟩ = false
  lt : w0.heap.size < w.heap.size
  bel : Below w0.heap.size w0 w
theorem HasAt.keep {w0 w w' : World} {m : Nat} {H : Nat → Bool} (h : HasAt w0 m H w) (b : Below w.heap.size w w') : HasAt w0 m H w' :=
  ⟨fun j hj => by rw [b.cell (p := ⟨w0.heap.size, j, none⟩) h.lt]; exact h.c j hj, fun j => by rw [b.frozen (p := ⟨w0.heap.size, j, none⟩) h.lt]; exact h.fr j, Nat.lt_of_lt_of_le h.lt b.size, h.bel.trans (b.mono h.bel.size)⟩
theorem HasAt.congr {w0 w : World} {m : Nat} {H H' : Nat → Bool} (h : HasAt w0 m H w) (e : ∀ v, v < m → H v = H' v) : HasAt w0 m H' w :=
  ⟨fun j hj => by rw [← e j hj]; exact h.c j hj, h.fr, h.lt, h.bel⟩
theorem HasAt.new (w : World) (m : Nat) : HasAt w m (fun _ => false) (w.alloc (.cells (madeCells #[.bool false] m) 4)) := by
  refine ⟨fun j hj => ?_, fun j => by simp, by simp, Below.put (Below.refl _ _) _⟩
  rw [cell_of_row _ _ _ _ _ _ (heap_alloc_new w _)]
  simp [madeCells, hj, Nat.mod_one]
theorem HasAt.set {w0 w : World} {m : Nat} {H : Nat → Bool} (h : HasAt w0 m H w) {v : Nat} (hv : v < m) : HasAt w0 m (fun i => H i || decide (i = v)) (w.setCell ⟨w0.heap.size, v, none⟩ (.bool true)) := by
  refine ⟨fun j hj => ?_, fun j => (World.frozen?_setCell _ _ _ _).trans (h.fr j), by simpa [World.setCell] using h.lt, Below.setCell h.bel (Nat.le_refl _) _⟩
  by_cases e : j = v
  · subst e
    rw [World.cell?_setCell_same _ _ _ (h.c j hj)]
    simp
  · rw [World.cell?_setCell_other _ _ _ _ (by intro e'; injection e' with _ e''; first | exact e e'' | exact e e''.symm), h.c j hj]
    simp [e]
theorem info_bool : (Tryd.prog.info? 4).map (fun i => (i.zero, i.size, i.bytes)) = some (some (.bool false), 1, 1) := by kernel_rfl
theorem make_bools (n : Nat) (hn : n ≤ 1000) (w : World) :
    (Instr.makeSlice 26 (.int .i64 (n : Int)) (.int .i64 (n : Int))).run Tryd.prog w = .ok (.slice (some ⟨w.heap.size, 0, none⟩) n n) (w.alloc (.cells (madeCells #[.bool false] n) 4)) :=
  run_make_row' 26 4 (.bool false) 1 Tryd.underlying26 info_bool rfl .i64 .i64 n (by omega) (by omega) w
def litem (lo hi : Nat) (x : Int) : Nat × Nat := ((pickV (Int.tdiv x 64) 3).toNat, lo + (pickV x ((hi : Int) - lo + 1)).toNat)
def llist (lo hi : Nat) (z : List Int) (n : Nat) : List (Nat × Nat) := (List.range n).map fun i => litem lo hi (z.getD i 0)
/-- What listed tells. -/
def Listed (f : Nat) (L : List (Nat × Nat)) (w : World) (e : Ending) (w' : World) : Prop :=
  ∃ gh, e = .returned (.tuple #[.string ⟨(X.lword f L).toArray⟩, .slice (some ⟨gh, 0, none⟩) (X.hiF f + 1) (X.hiF f + 1)]) ∧ (∀ v, v < X.hiF f + 1 → w'.cell? ⟨gh, v, none⟩ = some (.bool (X.lhas f L v))) ∧ w.heap.size ≤ gh ∧ gh < w'.heap.size
set_option maxHeartbeats 2000000 in
set_option maxRecDepth 100000 in
theorem listed_none (f : Nat) (a : Option Addr) (c : Nat) (w : World) :
    Calls Tryd.prog 5 #[.slice a 0 c, .int .i64 (X.loF f), .int .i64 (X.hiF f)] w fun e w' => Listed f [] w e w' ∧ Below w.heap.size w w' := by
  have hh := X.loF_le f
  unfold Listed
  have hL : ∀ v, X.lhas f [] v = (decide (X.loF f ≤ v) && decide (v ≤ X.hiF f)) := fun v => by simp [X.lhas]
  have hLw : X.lword f [] = [42] := rfl
  simp only [hL, hLw]
  clear hL hLw
  generalize X.loF f = lo at *
  generalize X.hiF f = hi at *
  obtain ⟨m, hm⟩ : ∃ m, m = hi + 1 := ⟨_, rfl⟩
  rw [← hm]
  have hadd : (hi : Int) + 1 = (m : Int) := by omega
  have b0 : (hi : Int) ≤ 59 := by omega
  have b1 : (0 : Int) ≤ hi := by omega
  have b2 : (0 : Int) ≤ m := by omega
  have b3 : (m : Int) ≤ 60 := by omega
  have hmk := make_bools m (by omega)
  have hN := HasAt.new w m
  have HM := hide hm
  have l0 : (0 : Int) ≤ lo := by omega
  have l1 : (lo : Int) ≤ hi := by omega
  clear hm hh
  go_enter Tryd.func5, Tryd.ntmps5
  go_wp2_with fail
  clear hmk
  generalize w.alloc (.cells (madeCells #[.bool false] m) 4) = W1 at *
  go_loopw [9] (fun x wx => ∃ v : Nat, x = .int .i64 v ∧ lo ≤ v ∧ v ≤ m ∧ HasAt w m (fun i => decide (lo ≤ i) && decide (i < v)) wx) (fun x _ => m - (intOf x).toNat)
  case atStart => exact ⟨lo, rfl, by omega, by omega, hN.congr fun v _ => by
    rw [eq_comm, Bool.eq_false_iff]; intro e; simp at e; omega⟩
  case round =>
    obtain ⟨v, rfl, v0, v1, hW⟩ := hrel
    by_cases hlt : v < m
    · have c0 := hW.c v hlt
      have f0 := hW.fr v
      have i0 : (v : Int) ≤ hi := by omega
      have i1 : (0 : Int) ≤ v := by omega
      have i2 : (v : Int) < m := by omega
      have HW := hide ((hW.set hlt).congr (H' := fun i => decide (lo ≤ i) && decide (i < v + 1)) fun i _ => by
        rw [Bool.eq_iff_iff]; simp; omega)
      clear hN hW
      go_wp2_with fail
      exact ⟨⟨v + 1, by go_num, by omega, by omega, HW.out⟩, by simp [intOf]; omega⟩
    · have i0 : ¬ ((v : Int) ≤ hi) := by omega
      have HW := hide (hW.congr (H' := fun i => decide (lo ≤ i) && decide (i ≤ hi)) fun i hi' => by
        have := HM.out
        rw [Bool.eq_iff_iff]; simp; omega)
      clear hN hW
      go_wp2_with fail
      go_ret2
      exact ⟨⟨w.heap.size, rfl, HW.out.c, Nat.le_refl _, HW.out.lt⟩, HW.out.bel⟩
end Go.Proofs.YtbflmgiheccgdaaDoor
