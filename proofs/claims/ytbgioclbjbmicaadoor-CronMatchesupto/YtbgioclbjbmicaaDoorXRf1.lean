/- The document's expressions: field, whole, Same. -/
import Derived.Test.YtbgioclbjbmicaaDoorXRs7
import Derived.BigQuiet
import Derived.Deep.QuietTactic
namespace Go.Proofs.YtbgioclbjbmicaaDoor
open Go.RowKit

/-- An expression of the document's, boxed. -/
structure Bx (p : Nat) (G : Nat → Nat) (w : World) : Prop where
  h : w.heap[p]? = some (.cells #[.slice (some ⟨G 0, 0, none⟩) 60 60, .slice (some ⟨G 1, 0, none⟩) 24 24, .slice (some ⟨G 2, 0, none⟩) 32 32, .slice (some ⟨G 3, 0, none⟩) 13 13, .slice (some ⟨G 4, 0, none⟩) 7 7] 26)
theorem Bx.lt {p : Nat} {G : Nat → Nat} {w : World} (h : Bx p G w) : p < w.heap.size := (Array.getElem?_eq_some_iff.1 h.h).1
theorem Bx.keep {p : Nat} {G : Nat → Nat} {w w' : World} (h : Bx p G w) (b : Below w.heap.size w w') : Bx p G w' := ⟨by rw [b.block _ h.lt]; exact h.h⟩
theorem Bx.c0 {p : Nat} {G : Nat → Nat} {w : World} (h : Bx p G w) : w.cell? ⟨p, 0, none⟩ = some (.slice (some ⟨G 0, 0, none⟩) 60 60) := by rw [cell_of_row _ _ _ _ _ _ h.h]; rfl
theorem Bx.c1 {p : Nat} {G : Nat → Nat} {w : World} (h : Bx p G w) : w.cell? ⟨p, 1, none⟩ = some (.slice (some ⟨G 1, 0, none⟩) 24 24) := by rw [cell_of_row _ _ _ _ _ _ h.h]; rfl
theorem Bx.c2 {p : Nat} {G : Nat → Nat} {w : World} (h : Bx p G w) : w.cell? ⟨p, 2, none⟩ = some (.slice (some ⟨G 2, 0, none⟩) 32 32) := by rw [cell_of_row _ _ _ _ _ _ h.h]; rfl
theorem Bx.c3 {p : Nat} {G : Nat → Nat} {w : World} (h : Bx p G w) : w.cell? ⟨p, 3, none⟩ = some (.slice (some ⟨G 3, 0, none⟩) 13 13) := by rw [cell_of_row _ _ _ _ _ _ h.h]; rfl
theorem Bx.c4 {p : Nat} {G : Nat → Nat} {w : World} (h : Bx p G w) : w.cell? ⟨p, 4, none⟩ = some (.slice (some ⟨G 4, 0, none⟩) 7 7) := by rw [cell_of_row _ _ _ _ _ _ h.h]; rfl
theorem Bx.new (w : World) (G : Nat → Nat) : Bx w.heap.size G (w.alloc (.cells #[.slice (some ⟨G 0, 0, none⟩) 60 60, .slice (some ⟨G 1, 0, none⟩) 24 24, .slice (some ⟨G 2, 0, none⟩) 32 32, .slice (some ⟨G 3, 0, none⟩) 13 13, .slice (some ⟨G 4, 0, none⟩) 7 7] 26)) := ⟨heap_alloc_new w _⟩
set_option maxHeartbeats 1000000 in
theorem field_any (G : Nat → Nat) (f : Nat) (hf : f < 5) (w : World) :
    Calls Tryd.prog 26 #[rex G, .int .i64 f] w fun e w' => e = .returned (rsl G f) ∧ Below w.heap.size w w' := by
  unfold rex
  rcases five f hf with rfl | rfl | rfl | rfl | rfl
  all_goals
    go_enter Tryd.func26, Tryd.ntmps26
    go_wp2_with fail
    go_ret
    exact ⟨rfl, Below.put (Below.put (Below.refl _ _) _) _⟩
/-- Has a field all its values? -/
def allT (S : X.Sets) (f : Nat) : Bool := (List.range (X.hiF f + 1)).all fun v => decide (v < X.loF f) || S (60 * f + v)
theorem allT_true {S : X.Sets} {f : Nat} (h : ∀ u, X.loF f ≤ u → u ≤ X.hiF f → S (60 * f + u) = true) : allT S f = true := by
  unfold allT
  rw [List.all_eq_true]
  intro v hv
  have := List.mem_range.1 hv
  by_cases c : v < X.loF f
  · simp [c]
  · rw [h v (by omega) (by omega)]; simp
theorem allT_false {S : X.Sets} {f u : Nat} (h1 : X.loF f ≤ u) (h2 : u ≤ X.hiF f) (h : S (60 * f + u) = false) : allT S f = false := by
  cases e : allT S f
  · rfl
  · unfold allT at e
    have := List.all_eq_true.1 e u (List.mem_range.2 (by omega))
    rw [h] at this
    simp at this; omega
set_option maxHeartbeats 2000000 in
set_option maxRecDepth 100000 in
theorem refWhole_any (G : Nat → Nat) (S : X.Sets) (f : Nat) (hf : f < 5) (w : World) (hX : RxAt G S w) :
    Calls Tryd.prog 46 #[rsl G f, .int .i64 f] w fun e w' => e = .returned (.bool (allT S f)) ∧ Below w.heap.size w w' := by
  have hlh := X.loF_le f
  have HG := hide (fun (w : World) => greatest_any f hf w)
  have HL := hide (fun (w : World) => least_any f hf w)
  have hY := hX f hf
  have HT := hide (@allT_true S f)
  have HF := hide (fun (u : Nat) => @allT_false S f u)
  clear hX
  unfold rsl
  generalize allT S f = R at *
  generalize X.loF f = lo at *
  generalize hhi : X.hiF f = hi at *
  clear hhi
  generalize hm : hi + 1 = m at *
  have hm' : (m : Int) = hi + 1 := by omega
  have HM := hide hm
  clear hm
  go_enter Tryd.func46, Tryd.ntmps46
  go_wp2_with fail
  go_at_call 63
  refine (HL.out _).mono ?_
  rintro e w0 ⟨rfl, rfl⟩
  go_wp2_with fail
  go_loopw [5] (fun y wx => ∃ v : Nat, y = .int .i64 v ∧ lo ≤ v ∧ v ≤ hi + 1 ∧ Hid (∀ u, lo ≤ u → u < v → S (60 * f + u) = true) ∧ Below w0.heap.size w0 wx) (fun y _ => hi + 1 - (intOf y).toNat)
  case atStart => exact ⟨lo, rfl, by omega, by omega, (fun u h1 h2 => absurd h1 (by omega)), Below.refl _ _⟩
  case round =>
    obtain ⟨v, rfl, hv0, hv1, HV, hb⟩ := hrel
    go_wp2_with fail
    go_at_call 57
    refine (HG.out _).mono ?_
    rintro e w1 ⟨rfl, hb1⟩
    have hB1 := hb.trans (hb1.mono hb.size)
    by_cases hlt : v ≤ hi
    · have hM := HM.out
      have cv0 := hY v (by omega)
      have cv : w1.cell? ⟨G f, v, none⟩ = some (.bool (S (60 * f + v))) := by
        rw [hB1.cell (p := ⟨G f, v, none⟩) (World.block_lt_of_cell? _ _ cv0)]; exact cv0
      have i0 : (v : Int) ≤ hi := by omega
      have i1 : (v : Int) < m := by omega
      have i2 : (0 : Int) ≤ v := by omega
      have HB := hide hB1
      clear cv0 hB1 hb hb1 hM
      cases hS : S (60 * f + v)
      · rw [hS] at cv
        have hR := HF.out v hv0 hlt hS
        subst hR
        go_wp2_with fail
        go_ret
        exact ⟨rfl, HB.out⟩
      · rw [hS] at cv
        have HV2 : Hid (∀ u, lo ≤ u → u < v + 1 → S (60 * f + u) = true) := fun u h1 h2 => by
          by_cases c : u = v
          · subst c; exact hS
          · exact HV.out u h1 (by omega)
        clear hS
        go_wp2_with fail
        exact ⟨⟨v + 1, by go_num, by omega, by omega, HV2, HB.out⟩, by simp [intOf]; omega⟩
    · have i0 : ¬ (v : Int) ≤ hi := by omega
      have hR := HT.out (fun u h1 h2 => HV.out u h1 (by omega))
      subst hR
      have HB := hide hB1
      clear hB1 hb hb1
      go_wp2_with fail
      go_ret
      exact ⟨rfl, HB.out⟩
end Go.Proofs.YtbgioclbjbmicaaDoor
