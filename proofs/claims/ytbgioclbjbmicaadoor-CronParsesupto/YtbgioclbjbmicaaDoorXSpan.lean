/- Package cron: the spans of a time. -/
import Derived.Test.YtbgioclbjbmicaaDoorXEq
import Derived.Deep.RegionHeld3
namespace Go.Proofs.YtbgioclbjbmicaaDoor
open Go.RowKit

theorem bnds_at (f : Nat) (hf : f < 5) : bnds.getD (f * 2) 0 = (X.loF f : Int) ∧ bnds.getD (f * 2 + 1) 0 = (X.hiF f : Int) := by
  match f, hf with
  | 0, _ => decide
  | 1, _ => decide
  | 2, _ => decide
  | 3, _ => decide
  | 4, _ => decide
theorem row60_range {w : World} {g o : Nat} {F : Nat → Bool} (h : ∀ j, j < 60 → w.cell? ⟨g, o + j, none⟩ = some (.bool (F j))) : w.rangeAt g o (row60 F).toList := by
  intro j v hv
  have hj : j < 60 := by
    rcases Nat.lt_or_ge j 60 with h' | h'
    · exact h'
    · rw [List.getElem?_eq_none (by rw [Array.length_toList, row60_size]; exact h')] at hv; cases hv
  have e : (row60 F).toList[j]? = some (.bool (F j)) := by rw [Array.getElem?_toList]; exact row60_at F j hj
  rw [h j hj, ← e, hv]
theorem range60 {w : World} {g : Nat} {S : X.Sets} (hX : ExprAt w g S) (f : Nat) (hf : f < 5) : w.rangeAt g (f * 60) (row60 fun v => S (60 * f + v)).toList :=
  row60_range fun j hj => by rw [Nat.mul_comm f 60]; exact hX.c (60 * f + j) (by omega)
set_option maxRecDepth 100000 in
set_option maxHeartbeats 400000 in
theorem whole_any (f : Nat) (hf : f < 5) (g : Nat) (S : X.Sets) (w : World) (hE : Env w) (hX : ExprAt w g S) :
    Calls Tryd.prog 64 #[.pointer (some ⟨g, 0, none⟩), .int .i64 f] w fun e w' => e = .returned (.bool (X.wholeB S f (X.loF f) (X.hiF f))) ∧ Below w.heap.size w w' := by
  have hc0 := hE.bnd (f * 2) (by omega)
  have hc1 := hE.bnd (f * 2 + 1) (by omega)
  rw [(bnds_at f hf).1] at hc0
  rw [(bnds_at f hf).2] at hc1
  have hl := X.loF_le f
  have i0 : (0 : Int) ≤ (f : Int) := by omega
  have i1 : (f : Int) < 5 := by omega
  have hu := Tryd.underlying57
  have hm := guard_set
  have hr := range60 hX f hf
  have heq : ∀ w', (Op.equalIn 10000 57 (.agg (row60 fun v => S (60 * f + v))) (.agg (row60 (allF (X.loF f) (X.hiF f))))).run Tryd.prog w' = .ok (X.wholeB S f (X.loF f) (X.hiF f)) w' := fun w' => eql_set 9998 w' _ _
  have hi0 : (Tryd.prog.info? 57).map (·.size) = some (row60 fun v => S (60 * f + v)).toList.length := by rw [Array.length_toList, row60_size]; exact size_set
  have hlen : (row60 fun v => S (60 * f + v)).toList.length = 60 := by rw [Array.length_toList, row60_size]
  generalize hF : (row60 fun v => S (60 * f + v)) = F at *
  have hFl : F.toList.toArray = F := by simp
  generalize F.toList = cs at *
  have hcs : Value.agg cs.toArray = .agg F := by rw [hFl]
  clear hF
  have lt0 := World.block_lt_of_cell? _ _ hc0
  have lt1 := hX.lt
  go_enter Tryd.func64, Tryd.ntmps64
  go_wp2_with fail
  go_region_held3 (fun w' => w'.rangeAt g (f * 60) cs ∧ w'.cell? ⟨0, f * 2, none⟩ = some (.int .i64 (X.loF f)) ∧ w'.cell? ⟨0, f * 2 + 1, none⟩ = some (.int .i64 (X.hiF f))) (first | go_keep_ranges | (exact ⟨fun j v hv => by rw [hb0.cell (p := ⟨g, f * 60 + j, none⟩) (by simpa using lt1)]; simpa using hr j v hv, by rw [hb0.cell (p := ⟨0, f * 2, none⟩) (by simpa using lt0)]; simpa using hc0, by rw [hb0.cell (p := ⟨0, f * 2 + 1, none⟩) (by simpa using lt0)]; simpa using hc1⟩)) ((go_at_call 41; refine (all_any _ _ hl.1 (by omega) _).mono ?_; rintro e w0 ⟨rfl, hb0⟩))
  go_wp2_with fail
  go_ret
  exact ⟨rfl, (Below.refl _ w).drew.trans hb0⟩

theorem enough_any (g : Nat) (S : X.Sets) (w : World) (hE : Env w) (hX : ExprAt w g S) :
    Calls Tryd.prog 51 #[.pointer (some ⟨g, 0, none⟩)] w fun e w' => e = .returned (.bool (X.enough S)) ∧ Below w.heap.size w w' := by
  have he : X.enough S = (!X.wholeB S 2 1 31 && !X.wholeB S 4 0 6) := rfl
  go_enter Tryd.func51, Tryd.ntmps51
  go_wp2_with fail
  go_at_call 64
  refine (whole_any 2 (by decide) g S _ hE hX).mono ?_
  rintro e w1 ⟨rfl, hb1⟩
  have hE1 := hE.keep hb1
  have hX1 := hX.keep hb1
  have h21 : X.wholeB S 2 (X.loF 2) (X.hiF 2) = X.wholeB S 2 1 31 := rfl
  have h41 : X.wholeB S 4 (X.loF 4) (X.hiF 4) = X.wholeB S 4 0 6 := rfl
  rw [h21]
  cases hw2 : X.wholeB S 2 1 31
  · go_wp2_with fail
    go_at_call 64
    refine (whole_any 4 (by decide) g S _ hE1 hX1).mono ?_
    rintro e w2 ⟨rfl, hb2⟩
    rw [h41]
    go_wp2_with fail
    go_ret
    exact ⟨by simp [he, hw2], hb1.trans (hb2.mono hb1.size)⟩
  · go_wp2_with fail
    go_ret
    exact ⟨by simp [he, hw2], hb1⟩

set_option maxHeartbeats 400000 in
theorem onDay_any (g : Nat) (S : X.Sets) (y m h i s : Int) (d k : Nat) (hd : d < 60) (hk : k < 60) (w : World) (hE : Env w) (hX : ExprAt w g S) :
    Calls Tryd.prog 49 #[.pointer (some ⟨g, 0, none⟩), dat y m d h i s k] w fun e w' => e = .returned (.bool (X.onDay S d k)) ∧ Below w.heap.size w w' := by
  have i0 : (0 : Int) ≤ (d : Int) := by omega
  have i1 : (d : Int) < 60 := by omega
  have j0 : (0 : Int) ≤ (k : Int) := by omega
  have j1 : (k : Int) < 60 := by omega
  go_enter Tryd.func49, Tryd.ntmps49
  go_wp2_with fail
  have D0 := DatAt.new w y m d h i s k 44
  have hB : Below w.heap.size w (w.alloc (.cells #[.int .i64 y, .int .i64 m, .int .i64 d, .int .i64 h, .int .i64 i, .int .i64 s, .int .i64 k] 44)) := Below.put (Below.refl _ _) _
  generalize (w.alloc (.cells #[.int .i64 y, .int .i64 m, .int .i64 d, .int .i64 h, .int .i64 i, .int .i64 s, .int .i64 k] 44)) = W1 at *
  have hE1 := hE.keep hB
  have hX1 := hX.keep hB
  have hc0 := hX1.c (120 + d) (by omega)
  have hc1 := hX1.c (240 + k) (by omega)
  have d2 := D0.c2
  have d6 := D0.c6
  clear hE hX D0
  go_region_held3 (fun w' => w'.cell? ⟨w.heap.size, 2, none⟩ = some (.int .i64 d) ∧ w'.cell? ⟨w.heap.size, 6, none⟩ = some (.int .i64 k) ∧ w'.cell? ⟨g, 120 + d, none⟩ = some (.bool (S (120 + d))) ∧ w'.cell? ⟨g, 240 + k, none⟩ = some (.bool (S (240 + k)))) (go_keep) (fail)
  go_wp2_with fail
  have hBd : Below W1.heap.size W1 W1.drew := (Below.refl _ W1).drew
  go_at_call 51
  refine (enough_any g S _ (hE1.keep hBd) (hX1.keep hBd)).mono ?_
  rintro e w2 ⟨rfl, hb2⟩
  have hB2 := (hB.trans (hBd.mono hB.size)).trans (hb2.mono (Nat.le_trans hB.size hBd.size))
  have hon : X.onDay S d k = if X.enough S then S (120 + d) || S (240 + k) else S (120 + d) && S (240 + k) := by simp [X.onDay]
  have HB := hide hB2
  clear hE1 hX1 hc0 hc1 hB hb2 hB2 hBd
  cases h1 : X.enough S <;> cases h2 : S (120 + d) <;> cases h3 : S (240 + k) <;> simp only [h1, h2, h3] at hon
  all_goals (go_wp2_with fail; go_ret; exact ⟨by rw [hon]; rfl, HB.out⟩)

end Go.Proofs.YtbgioclbjbmicaaDoor
