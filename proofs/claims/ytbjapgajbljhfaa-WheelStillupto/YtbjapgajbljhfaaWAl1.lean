/- Package wheel: what All sorts by, as a function of two timers. -/
import Derived.Test.YtbjapgajbljhfaaWCmp
import Derived.Deep.RegionHeld3
import Derived.Sort.Grow
namespace Go.Proofs.Ytbjapgajbljhfaa
namespace Wh
open Go.RowKit

set_option maxRecDepth 100000 in
set_option maxHeartbeats 8000000 in
theorem all1_any (a b : Nat × Nat × Int) (w : World) : Calls Try.prog 31 #[.agg #[.int .i64 (a.1 : Nat), .int .i64 (a.2.1 : Nat), .int .i64 a.2.2], .agg #[.int .i64 (b.1 : Nat), .int .i64 (b.2.1 : Nat), .int .i64 b.2.2]] w fun e w' => e = .returned (.int .i64 (cmpT a b)) ∧ ∃ q os, w' = Go.Sort.grow (w.drewN q) os := by
  obtain ⟨i, d, x⟩ := a
  obtain ⟨j, f, y⟩ := b
  have C1 : Hid (∀ x y w, Calls Try.prog 33 #[.int .i64 x, .int .i64 y] w fun e w' => e = .returned (.int .i64 (cmpV x y)) ∧ w' = w) := cmp_any
  go_enter Try.func31, Try.ntmps31
  go_wp2_with fail
  obtain ⟨W2, hW2⟩ : ∃ W2, W2 = (w.alloc (.cells #[.int .i64 (i : Nat), .int .i64 (d : Nat), .int .i64 x] 32)).alloc (.cells #[.int .i64 (j : Nat), .int .i64 (f : Nat), .int .i64 y] 32) := ⟨_, rfl⟩
  rw [← hW2]
  have bA : W2.heap[w.heap.size]? = some (.cells #[.int .i64 (i : Nat), .int .i64 (d : Nat), .int .i64 x] 32 (0, 0)) := by
    rw [hW2]; exact (Keep.alloc (fun _ => False) _ _).blk (heap_alloc_new _ _) fun f => f
  have bB : W2.heap[w.heap.size + 1]? = some (.cells #[.int .i64 (j : Nat), .int .i64 (f : Nat), .int .i64 y] 32 (0, 0)) := by
    rw [hW2]
    have := heap_alloc_new (w.alloc (.cells #[.int .i64 (i : Nat), .int .i64 (d : Nat), .int .i64 x] 32)) (.cells #[.int .i64 (j : Nat), .int .i64 (f : Nat), .int .i64 y] 32)
    rwa [World.size_alloc] at this
  have A0 := cell_blk bA 0 rfl
  have A1 := cell_blk bA 1 rfl
  have B0 := cell_blk bB 0 rfl
  have B1 := cell_blk bB 1 rfl
  have HS : Hid (W2.cell? ⟨w.heap.size, 0, none⟩ = some (.int .i64 (i : Nat)) ∧ W2.cell? ⟨w.heap.size, 1, none⟩ = some (.int .i64 (d : Nat)) ∧ W2.cell? ⟨w.heap.size + 1, 0, none⟩ = some (.int .i64 (j : Nat)) ∧ W2.cell? ⟨w.heap.size + 1, 1, none⟩ = some (.int .i64 (f : Nat))) := ⟨A0, A1, B0, B1⟩
  have HW2 := hide hW2
  clear hW2 bA bB
  have HO : Hid (Calls Try.prog 32 #[.slice (some ⟨W2.heap.size, 0, none⟩) 2 2] (W2.alloc (.cells #[.int .i64 (cmpV (d : Nat) (f : Nat)), .int .i64 (cmpV (i : Nat) (j : Nat))] 3)).drew fun e w' => e = .returned (.int .i64 (orV (cmpV (d : Nat) (f : Nat)) (cmpV (i : Nat) (j : Nat)))) ∧ w' = (W2.alloc (.cells #[.int .i64 (cmpV (d : Nat) (f : Nat)), .int .i64 (cmpV (i : Nat) (j : Nat))] 3)).drew) :=
    or_any _ _ W2.heap.size 2 _ (cell_blk (w := W2.alloc (.cells #[.int .i64 (cmpV (d : Nat) (f : Nat)), .int .i64 (cmpV (i : Nat) (j : Nat))] 3)) (heap_alloc_new _ _) 0 rfl) (cell_blk (w := W2.alloc (.cells #[.int .i64 (cmpV (d : Nat) (f : Nat)), .int .i64 (cmpV (i : Nat) (j : Nat))] 3)) (heap_alloc_new _ _) 1 rfl)
  go_region_held3 (fun wx => wx.cell? ⟨w.heap.size, 0, none⟩ = some (.int .i64 (i : Nat)) ∧ wx.cell? ⟨w.heap.size, 1, none⟩ = some (.int .i64 (d : Nat)) ∧ wx.cell? ⟨w.heap.size + 1, 0, none⟩ = some (.int .i64 (j : Nat)) ∧ wx.cell? ⟨w.heap.size + 1, 1, none⟩ = some (.int .i64 (f : Nat))) (first | (exact HS.out) | go_keep)
    (first
      | (go_at_call 33; refine (C1.out _ _ _).mono ?_; rintro e w3 ⟨rfl, rfl⟩)
      | (go_at_call 32; refine HO.out.mono ?_; rintro e w3 ⟨rfl, rfl⟩))
  go_wp2_with fail
  go_ret
  have hg : ∀ o : Obj, (W2.alloc o).drew = Go.Sort.grow (w.drewN 1) (#[.cells #[.int .i64 (i : Nat), .int .i64 (d : Nat), .int .i64 x] 32] ++ #[.cells #[.int .i64 (j : Nat), .int .i64 (f : Nat), .int .i64 y] 32] ++ #[o]) := fun o => by
    rw [HW2.out, Go.Sort.alloc_eq_grow, Go.Sort.alloc_eq_grow, Go.Sort.alloc_eq_grow, Go.Sort.grow_grow, Go.Sort.grow_grow]
    rfl
  exact ⟨rfl, 1, _, hg _⟩

end Wh
end Go.Proofs.Ytbjapgajbljhfaa
