/- Package disk: New, Copy. -/
import Derived.Test.YtilpidioengnbaaDCra
namespace Go.Proofs.Ytilpidioengnbaa
open Go.RowKit Go.Lib Go.Maps Go.MapKept Go.ChangeMaps

theorem alloc_size (w : World) (o : Obj) : (w.alloc o).heap.size = w.heap.size + 1 := by simp

/-- what New answers -/
def NewAs (w : World) (c : Int) (e : Ending) (w' : World) : Prop :=
  Keep (fun _ => False) w w' ∧ ((c < 0 ∨ 67108864 < c) ∧ e = .returned (.tuple #[.pointer none, .int .i64 50]) ∧ w' = w ∨
    0 ≤ c ∧ c ≤ 67108864 ∧ ∃ p, e = .returned (.tuple #[.pointer (some ⟨p, 0, none⟩), .int .i64 0]) ∧ DAt (fun i => w.heap.size ≤ i) w' p (St.new c.toNat))

theorem new_bad (c : Int) (w : World) (hc : c < 0 ∨ 67108864 < c) : Calls Try.prog 21 #[.int .i64 c] w (NewAs w c) := by
  have HC := hide hc
  by_cases h1 : c < 0
  · clear hc
    go_enter Try.func21, Try.ntmps21
    go_wp2
    go_ret2
    exact ⟨Keep.refl _ _, .inl ⟨HC.out, rfl, rfl⟩⟩
  · have h2 : c > 67108864 := by omega
    clear hc
    go_enter Try.func21, Try.ntmps21
    go_wp2
    go_ret2
    exact ⟨Keep.refl _ _, .inl ⟨HC.out, rfl, rfl⟩⟩

theorem new_ok (c : Int) (w : World) (h1 : 0 ≤ c) (h2 : c ≤ 67108864) : Calls Try.prog 21 #[.int .i64 c] w (NewAs w c) := by
  have hmm := @run_makeMap Try.prog
  have h3 : ¬ c < 0 := by omega
  have h4 : ¬ c > 67108864 := by omega
  have H1 := hide h1
  have H2 := hide h2
  clear h1 h2
  go_enter Try.func21, Try.ntmps21
  go_wp2
  go_ret2
  have hc : ((c.toNat : Nat) : Int) = c := by have := H1.out; omega
  refine ⟨((Keep.alloc _ _ _).more (Keep.alloc _ _ _)).more (Keep.alloc _ _ _), .inr ⟨H1.out, H2.out, w.heap.size + 1 + 1, rfl, w.heap.size, w.heap.size + 1, fun _ => .slice none 0 0, ?_⟩⟩
  refine ⟨?_, ?_, ?_, by omega, (fun k l h => by cases h), (fun k k' g h => absurd rfl h), (fun k g h => absurd rfl h), by omega, by omega, by omega⟩
  · have := heap_alloc_new ((w.alloc (.map #[] 0)).alloc (.map #[] 0)) (.cells #[.int .i64 c, .int .i64 0, .map (some w.heap.size), .map (some (w.heap.size + 1)), .bool false, .int .i64 0, .bool false] 68)
    rw [alloc_size, alloc_size] at this
    rw [this, dcells]
    show _ = some (Obj.cells #[.int .i64 ((c.toNat : Nat) : Int), _, _, _, _, _, _] _ _)
    rw [hc]
    rfl
  · exact (((mapIs_made w).keep (Keep.alloc (fun _ => False) _ _) fun f => f).keep (Keep.alloc (fun _ => False) _ _) fun f => f)
  · have := (mapIs_made (w.alloc (.map #[] 0))).keep (Keep.alloc (fun _ => False) _ (.cells #[.int .i64 c, .int .i64 0, .map (some w.heap.size), .map (some (w.heap.size + 1)), .bool false, .int .i64 0, .bool false] 68)) fun f => f
    rw [alloc_size] at this
    exact this

theorem new_any (c : Int) (w : World) : Calls Try.prog 21 #[.int .i64 c] w (NewAs w c) := by
  by_cases h : c < 0 ∨ 67108864 < c
  · exact new_bad c w h
  · exact new_ok c w (by omega) (by omega)

end Go.Proofs.Ytilpidioengnbaa
