/- Package pack: Lists. -/
import Derived.Test.YteaokgolnhdloaaPList
namespace Go.Proofs.Yteaokgolnhdloaa
open Go.RowKit

theorem ListsS (fn1 fn2 : FuncId) (cap1 cap2 : Array Value) (most : Int) (w : World) :
    Calls Try.prog 36 #[.agg #[.func (.func fn1) #[] cap1, .func (.func fn2) #[] cap2], .int .i64 most] w fun en w' => ∃ m o, en = .returned (.agg #[.func (.func 79) #[] #[.pointer (some ⟨m, 0, none⟩), .pointer (some ⟨o, 0, none⟩)], .func (.func 81) #[] #[.pointer (some ⟨m, 0, none⟩), .pointer (some ⟨o, 0, none⟩)]]) ∧
      w'.cell? ⟨m, 0, none⟩ = some (.int .i64 (min most 16777216)) ∧ w'.heap[o]? = some (.cells #[.func (.func fn1) #[] cap1, .func (.func fn2) #[] cap2] 66 (0, 0)) ∧ w.heap.size ≤ m ∧ w.heap.size ≤ o ∧ Below w.heap.size w w' := by
  have hmf : ∀ (fn : Fn) (first cap : Array Value) (w : World), (Instr.makeFunc fn first cap).run Try.prog w = .ok (.func fn first cap) w := fun _ _ _ _ => rfl
  have h2 := min_run most 16777216 (min most 16777216) (by omega)
  generalize min most 16777216 = m2 at *
  go_enter Try.func36, Try.ntmps36
  go_wp2_with fail
  refine (MakeLs _ _ _ _ _).mono ?_
  rintro e w1 ⟨rfl, hb1⟩
  obtain ⟨b0, b1, b2, hb⟩ := blocks3 hb1
  have f0 := cell_of_row _ _ 0 _ _ _ b2
  have f1 := cell_of_row _ _ 1 _ _ _ b2
  have z0 := frozen_of_row w1 _ 0 _ _ b2
  have z1 := frozen_of_row w1 _ 1 _ _ b2
  have d1 := cell_of_row _ _ 0 _ _ _ b1
  have HB := hide hb
  have D0 := hide b0
  have D1 := hide d1
  clear hb1 hb b0 b1 b2 d1
  go_wp2
  refine ⟨rfl, .agg #[.func (.func 79) #[] #[.pointer (some ⟨w.heap.size + 1, 0, none⟩), .pointer (some ⟨w.heap.size, 0, none⟩)], .func (.func 81) #[] #[.pointer (some ⟨w.heap.size + 1, 0, none⟩), .pointer (some ⟨w.heap.size, 0, none⟩)]], by simp [results, Try.results36, go_sem, f0, f1], _, _, rfl, ?_, ?_, by omega, Nat.le_refl _, (HB.out.setCell (by show _ ≤ _; simp; omega) _).setCell (by show _ ≤ _; simp; omega) _⟩
  · have := D1.out
    rw [World.cell?_setCell_other, World.cell?_setCell_other, this]
    all_goals simp
  · rw [Below.heap_setCell _ _ _ _ (by simp; omega), Below.heap_setCell _ _ _ _ (by simp; omega)]
    exact D0.out

theorem ListsB (fn1 fn2 : FuncId) (cap1 cap2 : Array Value) (most : Int) (w : World) :
    Calls Try.prog 7 #[.agg #[.func (.func fn1) #[] cap1, .func (.func fn2) #[] cap2], .int .i64 most] w fun en w' => ∃ m o, en = .returned (.agg #[.func (.func 38) #[] #[.pointer (some ⟨m, 0, none⟩), .pointer (some ⟨o, 0, none⟩)], .func (.func 43) #[] #[.pointer (some ⟨m, 0, none⟩), .pointer (some ⟨o, 0, none⟩)]]) ∧
      w'.cell? ⟨m, 0, none⟩ = some (.int .i64 (min most 16777216)) ∧ w'.heap[o]? = some (.cells #[.func (.func fn1) #[] cap1, .func (.func fn2) #[] cap2] 33 (0, 0)) ∧ w.heap.size ≤ m ∧ w.heap.size ≤ o ∧ Below w.heap.size w w' := by
  have hmf : ∀ (fn : Fn) (first cap : Array Value) (w : World), (Instr.makeFunc fn first cap).run Try.prog w = .ok (.func fn first cap) w := fun _ _ _ _ => rfl
  have h2 := min_run most 16777216 (min most 16777216) (by omega)
  generalize min most 16777216 = m2 at *
  go_enter Try.func7, Try.ntmps7
  go_wp2_with fail
  refine (MakeLb _ _ _ _ _).mono ?_
  rintro e w1 ⟨rfl, hb1⟩
  obtain ⟨b0, b1, b2, hb⟩ := blocks3 hb1
  have f0 := cell_of_row _ _ 0 _ _ _ b2
  have f1 := cell_of_row _ _ 1 _ _ _ b2
  have z0 := frozen_of_row w1 _ 0 _ _ b2
  have z1 := frozen_of_row w1 _ 1 _ _ b2
  have d1 := cell_of_row _ _ 0 _ _ _ b1
  have HB := hide hb
  have D0 := hide b0
  have D1 := hide d1
  clear hb1 hb b0 b1 b2 d1
  go_wp2
  refine ⟨rfl, .agg #[.func (.func 38) #[] #[.pointer (some ⟨w.heap.size + 1, 0, none⟩), .pointer (some ⟨w.heap.size, 0, none⟩)], .func (.func 43) #[] #[.pointer (some ⟨w.heap.size + 1, 0, none⟩), .pointer (some ⟨w.heap.size, 0, none⟩)]], by simp [results, Try.results7, go_sem, f0, f1], _, _, rfl, ?_, ?_, by omega, Nat.le_refl _, (HB.out.setCell (by show _ ≤ _; simp; omega) _).setCell (by show _ ≤ _; simp; omega) _⟩
  · have := D1.out
    rw [World.cell?_setCell_other, World.cell?_setCell_other, this]
    all_goals simp
  · rw [Below.heap_setCell _ _ _ _ (by simp; omega), Below.heap_setCell _ _ _ _ (by simp; omega)]
    exact D0.out

end Go.Proofs.Yteaokgolnhdloaa
