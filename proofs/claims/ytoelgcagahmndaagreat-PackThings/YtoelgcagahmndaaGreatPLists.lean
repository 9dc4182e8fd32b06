/- Package pack: Lists. -/
import Derived.Test.YtoelgcagahmndaaGreatPList
namespace Go.Proofs.YtoelgcagahmndaaGreat
open Go.RowKit

theorem ListsS (fn1 fn2 : FuncId) (cap1 cap2 : Array Value) (most : Int) (w : World) :
    Calls Tryz.prog 42 #[.agg #[.func (.func fn1) #[] cap1, .func (.func fn2) #[] cap2], .int .i64 most] w fun en w' => ∃ m o, en = .returned (.agg #[.func (.func 108) #[] #[.pointer (some ⟨m, 0, none⟩), .pointer (some ⟨o, 0, none⟩)], .func (.func 110) #[] #[.pointer (some ⟨m, 0, none⟩), .pointer (some ⟨o, 0, none⟩)]]) ∧
      w'.cell? ⟨m, 0, none⟩ = some (.int .i64 (min most 16777216)) ∧ w'.heap[o]? = some (.cells #[.func (.func fn1) #[] cap1, .func (.func fn2) #[] cap2] 98 (0, 0)) ∧ w.heap.size ≤ m ∧ w.heap.size ≤ o ∧ Below w.heap.size w w' := by
  have hmf : ∀ (fn : Fn) (first cap : Array Value) (w : World), (Instr.makeFunc fn first cap).run Tryz.prog w = .ok (.func fn first cap) w := fun _ _ _ _ => rfl
  have h2 := min_run most 16777216 (min most 16777216) (by omega)
  generalize min most 16777216 = m2 at *
  go_enter Tryz.func42, Tryz.ntmps42
  go_wp2_with fail
  refine (MakeLs _ _ _ _ _).mono ?_
  rintro e w1 ⟨rfl, hb1⟩
  obtain ⟨b0, b1, b2, hb⟩ := blocks3 hb1
  have f0 := cell_of_row _ _ 0 _ _ _ b2
  have f1 := cell_of_row _ _ 1 _ _ _ b2
  have z0 := frozen_of_row w1 _ 0 _ _ b2
  have z1 := frozen_of_row w1 _ 1 _ _ b2
  have d1 := cell_of_row _ _ 0 _ _ _ b1
  have HB := hide hb
  have D0 := hide b0
  have D1 := hide d1
  clear hb1 hb b0 b1 b2 d1
  go_wp2
  refine ⟨rfl, .agg #[.func (.func 108) #[] #[.pointer (some ⟨w.heap.size + 1, 0, none⟩), .pointer (some ⟨w.heap.size, 0, none⟩)], .func (.func 110) #[] #[.pointer (some ⟨w.heap.size + 1, 0, none⟩), .pointer (some ⟨w.heap.size, 0, none⟩)]], by simp [results, Tryz.results42, go_sem, f0, f1], _, _, rfl, ?_, ?_, by omega, Nat.le_refl _, (HB.out.setCell (by show _ ≤ _; simp; omega) _).setCell (by show _ ≤ _; simp; omega) _⟩
  · have := D1.out
    rw [World.cell?_setCell_other, World.cell?_setCell_other, this]
    all_goals simp
  · rw [Below.heap_setCell _ _ _ _ (by simp; omega), Below.heap_setCell _ _ _ _ (by simp; omega)]
    exact D0.out

theorem ListsI (fn1 fn2 : FuncId) (cap1 cap2 : Array Value) (most : Int) (w : World) :
    Calls Tryz.prog 79 #[.agg #[.func (.func fn1) #[] cap1, .func (.func fn2) #[] cap2], .int .i64 most] w fun en w' => ∃ m o, en = .returned (.agg #[.func (.func 142) #[] #[.pointer (some ⟨m, 0, none⟩), .pointer (some ⟨o, 0, none⟩)], .func (.func 144) #[] #[.pointer (some ⟨m, 0, none⟩), .pointer (some ⟨o, 0, none⟩)]]) ∧
      w'.cell? ⟨m, 0, none⟩ = some (.int .i64 (min most 16777216)) ∧ w'.heap[o]? = some (.cells #[.func (.func fn1) #[] cap1, .func (.func fn2) #[] cap2] 85 (0, 0)) ∧ w.heap.size ≤ m ∧ w.heap.size ≤ o ∧ Below w.heap.size w w' := by
  have hmf : ∀ (fn : Fn) (first cap : Array Value) (w : World), (Instr.makeFunc fn first cap).run Tryz.prog w = .ok (.func fn first cap) w := fun _ _ _ _ => rfl
  have h2 := min_run most 16777216 (min most 16777216) (by omega)
  generalize min most 16777216 = m2 at *
  go_enter Tryz.func79, Tryz.ntmps79
  go_wp2_with fail
  refine (MakeLi _ _ _ _ _).mono ?_
  rintro e w1 ⟨rfl, hb1⟩
  obtain ⟨b0, b1, b2, hb⟩ := blocks3 hb1
  have f0 := cell_of_row _ _ 0 _ _ _ b2
  have f1 := cell_of_row _ _ 1 _ _ _ b2
  have z0 := frozen_of_row w1 _ 0 _ _ b2
  have z1 := frozen_of_row w1 _ 1 _ _ b2
  have d1 := cell_of_row _ _ 0 _ _ _ b1
  have HB := hide hb
  have D0 := hide b0
  have D1 := hide d1
  clear hb1 hb b0 b1 b2 d1
  go_wp2
  refine ⟨rfl, .agg #[.func (.func 142) #[] #[.pointer (some ⟨w.heap.size + 1, 0, none⟩), .pointer (some ⟨w.heap.size, 0, none⟩)], .func (.func 144) #[] #[.pointer (some ⟨w.heap.size + 1, 0, none⟩), .pointer (some ⟨w.heap.size, 0, none⟩)]], by simp [results, Tryz.results79, go_sem, f0, f1], _, _, rfl, ?_, ?_, by omega, Nat.le_refl _, (HB.out.setCell (by show _ ≤ _; simp; omega) _).setCell (by show _ ≤ _; simp; omega) _⟩
  · have := D1.out
    rw [World.cell?_setCell_other, World.cell?_setCell_other, this]
    all_goals simp
  · rw [Below.heap_setCell _ _ _ _ (by simp; omega), Below.heap_setCell _ _ _ _ (by simp; omega)]
    exact D0.out

theorem ListsW (fn1 fn2 : FuncId) (cap1 cap2 : Array Value) (most : Int) (w : World) :
    Calls Tryz.prog 84 #[.agg #[.func (.func fn1) #[] cap1, .func (.func fn2) #[] cap2], .int .i64 most] w fun en w' => ∃ m o, en = .returned (.agg #[.func (.func 155) #[] #[.pointer (some ⟨m, 0, none⟩), .pointer (some ⟨o, 0, none⟩)], .func (.func 157) #[] #[.pointer (some ⟨m, 0, none⟩), .pointer (some ⟨o, 0, none⟩)]]) ∧
      w'.cell? ⟨m, 0, none⟩ = some (.int .i64 (min most 16777216)) ∧ w'.heap[o]? = some (.cells #[.func (.func fn1) #[] cap1, .func (.func fn2) #[] cap2] 124 (0, 0)) ∧ w.heap.size ≤ m ∧ w.heap.size ≤ o ∧ Below w.heap.size w w' := by
  have hmf : ∀ (fn : Fn) (first cap : Array Value) (w : World), (Instr.makeFunc fn first cap).run Tryz.prog w = .ok (.func fn first cap) w := fun _ _ _ _ => rfl
  have h2 := min_run most 16777216 (min most 16777216) (by omega)
  generalize min most 16777216 = m2 at *
  go_enter Tryz.func84, Tryz.ntmps84
  go_wp2_with fail
  refine (MakeLw _ _ _ _ _).mono ?_
  rintro e w1 ⟨rfl, hb1⟩
  obtain ⟨b0, b1, b2, hb⟩ := blocks3 hb1
  have f0 := cell_of_row _ _ 0 _ _ _ b2
  have f1 := cell_of_row _ _ 1 _ _ _ b2
  have z0 := frozen_of_row w1 _ 0 _ _ b2
  have z1 := frozen_of_row w1 _ 1 _ _ b2
  have d1 := cell_of_row _ _ 0 _ _ _ b1
  have HB := hide hb
  have D0 := hide b0
  have D1 := hide d1
  clear hb1 hb b0 b1 b2 d1
  go_wp2
  refine ⟨rfl, .agg #[.func (.func 155) #[] #[.pointer (some ⟨w.heap.size + 1, 0, none⟩), .pointer (some ⟨w.heap.size, 0, none⟩)], .func (.func 157) #[] #[.pointer (some ⟨w.heap.size + 1, 0, none⟩), .pointer (some ⟨w.heap.size, 0, none⟩)]], by simp [results, Tryz.results84, go_sem, f0, f1], _, _, rfl, ?_, ?_, by omega, Nat.le_refl _, (HB.out.setCell (by show _ ≤ _; simp; omega) _).setCell (by show _ ≤ _; simp; omega) _⟩
  · have := D1.out
    rw [World.cell?_setCell_other, World.cell?_setCell_other, this]
    all_goals simp
  · rw [Below.heap_setCell _ _ _ _ (by simp; omega), Below.heap_setCell _ _ _ _ (by simp; omega)]
    exact D0.out

theorem ListsLi (fn1 fn2 : FuncId) (cap1 cap2 : Array Value) (most : Int) (w : World) :
    Calls Tryz.prog 82 #[.agg #[.func (.func fn1) #[] cap1, .func (.func fn2) #[] cap2], .int .i64 most] w fun en w' => ∃ m o, en = .returned (.agg #[.func (.func 149) #[] #[.pointer (some ⟨m, 0, none⟩), .pointer (some ⟨o, 0, none⟩)], .func (.func 151) #[] #[.pointer (some ⟨m, 0, none⟩), .pointer (some ⟨o, 0, none⟩)]]) ∧
      w'.cell? ⟨m, 0, none⟩ = some (.int .i64 (min most 16777216)) ∧ w'.heap[o]? = some (.cells #[.func (.func fn1) #[] cap1, .func (.func fn2) #[] cap2] 139 (0, 0)) ∧ w.heap.size ≤ m ∧ w.heap.size ≤ o ∧ Below w.heap.size w w' := by
  have hmf : ∀ (fn : Fn) (first cap : Array Value) (w : World), (Instr.makeFunc fn first cap).run Tryz.prog w = .ok (.func fn first cap) w := fun _ _ _ _ => rfl
  have h2 := min_run most 16777216 (min most 16777216) (by omega)
  generalize min most 16777216 = m2 at *
  go_enter Tryz.func82, Tryz.ntmps82
  go_wp2_with fail
  refine (MakeLli _ _ _ _ _).mono ?_
  rintro e w1 ⟨rfl, hb1⟩
  obtain ⟨b0, b1, b2, hb⟩ := blocks3 hb1
  have f0 := cell_of_row _ _ 0 _ _ _ b2
  have f1 := cell_of_row _ _ 1 _ _ _ b2
  have z0 := frozen_of_row w1 _ 0 _ _ b2
  have z1 := frozen_of_row w1 _ 1 _ _ b2
  have d1 := cell_of_row _ _ 0 _ _ _ b1
  have HB := hide hb
  have D0 := hide b0
  have D1 := hide d1
  clear hb1 hb b0 b1 b2 d1
  go_wp2
  refine ⟨rfl, .agg #[.func (.func 149) #[] #[.pointer (some ⟨w.heap.size + 1, 0, none⟩), .pointer (some ⟨w.heap.size, 0, none⟩)], .func (.func 151) #[] #[.pointer (some ⟨w.heap.size + 1, 0, none⟩), .pointer (some ⟨w.heap.size, 0, none⟩)]], by simp [results, Tryz.results82, go_sem, f0, f1], _, _, rfl, ?_, ?_, by omega, Nat.le_refl _, (HB.out.setCell (by show _ ≤ _; simp; omega) _).setCell (by show _ ≤ _; simp; omega) _⟩
  · have := D1.out
    rw [World.cell?_setCell_other, World.cell?_setCell_other, this]
    all_goals simp
  · rw [Below.heap_setCell _ _ _ _ (by simp; omega), Below.heap_setCell _ _ _ _ (by simp; omega)]
    exact D0.out

end Go.Proofs.YtoelgcagahmndaaGreat
