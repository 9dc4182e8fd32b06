import Derived.Test.YtbjcckfhfbjchaaGreatPList
import Derived.Laws.BytesArg
/- Package pack: Lists. -/
namespace Go.Proofs.YtbjcckfhfbjchaaGreat
open Go.RowKit

theorem ListsI (fn1 fn2 : FuncId) (cap1 cap2 : Array Value) (most : Int) (w : World) :
    Calls Tryz.prog 122 #[.agg #[.func (.func fn1) #[] cap1, .func (.func fn2) #[] cap2], .int .i64 most] w fun en w' => ∃ m o, en = .returned (.agg #[.func (.func 162) #[] #[.pointer (some ⟨m, 0, none⟩), .pointer (some ⟨o, 0, none⟩)], .func (.func 164) #[] #[.pointer (some ⟨m, 0, none⟩), .pointer (some ⟨o, 0, none⟩)]]) ∧
      w'.cell? ⟨m, 0, none⟩ = some (.int .i64 (min most 16777216)) ∧ w'.heap[o]? = some (.cells #[.func (.func fn1) #[] cap1, .func (.func fn2) #[] cap2] 90 (0, 0)) ∧ w.heap.size ≤ m ∧ w.heap.size ≤ o ∧ Below w.heap.size w w' := by
  have hmf : ∀ (fn : Fn) (first cap : Array Value) (w : World), (Instr.makeFunc fn first cap).run Tryz.prog w = .ok (.func fn first cap) w := fun _ _ _ _ => rfl
  have h2 := min_run most 16777216 (min most 16777216) (by omega)
  generalize min most 16777216 = m2 at *
  go_enter Tryz.func122, Tryz.ntmps122
  go_wp2_with fail
  refine (MakeLi _ _ _ _ _).mono ?_
  rintro e w1 ⟨rfl, hb1⟩
  obtain ⟨b0, b1, b2, hb⟩ := blocks3 hb1
  have f0 := cell_of_row _ _ 0 _ _ _ b2
  have f1 := cell_of_row _ _ 1 _ _ _ b2
  have z0 := frozen_of_row w1 _ 0 _ _ b2
  have z1 := frozen_of_row w1 _ 1 _ _ b2
  have d1 := cell_of_row _ _ 0 _ _ _ b1
  have HB := hide hb
  have D0 := hide b0
  have D1 := hide d1
  clear hb1 hb b0 b1 b2 d1
  go_wp2
  refine ⟨rfl, .agg #[.func (.func 162) #[] #[.pointer (some ⟨w.heap.size + 1, 0, none⟩), .pointer (some ⟨w.heap.size, 0, none⟩)], .func (.func 164) #[] #[.pointer (some ⟨w.heap.size + 1, 0, none⟩), .pointer (some ⟨w.heap.size, 0, none⟩)]], by simp [results, Tryz.results122, go_sem, f0, f1], _, _, rfl, ?_, ?_, by omega, Nat.le_refl _, (HB.out.setCell (by show _ ≤ _; simp; omega) _).setCell (by show _ ≤ _; simp; omega) _⟩
  · have := D1.out
    rw [World.cell?_setCell_other, World.cell?_setCell_other, this]
    all_goals simp
  · rw [Below.heap_setCell _ _ _ _ (by simp; omega), Below.heap_setCell _ _ _ _ (by simp; omega)]
    exact D0.out

theorem ListsNd (fn1 fn2 : FuncId) (cap1 cap2 : Array Value) (most : Int) (w : World) :
    Calls Tryz.prog 55 #[.agg #[.func (.func fn1) #[] cap1, .func (.func fn2) #[] cap2], .int .i64 most] w fun en w' => ∃ m o, en = .returned (.agg #[.func (.func 114) #[] #[.pointer (some ⟨m, 0, none⟩), .pointer (some ⟨o, 0, none⟩)], .func (.func 117) #[] #[.pointer (some ⟨m, 0, none⟩), .pointer (some ⟨o, 0, none⟩)]]) ∧
      w'.cell? ⟨m, 0, none⟩ = some (.int .i64 (min most 16777216)) ∧ w'.heap[o]? = some (.cells #[.func (.func fn1) #[] cap1, .func (.func fn2) #[] cap2] 119 (0, 0)) ∧ w.heap.size ≤ m ∧ w.heap.size ≤ o ∧ Below w.heap.size w w' := by
  have hmf : ∀ (fn : Fn) (first cap : Array Value) (w : World), (Instr.makeFunc fn first cap).run Tryz.prog w = .ok (.func fn first cap) w := fun _ _ _ _ => rfl
  have h2 := min_run most 16777216 (min most 16777216) (by omega)
  generalize min most 16777216 = m2 at *
  go_enter Tryz.func55, Tryz.ntmps55
  go_wp2_with fail
  refine (MakeLn _ _ _ _ _).mono ?_
  rintro e w1 ⟨rfl, hb1⟩
  obtain ⟨b0, b1, b2, hb⟩ := blocks3 hb1
  have f0 := cell_of_row _ _ 0 _ _ _ b2
  have f1 := cell_of_row _ _ 1 _ _ _ b2
  have z0 := frozen_of_row w1 _ 0 _ _ b2
  have z1 := frozen_of_row w1 _ 1 _ _ b2
  have d1 := cell_of_row _ _ 0 _ _ _ b1
  have HB := hide hb
  have D0 := hide b0
  have D1 := hide d1
  clear hb1 hb b0 b1 b2 d1
  go_wp2
  refine ⟨rfl, .agg #[.func (.func 114) #[] #[.pointer (some ⟨w.heap.size + 1, 0, none⟩), .pointer (some ⟨w.heap.size, 0, none⟩)], .func (.func 117) #[] #[.pointer (some ⟨w.heap.size + 1, 0, none⟩), .pointer (some ⟨w.heap.size, 0, none⟩)]], by simp [results, Tryz.results55, go_sem, f0, f1], _, _, rfl, ?_, ?_, by omega, Nat.le_refl _, (HB.out.setCell (by show _ ≤ _; simp; omega) _).setCell (by show _ ≤ _; simp; omega) _⟩
  · have := D1.out
    rw [World.cell?_setCell_other, World.cell?_setCell_other, this]
    all_goals simp
  · rw [Below.heap_setCell _ _ _ _ (by simp; omega), Below.heap_setCell _ _ _ _ (by simp; omega)]
    exact D0.out

end Go.Proofs.YtbjcckfhfbjchaaGreat

/- Package pack: peekCount, peek, takeRow; the take of Texts. -/
namespace Go.Proofs.YtbjcckfhfbjchaaGreat
open Go.RowKit

/-- the number at the head of a row, or of a list -/
def cnt (most : Int) (l : List Nat) : Except Nat (Nat × Nat) := match K.pk l with
  | .error e => .error e
  | .ok (n, z) => if most < (n : Int) then .error 20 else if l.length < z + n then .error 21 else .ok (n, z)

theorem cnt_err {most : Int} {l : List Nat} {e : Nat} (h : cnt most l = .error e) : e ≠ 0 := by
  unfold cnt at h
  split at h
  · rename_i hp
    injection h with h
    have := pk_err hp
    omega
  · split at h
    · injection h with h; omega
    · split at h
      · injection h with h; omega
      · cases h

theorem cnt_ok {most : Int} {l : List Nat} {n z : Nat} (h : cnt most l = .ok (n, z)) : K.pk l = .ok (n, z) ∧ (n : Int) ≤ most ∧ z + n ≤ l.length := by
  unfold cnt at h
  split at h
  · cases h
  · split at h
    · cases h
    · split at h
      · cases h
      · rename_i hp h1 h2
        injection h with h
        injection h with e1 e2
        subst e1; subst e2
        exact ⟨hp, by omega, by omega⟩

set_option maxRecDepth 10000 in
theorem peekCount_any (q : Nat) (most : Int) (s : K.RS) (w : World) (h : Rr w q s) :
    Calls Tryz.prog 118 #[.pointer (some ⟨q, 0, none⟩), .int .i64 most] w fun en w' => pkOut (cnt most (rest s)) en ∧ Below w.heap.size w w' := by
  have HH := hide h
  have htp := h.top
  have htk := h.tak
  generalize hr : cnt most (rest s) = r
  have HR := hide hr
  have hlen := rest_len s
  have HLEN := hide hlen
  clear hr hlen
  cases hp : K.pk (rest s) with
  | error e =>
    have HP := hide hp
    have HR' : Hid (r = .error e) := by show _ = _; rw [← HR.out]; unfold cnt; rw [hp]
    clear h hp
    go_enter Tryz.func118, Tryz.ntmps118
    go_wp2_with fail
    refine (peekNumber_any q s _ HH.out).mono ?_
    rintro en w1 ⟨ho, hb⟩
    have hp := HP.out
    unfold rest at hp
    rw [hp] at ho
    have hen : en = gaveUp e := ho
    subst hen
    exact ⟨rfl, by rw [HR'.out]; rfl, hb⟩
  | ok x =>
    obtain ⟨n, z⟩ := x
    obtain ⟨k1, k2, k3, _, k5⟩ := K.pk_ok h.byt hp
    rw [HLEN.out] at k3
    have HP := hide hp
    clear h hp
    by_cases hb1 : most < (n : Int)
    · have HR' : Hid (r = .error 20) := by show _ = _; rw [← HR.out]; unfold cnt; rw [HP.out]; exact if_pos hb1
      go_enter Tryz.func118, Tryz.ntmps118
      go_wp2_with fail
      refine (peekNumber_any q s _ HH.out).mono ?_
      rintro en w1 ⟨ho, hb⟩
      have hp := HP.out
      unfold rest at hp
      rw [hp] at ho
      have hen : en = .returned (.tuple #[.int .i64 (n : Nat), .int .i64 (z : Nat)]) := ho
      subst hen
      clear ho hp
      go_wp2
      exact ⟨rfl, by rw [HR'.out]; rfl, hb⟩
    · by_cases hb2 : (rest s).length < z + n
      · have HR' : Hid (r = .error 21) := by show _ = _; rw [← HR.out]; unfold cnt; rw [HP.out]; exact (if_neg hb1).trans (if_pos hb2)
        rw [HLEN.out] at hb2
        go_enter Tryz.func118, Tryz.ntmps118
        go_wp2_with fail
        refine (peekNumber_any q s _ HH.out).mono ?_
        rintro en w1 ⟨ho, hb⟩
        have hp := HP.out
        unfold rest at hp
        rw [hp] at ho
        have hen : en = .returned (.tuple #[.int .i64 (n : Nat), .int .i64 (z : Nat)]) := ho
        subst hen
        have HB := hide hb
        clear ho hp hb
        go_wp2_with fail
        refine (left_any q s _ (HH.out.below HB.out)).mono ?_
        rintro e w2 ⟨a', c', rfl, hr, h0', hc', hb3⟩
        have HB3 := hide hb3
        clear hr h0' hb3
        go_wp2
        exact ⟨rfl, by rw [HR'.out]; rfl, further HB.out HB3.out⟩
      · have HR' : Hid (r = .ok (n, z)) := by show _ = _; rw [← HR.out]; unfold cnt; rw [HP.out]; exact (if_neg hb1).trans (if_neg hb2)
        rw [HLEN.out] at hb2
        go_enter Tryz.func118, Tryz.ntmps118
        go_wp2_with fail
        refine (peekNumber_any q s _ HH.out).mono ?_
        rintro en w1 ⟨ho, hb⟩
        have hp := HP.out
        unfold rest at hp
        rw [hp] at ho
        have hen : en = .returned (.tuple #[.int .i64 (n : Nat), .int .i64 (z : Nat)]) := ho
        subst hen
        have HB := hide hb
        clear ho hp hb
        go_wp2_with fail
        refine (left_any q s _ (HH.out.below HB.out)).mono ?_
        rintro e w2 ⟨a', c', rfl, hr, h0', hc', hb3⟩
        have HB3 := hide hb3
        clear hr h0' hb3
        go_wp2
        go_ret2
        exact ⟨by rw [HR'.out]; rfl, further HB.out HB3.out⟩

theorem peek_yes (q n : Nat) (s : K.RS) (w : World) (h : Rr w q s) (hn : n ≤ (rest s).length) :
    Calls Tryz.prog 178 #[.pointer (some ⟨q, 0, none⟩), .int .i64 (n : Nat)] w fun en w' => ∃ a c, en = .returned (.slice a n c) ∧ Rd w' a n ((rest s).take n) ∧ (a = none → c = 0) ∧ n ≤ c ∧ Below w.heap.size w w' := by
  have HH := hide h
  have htp := h.top
  rw [rest_len] at hn
  clear h
  go_enter Tryz.func178, Tryz.ntmps178
  go_wp2_with fail
  refine (left_any q s _ HH.out).mono ?_
  rintro e w1 ⟨a1, c1, rfl, _, _, hc1, hb1⟩
  have HB1 := hide hb1
  clear hb1
  go_wp2_with fail
  refine (left_any q s _ (HH.out.below HB1.out)).mono ?_
  rintro e w2 ⟨a', c', rfl, hr, h0', hc', hb3⟩
  have HR := hide (hr.front n hn)
  have HB := hide (further HB1.out hb3)
  have H0 := hide h0'
  have hsl := slice_hi_run' a' (s.data.length - s.taken) c' n (by omega)
  clear hr hb3 h0'
  go_wp2
  go_ret
  exact ⟨a', c', rfl, HR.out, H0.out, by omega, HB.out⟩

theorem peek_no (q n : Nat) (s : K.RS) (w : World) (h : Rr w q s) (hn : ¬ n ≤ (rest s).length) :
    Calls Tryz.prog 178 #[.pointer (some ⟨q, 0, none⟩), .int .i64 (n : Nat)] w fun en w' => en = gaveUp 21 ∧ Below w.heap.size w w' := by
  have HH := hide h
  have htp := h.top
  rw [rest_len] at hn
  clear h
  go_enter Tryz.func178, Tryz.ntmps178
  go_wp2_with fail
  refine (left_any q s _ HH.out).mono ?_
  rintro e w1 ⟨a1, c1, rfl, _, _, hc1, hb1⟩
  have HB1 := hide hb1
  clear hb1
  go_wp2
  exact ⟨rfl, rfl, HB1.out⟩

end Go.Proofs.YtbjcckfhfbjchaaGreat
