/- Package pack: Make, Numbers and its put. -/
import Derived.Test.YteaokgolnhdloaaPForm
import Derived.Laws.EntriesVeiled
namespace Go.Proofs.Yteaokgolnhdloaa
open Go.RowKit

theorem MakeI (fn1 fn2 : FuncId) (cap1 cap2 : Array Value) (w : World) :
    Calls Try.prog 76 #[.func (.func fn1) #[] cap1, .func (.func fn2) #[] cap2] w fun en w' => en = .returned (.agg #[.func (.func fn1) #[] cap1, .func (.func fn2) #[] cap2]) ∧ Below w.heap.size w w' := by
  go_enter Try.func76, Try.ntmps76
  go_wp2
  simp [bodyPost, results, Try.results76, go_sem]
  exact (Below.refl _ _).alloc (Nat.le_refl _) _

theorem MakeS (fn1 fn2 : FuncId) (cap1 cap2 : Array Value) (w : World) :
    Calls Try.prog 70 #[.func (.func fn1) #[] cap1, .func (.func fn2) #[] cap2] w fun en w' => en = .returned (.agg #[.func (.func fn1) #[] cap1, .func (.func fn2) #[] cap2]) ∧ Below w.heap.size w w' := by
  go_enter Try.func70, Try.ntmps70
  go_wp2
  simp [bodyPost, results, Try.results70, go_sem]
  exact (Below.refl _ _).alloc (Nat.le_refl _) _

theorem MakeLs (fn1 fn2 : FuncId) (cap1 cap2 : Array Value) (w : World) :
    Calls Try.prog 83 #[.func (.func fn1) #[] cap1, .func (.func fn2) #[] cap2] w fun en w' => en = .returned (.agg #[.func (.func fn1) #[] cap1, .func (.func fn2) #[] cap2]) ∧ Below w.heap.size w w' := by
  go_enter Try.func83, Try.ntmps83
  go_wp2
  simp [bodyPost, results, Try.results83, go_sem]
  exact (Below.refl _ _).alloc (Nat.le_refl _) _

theorem MakeB (fn1 fn2 : FuncId) (cap1 cap2 : Array Value) (w : World) :
    Calls Try.prog 52 #[.func (.func fn1) #[] cap1, .func (.func fn2) #[] cap2] w fun en w' => en = .returned (.agg #[.func (.func fn1) #[] cap1, .func (.func fn2) #[] cap2]) ∧ Below w.heap.size w w' := by
  go_enter Try.func52, Try.ntmps52
  go_wp2
  simp [bodyPost, results, Try.results52, go_sem]
  exact (Below.refl _ _).alloc (Nat.le_refl _) _

theorem MakeLb (fn1 fn2 : FuncId) (cap1 cap2 : Array Value) (w : World) :
    Calls Try.prog 46 #[.func (.func fn1) #[] cap1, .func (.func fn2) #[] cap2] w fun en w' => en = .returned (.agg #[.func (.func fn1) #[] cap1, .func (.func fn2) #[] cap2]) ∧ Below w.heap.size w w' := by
  go_enter Try.func46, Try.ntmps46
  go_wp2
  simp [bodyPost, results, Try.results46, go_sem]
  exact (Below.refl _ _).alloc (Nat.le_refl _) _


def numW (least most x : Int) (s : K.WS) : K.WS := if x < least ∨ x < 0 ∨ most < x then s.fail 22 else s.lay (K.num x.toNat)

theorem putNum (S : Nat → Prop) (w0 : World) (p l m : Nat) (least most x : Int) (hx : x ≤ 9223372036854775807) (s : K.WS) (w : World) (h : WAt S w0 p s w) (hl : w.cell? ⟨l, 0, none⟩ = some (.int .i64 least)) (hm : w.cell? ⟨m, 0, none⟩ = some (.int .i64 most)) :
    Calls Try.prog 72 #[.pointer (some ⟨p, 0, none⟩), .int .i64 x, .pointer (some ⟨l, 0, none⟩), .pointer (some ⟨m, 0, none⟩)] w fun en w' => en = .returned (.tuple #[]) ∧ WAt S w0 p (numW least most x s) w' := by
  have HH := hide h
  clear h
  unfold numW
  by_cases h1 : x < least
  · rw [if_pos (.inl h1)]
    go_enter Try.func72, Try.ntmps72
    go_wp2_with fail
    refine (Fail_any S w0 p s _ HH.out).mono ?_
    rintro e w1 ⟨rfl, h1⟩
    go_wp2
    first | go_end0 | refine bodyPost_ret (results_none rfl _ _ _) rfl ?_
    exact ⟨rfl, h1⟩
  · by_cases h2 : x < 0
    · rw [if_pos (.inr (.inl h2))]
      go_enter Try.func72, Try.ntmps72
      go_wp2_with fail
      refine (Fail_any S w0 p s _ HH.out).mono ?_
      rintro e w1 ⟨rfl, h1⟩
      go_wp2
      first | go_end0 | refine bodyPost_ret (results_none rfl _ _ _) rfl ?_
      exact ⟨rfl, h1⟩
    · by_cases h3 : most < x
      · rw [if_pos (.inr (.inr h3))]
        go_enter Try.func72, Try.ntmps72
        go_wp2_with fail
        refine (Fail_any S w0 p s _ HH.out).mono ?_
        rintro e w1 ⟨rfl, h1⟩
        go_wp2
        first | go_end0 | refine bodyPost_ret (results_none rfl _ _ _) rfl ?_
        exact ⟨rfl, h1⟩
      · rw [if_neg (by omega)]
        obtain ⟨n, rfl⟩ := Int.eq_ofNat_of_zero_le (show 0 ≤ x by omega)
        rw [Int.toNat_natCast]
        go_enter Try.func72, Try.ntmps72
        go_wp2_with fail
        refine (numberBytes_any n (by omega) _).mono ?_
        rintro e w1 ⟨a, c, rfl, hr, h0, hb⟩
        have HR := hide hr
        have H0 := hide h0
        have HH1 := hide (HH.out.below hb)
        clear hr h0 hb
        go_wp2_with fail
        refine (lay_any S w0 p s a _ c _ _ HH1.out HR.out H0.out).mono ?_
        rintro e w2 ⟨rfl, h2⟩
        go_wp2
        go_end0
        exact ⟨rfl, h2⟩

theorem ent_putNum (args : Array Value) (w : World) : (callFunc 72 args).run Try.prog w = .ok (.enter 72 args) w :=
  callFunc_enter Try.func72 (by kernel_rfl) (by kernel_rfl) args w

theorem putsNum (D : Nat → Prop) (w : World) (l m : Nat) (least most x : Int) (hx : x ≤ 9223372036854775807) (hl : w.cell? ⟨l, 0, none⟩ = some (.int .i64 least)) (hm : w.cell? ⟨m, 0, none⟩ = some (.int .i64 most)) (dl : D l) (dm : D m) :
    PutsG D w 72 #[.pointer (some ⟨l, 0, none⟩), .pointer (some ⟨m, 0, none⟩)] (.int .i64 x) (numW least most x) :=
  fun p S w1 ha hd w2 s h _ =>
    have ha2 := ha.keep h.keep hd
    putNum S w1 p l m least most x hx s w2 h (ha2.cell hl dl) (ha2.cell hm dm)

theorem blocks3 {w w1 : World} {o0 o1 o2 : Obj} (h : Below (((w.alloc o0).alloc o1).alloc o2).heap.size (((w.alloc o0).alloc o1).alloc o2) w1) :
    w1.heap[w.heap.size]? = some o0 ∧ w1.heap[w.heap.size + 1]? = some o1 ∧ w1.heap[w.heap.size + 1 + 1]? = some o2 ∧ Below w.heap.size w w1 := by
  have e1 : (w.alloc o0).heap.size = w.heap.size + 1 := by simp
  have e2 : ((w.alloc o0).alloc o1).heap.size = w.heap.size + 1 + 1 := by simp
  have e3 : (((w.alloc o0).alloc o1).alloc o2).heap.size = w.heap.size + 1 + 1 + 1 := by simp
  refine ⟨?_, ?_, ?_, ?_⟩
  · rw [h.block _ (by omega), Below.heap_alloc _ _ _ (by omega), Below.heap_alloc _ _ _ (by omega)]; exact heap_alloc_new w o0
  · rw [h.block _ (by omega), Below.heap_alloc _ _ _ (by omega), ← e1]; exact heap_alloc_new _ o1
  · rw [h.block _ (by omega), ← e2]; exact heap_alloc_new _ o2
  · exact ((((Below.refl w.heap.size w).alloc (Nat.le_refl _) o0).alloc (by omega) o1).alloc (by omega) o2).trans (h.mono (by omega))

theorem Numbers_any (least most : Int) (w : World) :
    Calls Try.prog 33 #[.int .i64 least, .int .i64 most] w fun en w' => ∃ l m, en = .returned (.agg #[.func (.func 72) #[] #[.pointer (some ⟨l, 0, none⟩), .pointer (some ⟨m, 0, none⟩)], .func (.func 74) #[] #[.pointer (some ⟨l, 0, none⟩), .pointer (some ⟨m, 0, none⟩)]]) ∧
      w'.cell? ⟨l, 0, none⟩ = some (.int .i64 least) ∧ w'.cell? ⟨m, 0, none⟩ = some (.int .i64 most) ∧ w.heap.size ≤ l ∧ w.heap.size ≤ m ∧ Below w.heap.size w w' := by
  have hmf : ∀ (fn : Fn) (first cap : Array Value) (w : World), (Instr.makeFunc fn first cap).run Try.prog w = .ok (.func fn first cap) w := fun _ _ _ _ => rfl
  go_enter Try.func33, Try.ntmps33
  go_wp2_with fail
  refine (MakeI _ _ _ _ _).mono ?_
  rintro e w1 ⟨rfl, hb1⟩
  obtain ⟨b0, b1, b2, hb⟩ := blocks3 hb1
  have f0 := cell_of_row _ _ 0 _ _ _ b2
  have f1 := cell_of_row _ _ 1 _ _ _ b2
  have z0 := frozen_of_row w1 _ 0 _ _ b2
  have z1 := frozen_of_row w1 _ 1 _ _ b2
  have d0 := cell_of_row _ _ 0 _ _ _ b0
  have d1 := cell_of_row _ _ 0 _ _ _ b1
  have HB := hide hb
  have D0 := hide d0
  have D1 := hide d1
  clear hb1 hb b0 b1 b2 d0 d1
  go_wp2
  refine ⟨rfl, .agg #[.func (.func 72) #[] #[.pointer (some ⟨w.heap.size, 0, none⟩), .pointer (some ⟨w.heap.size + 1, 0, none⟩)], .func (.func 74) #[] #[.pointer (some ⟨w.heap.size, 0, none⟩), .pointer (some ⟨w.heap.size + 1, 0, none⟩)]], by simp [results, Try.results33, go_sem, f0, f1], _, _, rfl, ?_, ?_, Nat.le_refl _, by omega, (HB.out.setCell (by show _ ≤ _; simp; omega) _).setCell (by show _ ≤ _; simp; omega) _⟩
  · have := D0.out
    rw [World.cell?_setCell_other, World.cell?_setCell_other, this]
    all_goals simp
  · have := D1.out
    rw [World.cell?_setCell_other, World.cell?_setCell_other, this]
    all_goals simp

end Go.Proofs.Yteaokgolnhdloaa
