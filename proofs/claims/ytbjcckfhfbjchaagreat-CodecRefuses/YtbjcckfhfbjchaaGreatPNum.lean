import Derived.Test.YtbjcckfhfbjchaaGreatPPut
import Derived.Laws.EntriesVeiled
/- Package pack: Bytes; Make; Numbers. -/
namespace Go.Proofs.YtbjcckfhfbjchaaGreat
open Go.RowKit

/-- the blocks of D read as they did -/
def Agree (D : Nat → Prop) (w w1 : World) : Prop := ∀ k, D k → k < w.heap.size ∧ w1.heap[k]? = w.heap[k]?

theorem Agree.lt {D : Nat → Prop} {w w1 : World} (h : Agree D w w1) {k : Nat} (hk : D k) : k < w1.heap.size := by
  obtain ⟨h1, h2⟩ := h k hk
  rcases Nat.lt_or_ge k w1.heap.size with h' | h'
  · exact h'
  · rw [Array.getElem?_eq_none h', Array.getElem?_eq_getElem h1] at h2; cases h2
theorem Agree.keep {D S : Nat → Prop} {w w1 w2 : World} (h : Agree D w w1) (hk : Keep S w1 w2) (hS : ∀ k, D k → ¬ S k) : Agree D w w2 :=
  fun k hd => ⟨(h k hd).1, (hk.block k (h.lt hd) (hS k hd)).trans (h k hd).2⟩
theorem Agree.cell {D : Nat → Prop} {w w1 : World} (h : Agree D w w1) {p : Addr} {v : Value} (hc : w.cell? p = some v) (hp : D p.block) : w1.cell? p = some v :=
  (World.cell?_of_block (w := w) (h p.block hp).2).trans hc
theorem Agree.below {w w1 : World} (h : Below w.heap.size w w1) : Agree (fun k => k < w.heap.size) w w1 := fun k hk => ⟨hk, h.block k hk⟩
theorem Agree.refl {D : Nat → Prop} {w : World} (h : ∀ k, D k → k < w.heap.size) : Agree D w w := fun k hk => ⟨h k hk, rfl⟩
theorem Agree.trans {D : Nat → Prop} {a b c : World} (h : Agree D a b) (k : Agree D b c) : Agree D a c := fun i hi => ⟨(h i hi).1, (k i hi).2.trans (h i hi).2⟩
theorem Agree.mono {D E : Nat → Prop} {a b : World} (h : Agree D a b) (hE : ∀ k, E k → D k) : Agree E a b := fun k hk => h k (hE k hk)

/-- what a put does with a value, in whatever world in which the blocks of D read as in w -/
def PutsG (D : Nat → Prop) (w : World) (fn : FuncId) (cap : Array Value) (x : Value) (f : K.WS → K.WS) : Prop :=
  ∀ p S w1, Agree D w w1 → (∀ k, D k → ¬ S k) → Puts S w1 p fn cap x f

theorem PutsG.mono {D E : Nat → Prop} {w w2 : World} {fn : FuncId} {cap : Array Value} {x : Value} {f : K.WS → K.WS} (h : PutsG D w fn cap x f) (hE : ∀ k, D k → E k) (ha : Agree D w w2) : PutsG E w2 fn cap x f :=
  fun p S w1 h1 h2 => h p S w1 (ha.trans (h1.mono hE)) fun k hk => h2 k (hE k hk)

theorem putW_zero {f : K.WS → K.WS} {s : K.WS} (h : s.fault = 0) : putW f s = f s := by unfold putW; rw [if_pos h]

theorem callFunc_enter {fn : FuncId} {f : Func} (h : Tryz.prog.funcs[fn]? = some f) (h1 : (f.name == "runtime.NumGoroutine") = false) (h2 : f.body.isNone = false) (args : Array Value) (w : World) : (callFunc fn args).run Tryz.prog w = .ok (.enter fn args) w := by
  simp [callFunc, h]
  rw [if_neg (by simpa using h1), if_neg (fun hb => by rw [hb] at h2; cases h2)]

end Go.Proofs.YtbjcckfhfbjchaaGreat

/- Package pack: Make, Numbers and its put. -/
namespace Go.Proofs.YtbjcckfhfbjchaaGreat
open Go.RowKit

theorem MakeI (fn1 fn2 : FuncId) (cap1 cap2 : Array Value) (w : World) :
    Calls Tryz.prog 83 #[.func (.func fn1) #[] cap1, .func (.func fn2) #[] cap2] w fun en w' => en = .returned (.agg #[.func (.func fn1) #[] cap1, .func (.func fn2) #[] cap2]) ∧ Below w.heap.size w w' := by
  go_enter Tryz.func83, Tryz.ntmps83
  go_wp2
  simp [bodyPost, results, Tryz.results83, go_sem]
  exact (Below.refl _ _).alloc (Nat.le_refl _) _

theorem MakeS (fn1 fn2 : FuncId) (cap1 cap2 : Array Value) (w : World) :
    Calls Tryz.prog 159 #[.func (.func fn1) #[] cap1, .func (.func fn2) #[] cap2] w fun en w' => en = .returned (.agg #[.func (.func fn1) #[] cap1, .func (.func fn2) #[] cap2]) ∧ Below w.heap.size w w' := by
  go_enter Tryz.func159, Tryz.ntmps159
  go_wp2
  simp [bodyPost, results, Tryz.results159, go_sem]
  exact (Below.refl _ _).alloc (Nat.le_refl _) _

theorem MakeLi (fn1 fn2 : FuncId) (cap1 cap2 : Array Value) (w : World) :
    Calls Tryz.prog 166 #[.func (.func fn1) #[] cap1, .func (.func fn2) #[] cap2] w fun en w' => en = .returned (.agg #[.func (.func fn1) #[] cap1, .func (.func fn2) #[] cap2]) ∧ Below w.heap.size w w' := by
  go_enter Tryz.func166, Tryz.ntmps166
  go_wp2
  simp [bodyPost, results, Tryz.results166, go_sem]
  exact (Below.refl _ _).alloc (Nat.le_refl _) _

theorem MakeW (fn1 fn2 : FuncId) (cap1 cap2 : Array Value) (w : World) :
    Calls Tryz.prog 179 #[.func (.func fn1) #[] cap1, .func (.func fn2) #[] cap2] w fun en w' => en = .returned (.agg #[.func (.func fn1) #[] cap1, .func (.func fn2) #[] cap2]) ∧ Below w.heap.size w w' := by
  go_enter Tryz.func179, Tryz.ntmps179
  go_wp2
  simp [bodyPost, results, Tryz.results179, go_sem]
  exact (Below.refl _ _).alloc (Nat.le_refl _) _

theorem MakeB (fn1 fn2 : FuncId) (cap1 cap2 : Array Value) (w : World) :
    Calls Tryz.prog 189 #[.func (.func fn1) #[] cap1, .func (.func fn2) #[] cap2] w fun en w' => en = .returned (.agg #[.func (.func fn1) #[] cap1, .func (.func fn2) #[] cap2]) ∧ Below w.heap.size w w' := by
  go_enter Tryz.func189, Tryz.ntmps189
  go_wp2
  simp [bodyPost, results, Tryz.results189, go_sem]
  exact (Below.refl _ _).alloc (Nat.le_refl _) _

theorem MakeLn (fn1 fn2 : FuncId) (cap1 cap2 : Array Value) (w : World) :
    Calls Tryz.prog 120 #[.func (.func fn1) #[] cap1, .func (.func fn2) #[] cap2] w fun en w' => en = .returned (.agg #[.func (.func fn1) #[] cap1, .func (.func fn2) #[] cap2]) ∧ Below w.heap.size w w' := by
  go_enter Tryz.func120, Tryz.ntmps120
  go_wp2
  simp [bodyPost, results, Tryz.results120, go_sem]
  exact (Below.refl _ _).alloc (Nat.le_refl _) _

theorem MakeNd (fn1 fn2 : FuncId) (cap1 cap2 : Array Value) (w : World) :
    Calls Tryz.prog 127 #[.func (.func fn1) #[] cap1, .func (.func fn2) #[] cap2] w fun en w' => en = .returned (.agg #[.func (.func fn1) #[] cap1, .func (.func fn2) #[] cap2]) ∧ Below w.heap.size w w' := by
  go_enter Tryz.func127, Tryz.ntmps127
  go_wp2
  simp [bodyPost, results, Tryz.results127, go_sem]
  exact (Below.refl _ _).alloc (Nat.le_refl _) _

theorem MakePn (fn1 fn2 : FuncId) (cap1 cap2 : Array Value) (w : World) :
    Calls Tryz.prog 63 #[.func (.func fn1) #[] cap1, .func (.func fn2) #[] cap2] w fun en w' => en = .returned (.agg #[.func (.func fn1) #[] cap1, .func (.func fn2) #[] cap2]) ∧ Below w.heap.size w w' := by
  go_enter Tryz.func63, Tryz.ntmps63
  go_wp2
  simp [bodyPost, results, Tryz.results63, go_sem]
  exact (Below.refl _ _).alloc (Nat.le_refl _) _

theorem MakeOp (fn1 fn2 : FuncId) (cap1 cap2 : Array Value) (w : World) :
    Calls Tryz.prog 49 #[.func (.func fn1) #[] cap1, .func (.func fn2) #[] cap2] w fun en w' => en = .returned (.agg #[.func (.func fn1) #[] cap1, .func (.func fn2) #[] cap2]) ∧ Below w.heap.size w w' := by
  go_enter Tryz.func49, Tryz.ntmps49
  go_wp2
  simp [bodyPost, results, Tryz.results49, go_sem]
  exact (Below.refl _ _).alloc (Nat.le_refl _) _


def numW (least most x : Int) (s : K.WS) : K.WS := if x < least ∨ x < 0 ∨ most < x then s.fail 22 else s.lay (K.num x.toNat)

theorem putNum (S : Nat → Prop) (w0 : World) (p l m : Nat) (least most x : Int) (hx : x ≤ 9223372036854775807) (s : K.WS) (w : World) (h : WAt S w0 p s w) (hl : w.cell? ⟨l, 0, none⟩ = some (.int .i64 least)) (hm : w.cell? ⟨m, 0, none⟩ = some (.int .i64 most)) :
    Calls Tryz.prog 78 #[.pointer (some ⟨p, 0, none⟩), .int .i64 x, .pointer (some ⟨l, 0, none⟩), .pointer (some ⟨m, 0, none⟩)] w fun en w' => en = .returned (.tuple #[]) ∧ WAt S w0 p (numW least most x s) w' := by
  have HH := hide h
  clear h
  unfold numW
  by_cases h1 : x < least
  · rw [if_pos (.inl h1)]
    go_enter Tryz.func78, Tryz.ntmps78
    go_wp2_with fail
    refine (Fail_any S w0 p s _ HH.out).mono ?_
    rintro e w1 ⟨rfl, h1⟩
    go_wp2
    first | go_end0 | refine bodyPost_ret (results_none rfl _ _ _) rfl ?_
    exact ⟨rfl, h1⟩
  · by_cases h2 : x < 0
    · rw [if_pos (.inr (.inl h2))]
      go_enter Tryz.func78, Tryz.ntmps78
      go_wp2_with fail
      refine (Fail_any S w0 p s _ HH.out).mono ?_
      rintro e w1 ⟨rfl, h1⟩
      go_wp2
      first | go_end0 | refine bodyPost_ret (results_none rfl _ _ _) rfl ?_
      exact ⟨rfl, h1⟩
    · by_cases h3 : most < x
      · rw [if_pos (.inr (.inr h3))]
        go_enter Tryz.func78, Tryz.ntmps78
        go_wp2_with fail
        refine (Fail_any S w0 p s _ HH.out).mono ?_
        rintro e w1 ⟨rfl, h1⟩
        go_wp2
        first | go_end0 | refine bodyPost_ret (results_none rfl _ _ _) rfl ?_
        exact ⟨rfl, h1⟩
      · rw [if_neg (by omega)]
        obtain ⟨n, rfl⟩ := Int.eq_ofNat_of_zero_le (show 0 ≤ x by omega)
        rw [Int.toNat_natCast]
        go_enter Tryz.func78, Tryz.ntmps78
        go_wp2_with fail
        refine (numberBytes_any n (by omega) _).mono ?_
        rintro e w1 ⟨a, c, rfl, hr, h0, hb⟩
        have HR := hide hr
        have H0 := hide h0
        have HH1 := hide (HH.out.below hb)
        clear hr h0 hb
        go_wp2_with fail
        refine (lay_any S w0 p s a _ c _ _ HH1.out HR.out H0.out).mono ?_
        rintro e w2 ⟨rfl, h2⟩
        go_wp2
        go_end0
        exact ⟨rfl, h2⟩

theorem ent_putNum (args : Array Value) (w : World) : (callFunc 78 args).run Tryz.prog w = .ok (.enter 78 args) w :=
  callFunc_enter Tryz.func78 (by kernel_rfl) (by kernel_rfl) args w

theorem putsNum (D : Nat → Prop) (w : World) (l m : Nat) (least most x : Int) (hx : x ≤ 9223372036854775807) (hl : w.cell? ⟨l, 0, none⟩ = some (.int .i64 least)) (hm : w.cell? ⟨m, 0, none⟩ = some (.int .i64 most)) (dl : D l) (dm : D m) :
    PutsG D w 78 #[.pointer (some ⟨l, 0, none⟩), .pointer (some ⟨m, 0, none⟩)] (.int .i64 x) (numW least most x) :=
  fun p S w1 ha hd w2 s h _ =>
    have ha2 := ha.keep h.keep hd
    putNum S w1 p l m least most x hx s w2 h (ha2.cell hl dl) (ha2.cell hm dm)

theorem blocks3 {w w1 : World} {o0 o1 o2 : Obj} (h : Below (((w.alloc o0).alloc o1).alloc o2).heap.size (((w.alloc o0).alloc o1).alloc o2) w1) :
    w1.heap[w.heap.size]? = some o0 ∧ w1.heap[w.heap.size + 1]? = some o1 ∧ w1.heap[w.heap.size + 1 + 1]? = some o2 ∧ Below w.heap.size w w1 := by
  have e1 : (w.alloc o0).heap.size = w.heap.size + 1 := by simp
  have e2 : ((w.alloc o0).alloc o1).heap.size = w.heap.size + 1 + 1 := by simp
  have e3 : (((w.alloc o0).alloc o1).alloc o2).heap.size = w.heap.size + 1 + 1 + 1 := by simp
  refine ⟨?_, ?_, ?_, ?_⟩
  · rw [h.block _ (by omega), Below.heap_alloc _ _ _ (by omega), Below.heap_alloc _ _ _ (by omega)]; exact heap_alloc_new w o0
  · rw [h.block _ (by omega), Below.heap_alloc _ _ _ (by omega), ← e1]; exact heap_alloc_new _ o1
  · rw [h.block _ (by omega), ← e2]; exact heap_alloc_new _ o2
  · exact ((((Below.refl w.heap.size w).alloc (Nat.le_refl _) o0).alloc (by omega) o1).alloc (by omega) o2).trans (h.mono (by omega))

theorem Numbers_any (least most : Int) (w : World) :
    Calls Tryz.prog 43 #[.int .i64 least, .int .i64 most] w fun en w' => ∃ l m, en = .returned (.agg #[.func (.func 78) #[] #[.pointer (some ⟨l, 0, none⟩), .pointer (some ⟨m, 0, none⟩)], .func (.func 81) #[] #[.pointer (some ⟨l, 0, none⟩), .pointer (some ⟨m, 0, none⟩)]]) ∧
      w'.cell? ⟨l, 0, none⟩ = some (.int .i64 least) ∧ w'.cell? ⟨m, 0, none⟩ = some (.int .i64 most) ∧ w.heap.size ≤ l ∧ w.heap.size ≤ m ∧ Below w.heap.size w w' := by
  have hmf : ∀ (fn : Fn) (first cap : Array Value) (w : World), (Instr.makeFunc fn first cap).run Tryz.prog w = .ok (.func fn first cap) w := fun _ _ _ _ => rfl
  go_enter Tryz.func43, Tryz.ntmps43
  go_wp2_with fail
  refine (MakeI _ _ _ _ _).mono ?_
  rintro e w1 ⟨rfl, hb1⟩
  obtain ⟨b0, b1, b2, hb⟩ := blocks3 hb1
  have f0 := cell_of_row _ _ 0 _ _ _ b2
  have f1 := cell_of_row _ _ 1 _ _ _ b2
  have z0 := frozen_of_row w1 _ 0 _ _ b2
  have z1 := frozen_of_row w1 _ 1 _ _ b2
  have d0 := cell_of_row _ _ 0 _ _ _ b0
  have d1 := cell_of_row _ _ 0 _ _ _ b1
  have HB := hide hb
  have D0 := hide d0
  have D1 := hide d1
  clear hb1 hb b0 b1 b2 d0 d1
  go_wp2
  refine ⟨rfl, .agg #[.func (.func 78) #[] #[.pointer (some ⟨w.heap.size, 0, none⟩), .pointer (some ⟨w.heap.size + 1, 0, none⟩)], .func (.func 81) #[] #[.pointer (some ⟨w.heap.size, 0, none⟩), .pointer (some ⟨w.heap.size + 1, 0, none⟩)]], by simp [results, Tryz.results43, go_sem, f0, f1], _, _, rfl, ?_, ?_, Nat.le_refl _, by omega, (HB.out.setCell (by show _ ≤ _; simp; omega) _).setCell (by show _ ≤ _; simp; omega) _⟩
  · have := D0.out
    rw [World.cell?_setCell_other, World.cell?_setCell_other, this]
    all_goals simp
  · have := D1.out
    rw [World.cell?_setCell_other, World.cell?_setCell_other, this]
    all_goals simp

end Go.Proofs.YtbjcckfhfbjchaaGreat
