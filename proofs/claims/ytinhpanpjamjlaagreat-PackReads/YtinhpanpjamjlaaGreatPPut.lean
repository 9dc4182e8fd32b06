/- Package pack: Form's Put, and Bytes. -/
import Derived.Test.YtinhpanpjamjlaaGreatPBytes
namespace Go.Proofs.YtinhpanpjamjlaaGreat
open Go.RowKit

theorem equalIn_func (d : Nat) (t : TypeId) (w : World) (fn : Fn) (first cap : Array Value) (ps rs : Array TypeId) (v : Bool) (h : Tryz.prog.underlying t = some (.func ps rs v)) :
    (Op.equalIn (d + 1) t (.func fn first cap) .nilFunc).run Tryz.prog w = .ok false w := by
  simp [Op.equalIn, run_underlying h]

theorem neq_func (t : TypeId) (w : World) (fn : Fn) (first cap : Array Value) (ps rs : Array TypeId) (v : Bool) (h : Tryz.prog.underlying t = some (.func ps rs v)) :
    (binOp .neq t (.func fn first cap) .nilFunc).run Tryz.prog w = .ok (.bool true) w := by
  simp only [binOp]
  simp [Op.equal, Op.maxDepth, equalIn_func 9999 t w fn first cap ps rs v h]

/-- a function value that can be called -/
structure Callee (fv : Value) (fn : FuncId) (cap : Array Value) : Prop where
  eq : fv = .func (.func fn) #[] cap
  ent : ∀ args w, (callFunc fn args).run Tryz.prog w = .ok (.enter fn args) w

/-- what a form's put does with a value -/
def Puts (S : Nat → Prop) (w0 : World) (p : Nat) (fn : FuncId) (cap : Array Value) (x : Value) (f : K.WS → K.WS) : Prop :=
  ∀ w s, WAt S w0 p s w → s.fault = 0 → Calls Tryz.prog fn (#[.pointer (some ⟨p, 0, none⟩), x] ++ cap) w fun en w' => en = .returned (.tuple #[]) ∧ WAt S w0 p (f s) w'

/-- Put: nothing behind a fault -/
def putW (f : K.WS → K.WS) (s : K.WS) : K.WS := if s.fault = 0 then f s else s

theorem wholeI (fn1 fn2 : FuncId) (cap1 cap2 : Array Value) (w : World) :
    Calls Tryz.prog 96 #[.agg #[.func (.func fn1) #[] cap1, .func (.func fn2) #[] cap2]] w fun en w' => en = .returned (.bool true) ∧ Below w.heap.size w w' := by
  have h1 := fun w fn cap => neq_func 59 w fn #[] cap _ _ _ Tryz.underlying59
  have h2 := fun w fn cap => neq_func 60 w fn #[] cap _ _ _ Tryz.underlying60
  go_enter Tryz.func96, Tryz.ntmps96
  go_wp2
  go_ret
  exact ⟨rfl, (Below.refl _ _).alloc (Nat.le_refl _) _⟩

theorem PutI (S : Nat → Prop) (w0 : World) (p : Nat) (fn1 fn2 : FuncId) (cap1 cap2 : Array Value) (x : Value) (f : K.WS → K.WS) (s : K.WS) (w : World) (h : WAt S w0 p s w) (hp : Puts S w0 p fn1 cap1 x f)
    (he : ∀ args w, (callFunc fn1 args).run Tryz.prog w = .ok (.enter fn1 args) w) :
    Calls Tryz.prog 31 #[.agg #[.func (.func fn1) #[] cap1, .func (.func fn2) #[] cap2], .pointer (some ⟨p, 0, none⟩), x] w fun en w' => en = .returned (.tuple #[]) ∧ WAt S w0 p (putW f s) w' := by
  have hb0 := (Below.refl w.heap.size w).alloc (Nat.le_refl _) (.cells #[.func (.func fn1) #[] cap1, .func (.func fn2) #[] cap2] 62)
  have HB := hide hb0
  have h1 := h.below hb0
  obtain ⟨v, c, _, _, c2, _, _, _⟩ := h1.see
  have HH := hide h1
  have HP := hide hp
  clear h hb0 h1 hp
  by_cases hz : s.fault = 0
  · have hz' : ((s.fault : Nat) : Int) = 0 := by omega
    have HZ := hide hz
    rw [hz'] at c2
    clear hz hz'
    go_enter Tryz.func31, Tryz.ntmps31
    go_wp2_with fail
    refine (wholeI fn1 fn2 cap1 cap2 _).mono ?_
    rintro e w1 ⟨rfl, hb1⟩
    have HH1 := hide (HH.out.below hb1)
    have hc0 := hb1.cell (p := ⟨w.heap.size, 0, none⟩) (by simp)
    have hc1 : w1.cell? ⟨w.heap.size, 0, none⟩ = some (.func (.func fn1) #[] cap1) := by rw [hc0, cell_of_row _ _ _ _ _ _ (heap_alloc_new w _)]; rfl
    clear hb1 hc0
    go_wp2_with fail
    refine (HP.out _ s HH1.out HZ.out).mono ?_
    rintro e w2 ⟨rfl, h2⟩
    go_wp2
    go_end0
    refine ⟨rfl, ?_⟩
    unfold putW
    rw [if_pos HZ.out]
    exact h2
  · have hz' : (((s.fault : Nat) : Int) == 0) = false := by simpa using hz
    go_enter Tryz.func31, Tryz.ntmps31
    go_wp2
    first | go_end0 | refine bodyPost_ret (results_none rfl _ _ _) rfl ?_
    refine ⟨rfl, ?_⟩
    unfold putW
    rw [if_neg hz]
    exact HH.out

theorem wholeS (fn1 fn2 : FuncId) (cap1 cap2 : Array Value) (w : World) :
    Calls Tryz.prog 106 #[.agg #[.func (.func fn1) #[] cap1, .func (.func fn2) #[] cap2]] w fun en w' => en = .returned (.bool true) ∧ Below w.heap.size w w' := by
  have h1 := fun w fn cap => neq_func 72 w fn #[] cap _ _ _ Tryz.underlying72
  have h2 := fun w fn cap => neq_func 73 w fn #[] cap _ _ _ Tryz.underlying73
  go_enter Tryz.func106, Tryz.ntmps106
  go_wp2
  go_ret
  exact ⟨rfl, (Below.refl _ _).alloc (Nat.le_refl _) _⟩

theorem PutS (S : Nat → Prop) (w0 : World) (p : Nat) (fn1 fn2 : FuncId) (cap1 cap2 : Array Value) (x : Value) (f : K.WS → K.WS) (s : K.WS) (w : World) (h : WAt S w0 p s w) (hp : Puts S w0 p fn1 cap1 x f)
    (he : ∀ args w, (callFunc fn1 args).run Tryz.prog w = .ok (.enter fn1 args) w) :
    Calls Tryz.prog 36 #[.agg #[.func (.func fn1) #[] cap1, .func (.func fn2) #[] cap2], .pointer (some ⟨p, 0, none⟩), x] w fun en w' => en = .returned (.tuple #[]) ∧ WAt S w0 p (putW f s) w' := by
  have hb0 := (Below.refl w.heap.size w).alloc (Nat.le_refl _) (.cells #[.func (.func fn1) #[] cap1, .func (.func fn2) #[] cap2] 75)
  have HB := hide hb0
  have h1 := h.below hb0
  obtain ⟨v, c, _, _, c2, _, _, _⟩ := h1.see
  have HH := hide h1
  have HP := hide hp
  clear h hb0 h1 hp
  by_cases hz : s.fault = 0
  · have hz' : ((s.fault : Nat) : Int) = 0 := by omega
    have HZ := hide hz
    rw [hz'] at c2
    clear hz hz'
    go_enter Tryz.func36, Tryz.ntmps36
    go_wp2_with fail
    refine (wholeS fn1 fn2 cap1 cap2 _).mono ?_
    rintro e w1 ⟨rfl, hb1⟩
    have HH1 := hide (HH.out.below hb1)
    have hc0 := hb1.cell (p := ⟨w.heap.size, 0, none⟩) (by simp)
    have hc1 : w1.cell? ⟨w.heap.size, 0, none⟩ = some (.func (.func fn1) #[] cap1) := by rw [hc0, cell_of_row _ _ _ _ _ _ (heap_alloc_new w _)]; rfl
    clear hb1 hc0
    go_wp2_with fail
    refine (HP.out _ s HH1.out HZ.out).mono ?_
    rintro e w2 ⟨rfl, h2⟩
    go_wp2
    go_end0
    refine ⟨rfl, ?_⟩
    unfold putW
    rw [if_pos HZ.out]
    exact h2
  · have hz' : (((s.fault : Nat) : Int) == 0) = false := by simpa using hz
    go_enter Tryz.func36, Tryz.ntmps36
    go_wp2
    first | go_end0 | refine bodyPost_ret (results_none rfl _ _ _) rfl ?_
    refine ⟨rfl, ?_⟩
    unfold putW
    rw [if_neg hz]
    exact HH.out

theorem wholeLs (fn1 fn2 : FuncId) (cap1 cap2 : Array Value) (w : World) :
    Calls Tryz.prog 118 #[.agg #[.func (.func fn1) #[] cap1, .func (.func fn2) #[] cap2]] w fun en w' => en = .returned (.bool true) ∧ Below w.heap.size w w' := by
  have h1 := fun w fn cap => neq_func 67 w fn #[] cap _ _ _ Tryz.underlying67
  have h2 := fun w fn cap => neq_func 68 w fn #[] cap _ _ _ Tryz.underlying68
  go_enter Tryz.func118, Tryz.ntmps118
  go_wp2
  go_ret
  exact ⟨rfl, (Below.refl _ _).alloc (Nat.le_refl _) _⟩

theorem PutLs (S : Nat → Prop) (w0 : World) (p : Nat) (fn1 fn2 : FuncId) (cap1 cap2 : Array Value) (x : Value) (f : K.WS → K.WS) (s : K.WS) (w : World) (h : WAt S w0 p s w) (hp : Puts S w0 p fn1 cap1 x f)
    (he : ∀ args w, (callFunc fn1 args).run Tryz.prog w = .ok (.enter fn1 args) w) :
    Calls Tryz.prog 41 #[.agg #[.func (.func fn1) #[] cap1, .func (.func fn2) #[] cap2], .pointer (some ⟨p, 0, none⟩), x] w fun en w' => en = .returned (.tuple #[]) ∧ WAt S w0 p (putW f s) w' := by
  have hb0 := (Below.refl w.heap.size w).alloc (Nat.le_refl _) (.cells #[.func (.func fn1) #[] cap1, .func (.func fn2) #[] cap2] 70)
  have HB := hide hb0
  have h1 := h.below hb0
  obtain ⟨v, c, _, _, c2, _, _, _⟩ := h1.see
  have HH := hide h1
  have HP := hide hp
  clear h hb0 h1 hp
  by_cases hz : s.fault = 0
  · have hz' : ((s.fault : Nat) : Int) = 0 := by omega
    have HZ := hide hz
    rw [hz'] at c2
    clear hz hz'
    go_enter Tryz.func41, Tryz.ntmps41
    go_wp2_with fail
    refine (wholeLs fn1 fn2 cap1 cap2 _).mono ?_
    rintro e w1 ⟨rfl, hb1⟩
    have HH1 := hide (HH.out.below hb1)
    have hc0 := hb1.cell (p := ⟨w.heap.size, 0, none⟩) (by simp)
    have hc1 : w1.cell? ⟨w.heap.size, 0, none⟩ = some (.func (.func fn1) #[] cap1) := by rw [hc0, cell_of_row _ _ _ _ _ _ (heap_alloc_new w _)]; rfl
    clear hb1 hc0
    go_wp2_with fail
    refine (HP.out _ s HH1.out HZ.out).mono ?_
    rintro e w2 ⟨rfl, h2⟩
    go_wp2
    go_end0
    refine ⟨rfl, ?_⟩
    unfold putW
    rw [if_pos HZ.out]
    exact h2
  · have hz' : (((s.fault : Nat) : Int) == 0) = false := by simpa using hz
    go_enter Tryz.func41, Tryz.ntmps41
    go_wp2
    first | go_end0 | refine bodyPost_ret (results_none rfl _ _ _) rfl ?_
    refine ⟨rfl, ?_⟩
    unfold putW
    rw [if_neg hz]
    exact HH.out

theorem wholeLi (fn1 fn2 : FuncId) (cap1 cap2 : Array Value) (w : World) :
    Calls Tryz.prog 117 #[.agg #[.func (.func fn1) #[] cap1, .func (.func fn2) #[] cap2]] w fun en w' => en = .returned (.bool true) ∧ Below w.heap.size w w' := by
  have h1 := fun w fn cap => neq_func 98 w fn #[] cap _ _ _ Tryz.underlying98
  have h2 := fun w fn cap => neq_func 99 w fn #[] cap _ _ _ Tryz.underlying99
  go_enter Tryz.func117, Tryz.ntmps117
  go_wp2
  go_ret
  exact ⟨rfl, (Below.refl _ _).alloc (Nat.le_refl _) _⟩

theorem PutLi (S : Nat → Prop) (w0 : World) (p : Nat) (fn1 fn2 : FuncId) (cap1 cap2 : Array Value) (x : Value) (f : K.WS → K.WS) (s : K.WS) (w : World) (h : WAt S w0 p s w) (hp : Puts S w0 p fn1 cap1 x f)
    (he : ∀ args w, (callFunc fn1 args).run Tryz.prog w = .ok (.enter fn1 args) w) :
    Calls Tryz.prog 40 #[.agg #[.func (.func fn1) #[] cap1, .func (.func fn2) #[] cap2], .pointer (some ⟨p, 0, none⟩), x] w fun en w' => en = .returned (.tuple #[]) ∧ WAt S w0 p (putW f s) w' := by
  have hb0 := (Below.refl w.heap.size w).alloc (Nat.le_refl _) (.cells #[.func (.func fn1) #[] cap1, .func (.func fn2) #[] cap2] 101)
  have HB := hide hb0
  have h1 := h.below hb0
  obtain ⟨v, c, _, _, c2, _, _, _⟩ := h1.see
  have HH := hide h1
  have HP := hide hp
  clear h hb0 h1 hp
  by_cases hz : s.fault = 0
  · have hz' : ((s.fault : Nat) : Int) = 0 := by omega
    have HZ := hide hz
    rw [hz'] at c2
    clear hz hz'
    go_enter Tryz.func40, Tryz.ntmps40
    go_wp2_with fail
    refine (wholeLi fn1 fn2 cap1 cap2 _).mono ?_
    rintro e w1 ⟨rfl, hb1⟩
    have HH1 := hide (HH.out.below hb1)
    have hc0 := hb1.cell (p := ⟨w.heap.size, 0, none⟩) (by simp)
    have hc1 : w1.cell? ⟨w.heap.size, 0, none⟩ = some (.func (.func fn1) #[] cap1) := by rw [hc0, cell_of_row _ _ _ _ _ _ (heap_alloc_new w _)]; rfl
    clear hb1 hc0
    go_wp2_with fail
    refine (HP.out _ s HH1.out HZ.out).mono ?_
    rintro e w2 ⟨rfl, h2⟩
    go_wp2
    go_end0
    refine ⟨rfl, ?_⟩
    unfold putW
    rw [if_pos HZ.out]
    exact h2
  · have hz' : (((s.fault : Nat) : Int) == 0) = false := by simpa using hz
    go_enter Tryz.func40, Tryz.ntmps40
    go_wp2
    first | go_end0 | refine bodyPost_ret (results_none rfl _ _ _) rfl ?_
    refine ⟨rfl, ?_⟩
    unfold putW
    rw [if_neg hz]
    exact HH.out

theorem wholeLli (fn1 fn2 : FuncId) (cap1 cap2 : Array Value) (w : World) :
    Calls Tryz.prog 124 #[.agg #[.func (.func fn1) #[] cap1, .func (.func fn2) #[] cap2]] w fun en w' => en = .returned (.bool true) ∧ Below w.heap.size w w' := by
  have h1 := fun w fn cap => neq_func 103 w fn #[] cap _ _ _ Tryz.underlying103
  have h2 := fun w fn cap => neq_func 104 w fn #[] cap _ _ _ Tryz.underlying104
  go_enter Tryz.func124, Tryz.ntmps124
  go_wp2
  go_ret
  exact ⟨rfl, (Below.refl _ _).alloc (Nat.le_refl _) _⟩

theorem PutLli (S : Nat → Prop) (w0 : World) (p : Nat) (fn1 fn2 : FuncId) (cap1 cap2 : Array Value) (x : Value) (f : K.WS → K.WS) (s : K.WS) (w : World) (h : WAt S w0 p s w) (hp : Puts S w0 p fn1 cap1 x f)
    (he : ∀ args w, (callFunc fn1 args).run Tryz.prog w = .ok (.enter fn1 args) w) :
    Calls Tryz.prog 43 #[.agg #[.func (.func fn1) #[] cap1, .func (.func fn2) #[] cap2], .pointer (some ⟨p, 0, none⟩), x] w fun en w' => en = .returned (.tuple #[]) ∧ WAt S w0 p (putW f s) w' := by
  have hb0 := (Below.refl w.heap.size w).alloc (Nat.le_refl _) (.cells #[.func (.func fn1) #[] cap1, .func (.func fn2) #[] cap2] 106)
  have HB := hide hb0
  have h1 := h.below hb0
  obtain ⟨v, c, _, _, c2, _, _, _⟩ := h1.see
  have HH := hide h1
  have HP := hide hp
  clear h hb0 h1 hp
  by_cases hz : s.fault = 0
  · have hz' : ((s.fault : Nat) : Int) = 0 := by omega
    have HZ := hide hz
    rw [hz'] at c2
    clear hz hz'
    go_enter Tryz.func43, Tryz.ntmps43
    go_wp2_with fail
    refine (wholeLli fn1 fn2 cap1 cap2 _).mono ?_
    rintro e w1 ⟨rfl, hb1⟩
    have HH1 := hide (HH.out.below hb1)
    have hc0 := hb1.cell (p := ⟨w.heap.size, 0, none⟩) (by simp)
    have hc1 : w1.cell? ⟨w.heap.size, 0, none⟩ = some (.func (.func fn1) #[] cap1) := by rw [hc0, cell_of_row _ _ _ _ _ _ (heap_alloc_new w _)]; rfl
    clear hb1 hc0
    go_wp2_with fail
    refine (HP.out _ s HH1.out HZ.out).mono ?_
    rintro e w2 ⟨rfl, h2⟩
    go_wp2
    go_end0
    refine ⟨rfl, ?_⟩
    unfold putW
    rw [if_pos HZ.out]
    exact h2
  · have hz' : (((s.fault : Nat) : Int) == 0) = false := by simpa using hz
    go_enter Tryz.func43, Tryz.ntmps43
    go_wp2
    first | go_end0 | refine bodyPost_ret (results_none rfl _ _ _) rfl ?_
    refine ⟨rfl, ?_⟩
    unfold putW
    rw [if_neg hz]
    exact HH.out

theorem wholeW (fn1 fn2 : FuncId) (cap1 cap2 : Array Value) (w : World) :
    Calls Tryz.prog 101 #[.agg #[.func (.func fn1) #[] cap1, .func (.func fn2) #[] cap2]] w fun en w' => en = .returned (.bool true) ∧ Below w.heap.size w w' := by
  have h1 := fun w fn cap => neq_func 83 w fn #[] cap _ _ _ Tryz.underlying83
  have h2 := fun w fn cap => neq_func 84 w fn #[] cap _ _ _ Tryz.underlying84
  go_enter Tryz.func101, Tryz.ntmps101
  go_wp2
  go_ret
  exact ⟨rfl, (Below.refl _ _).alloc (Nat.le_refl _) _⟩

theorem PutW (S : Nat → Prop) (w0 : World) (p : Nat) (fn1 fn2 : FuncId) (cap1 cap2 : Array Value) (x : Value) (f : K.WS → K.WS) (s : K.WS) (w : World) (h : WAt S w0 p s w) (hp : Puts S w0 p fn1 cap1 x f)
    (he : ∀ args w, (callFunc fn1 args).run Tryz.prog w = .ok (.enter fn1 args) w) :
    Calls Tryz.prog 33 #[.agg #[.func (.func fn1) #[] cap1, .func (.func fn2) #[] cap2], .pointer (some ⟨p, 0, none⟩), x] w fun en w' => en = .returned (.tuple #[]) ∧ WAt S w0 p (putW f s) w' := by
  have hb0 := (Below.refl w.heap.size w).alloc (Nat.le_refl _) (.cells #[.func (.func fn1) #[] cap1, .func (.func fn2) #[] cap2] 86)
  have HB := hide hb0
  have h1 := h.below hb0
  obtain ⟨v, c, _, _, c2, _, _, _⟩ := h1.see
  have HH := hide h1
  have HP := hide hp
  clear h hb0 h1 hp
  by_cases hz : s.fault = 0
  · have hz' : ((s.fault : Nat) : Int) = 0 := by omega
    have HZ := hide hz
    rw [hz'] at c2
    clear hz hz'
    go_enter Tryz.func33, Tryz.ntmps33
    go_wp2_with fail
    refine (wholeW fn1 fn2 cap1 cap2 _).mono ?_
    rintro e w1 ⟨rfl, hb1⟩
    have HH1 := hide (HH.out.below hb1)
    have hc0 := hb1.cell (p := ⟨w.heap.size, 0, none⟩) (by simp)
    have hc1 : w1.cell? ⟨w.heap.size, 0, none⟩ = some (.func (.func fn1) #[] cap1) := by rw [hc0, cell_of_row _ _ _ _ _ _ (heap_alloc_new w _)]; rfl
    clear hb1 hc0
    go_wp2_with fail
    refine (HP.out _ s HH1.out HZ.out).mono ?_
    rintro e w2 ⟨rfl, h2⟩
    go_wp2
    go_end0
    refine ⟨rfl, ?_⟩
    unfold putW
    rw [if_pos HZ.out]
    exact h2
  · have hz' : (((s.fault : Nat) : Int) == 0) = false := by simpa using hz
    go_enter Tryz.func33, Tryz.ntmps33
    go_wp2
    first | go_end0 | refine bodyPost_ret (results_none rfl _ _ _) rfl ?_
    refine ⟨rfl, ?_⟩
    unfold putW
    rw [if_neg hz]
    exact HH.out

theorem wholeLw (fn1 fn2 : FuncId) (cap1 cap2 : Array Value) (w : World) :
    Calls Tryz.prog 130 #[.agg #[.func (.func fn1) #[] cap1, .func (.func fn2) #[] cap2]] w fun en w' => en = .returned (.bool true) ∧ Below w.heap.size w w' := by
  have h1 := fun w fn cap => neq_func 108 w fn #[] cap _ _ _ Tryz.underlying108
  have h2 := fun w fn cap => neq_func 109 w fn #[] cap _ _ _ Tryz.underlying109
  go_enter Tryz.func130, Tryz.ntmps130
  go_wp2
  go_ret
  exact ⟨rfl, (Below.refl _ _).alloc (Nat.le_refl _) _⟩

theorem PutLw (S : Nat → Prop) (w0 : World) (p : Nat) (fn1 fn2 : FuncId) (cap1 cap2 : Array Value) (x : Value) (f : K.WS → K.WS) (s : K.WS) (w : World) (h : WAt S w0 p s w) (hp : Puts S w0 p fn1 cap1 x f)
    (he : ∀ args w, (callFunc fn1 args).run Tryz.prog w = .ok (.enter fn1 args) w) :
    Calls Tryz.prog 45 #[.agg #[.func (.func fn1) #[] cap1, .func (.func fn2) #[] cap2], .pointer (some ⟨p, 0, none⟩), x] w fun en w' => en = .returned (.tuple #[]) ∧ WAt S w0 p (putW f s) w' := by
  have hb0 := (Below.refl w.heap.size w).alloc (Nat.le_refl _) (.cells #[.func (.func fn1) #[] cap1, .func (.func fn2) #[] cap2] 111)
  have HB := hide hb0
  have h1 := h.below hb0
  obtain ⟨v, c, _, _, c2, _, _, _⟩ := h1.see
  have HH := hide h1
  have HP := hide hp
  clear h hb0 h1 hp
  by_cases hz : s.fault = 0
  · have hz' : ((s.fault : Nat) : Int) = 0 := by omega
    have HZ := hide hz
    rw [hz'] at c2
    clear hz hz'
    go_enter Tryz.func45, Tryz.ntmps45
    go_wp2_with fail
    refine (wholeLw fn1 fn2 cap1 cap2 _).mono ?_
    rintro e w1 ⟨rfl, hb1⟩
    have HH1 := hide (HH.out.below hb1)
    have hc0 := hb1.cell (p := ⟨w.heap.size, 0, none⟩) (by simp)
    have hc1 : w1.cell? ⟨w.heap.size, 0, none⟩ = some (.func (.func fn1) #[] cap1) := by rw [hc0, cell_of_row _ _ _ _ _ _ (heap_alloc_new w _)]; rfl
    clear hb1 hc0
    go_wp2_with fail
    refine (HP.out _ s HH1.out HZ.out).mono ?_
    rintro e w2 ⟨rfl, h2⟩
    go_wp2
    go_end0
    refine ⟨rfl, ?_⟩
    unfold putW
    rw [if_pos HZ.out]
    exact h2
  · have hz' : (((s.fault : Nat) : Int) == 0) = false := by simpa using hz
    go_enter Tryz.func45, Tryz.ntmps45
    go_wp2
    first | go_end0 | refine bodyPost_ret (results_none rfl _ _ _) rfl ?_
    refine ⟨rfl, ?_⟩
    unfold putW
    rw [if_neg hz]
    exact HH.out

theorem wholeF (fn1 fn2 : FuncId) (cap1 cap2 : Array Value) (w : World) :
    Calls Tryz.prog 105 #[.agg #[.func (.func fn1) #[] cap1, .func (.func fn2) #[] cap2]] w fun en w' => en = .returned (.bool true) ∧ Below w.heap.size w w' := by
  have h1 := fun w fn cap => neq_func 88 w fn #[] cap _ _ _ Tryz.underlying88
  have h2 := fun w fn cap => neq_func 89 w fn #[] cap _ _ _ Tryz.underlying89
  go_enter Tryz.func105, Tryz.ntmps105
  go_wp2
  go_ret
  exact ⟨rfl, (Below.refl _ _).alloc (Nat.le_refl _) _⟩

theorem PutF (S : Nat → Prop) (w0 : World) (p : Nat) (fn1 fn2 : FuncId) (cap1 cap2 : Array Value) (x : Value) (f : K.WS → K.WS) (s : K.WS) (w : World) (h : WAt S w0 p s w) (hp : Puts S w0 p fn1 cap1 x f)
    (he : ∀ args w, (callFunc fn1 args).run Tryz.prog w = .ok (.enter fn1 args) w) :
    Calls Tryz.prog 35 #[.agg #[.func (.func fn1) #[] cap1, .func (.func fn2) #[] cap2], .pointer (some ⟨p, 0, none⟩), x] w fun en w' => en = .returned (.tuple #[]) ∧ WAt S w0 p (putW f s) w' := by
  have hb0 := (Below.refl w.heap.size w).alloc (Nat.le_refl _) (.cells #[.func (.func fn1) #[] cap1, .func (.func fn2) #[] cap2] 91)
  have HB := hide hb0
  have h1 := h.below hb0
  obtain ⟨v, c, _, _, c2, _, _, _⟩ := h1.see
  have HH := hide h1
  have HP := hide hp
  clear h hb0 h1 hp
  by_cases hz : s.fault = 0
  · have hz' : ((s.fault : Nat) : Int) = 0 := by omega
    have HZ := hide hz
    rw [hz'] at c2
    clear hz hz'
    go_enter Tryz.func35, Tryz.ntmps35
    go_wp2_with fail
    refine (wholeF fn1 fn2 cap1 cap2 _).mono ?_
    rintro e w1 ⟨rfl, hb1⟩
    have HH1 := hide (HH.out.below hb1)
    have hc0 := hb1.cell (p := ⟨w.heap.size, 0, none⟩) (by simp)
    have hc1 : w1.cell? ⟨w.heap.size, 0, none⟩ = some (.func (.func fn1) #[] cap1) := by rw [hc0, cell_of_row _ _ _ _ _ _ (heap_alloc_new w _)]; rfl
    clear hb1 hc0
    go_wp2_with fail
    refine (HP.out _ s HH1.out HZ.out).mono ?_
    rintro e w2 ⟨rfl, h2⟩
    go_wp2
    go_end0
    refine ⟨rfl, ?_⟩
    unfold putW
    rw [if_pos HZ.out]
    exact h2
  · have hz' : (((s.fault : Nat) : Int) == 0) = false := by simpa using hz
    go_enter Tryz.func35, Tryz.ntmps35
    go_wp2
    first | go_end0 | refine bodyPost_ret (results_none rfl _ _ _) rfl ?_
    refine ⟨rfl, ?_⟩
    unfold putW
    rw [if_neg hz]
    exact HH.out

theorem wholeB (fn1 fn2 : FuncId) (cap1 cap2 : Array Value) (w : World) :
    Calls Tryz.prog 111 #[.agg #[.func (.func fn1) #[] cap1, .func (.func fn2) #[] cap2]] w fun en w' => en = .returned (.bool true) ∧ Below w.heap.size w w' := by
  have h1 := fun w fn cap => neq_func 93 w fn #[] cap _ _ _ Tryz.underlying93
  have h2 := fun w fn cap => neq_func 94 w fn #[] cap _ _ _ Tryz.underlying94
  go_enter Tryz.func111, Tryz.ntmps111
  go_wp2
  go_ret
  exact ⟨rfl, (Below.refl _ _).alloc (Nat.le_refl _) _⟩

theorem PutB (S : Nat → Prop) (w0 : World) (p : Nat) (fn1 fn2 : FuncId) (cap1 cap2 : Array Value) (x : Value) (f : K.WS → K.WS) (s : K.WS) (w : World) (h : WAt S w0 p s w) (hp : Puts S w0 p fn1 cap1 x f)
    (he : ∀ args w, (callFunc fn1 args).run Tryz.prog w = .ok (.enter fn1 args) w) :
    Calls Tryz.prog 38 #[.agg #[.func (.func fn1) #[] cap1, .func (.func fn2) #[] cap2], .pointer (some ⟨p, 0, none⟩), x] w fun en w' => en = .returned (.tuple #[]) ∧ WAt S w0 p (putW f s) w' := by
  have hb0 := (Below.refl w.heap.size w).alloc (Nat.le_refl _) (.cells #[.func (.func fn1) #[] cap1, .func (.func fn2) #[] cap2] 96)
  have HB := hide hb0
  have h1 := h.below hb0
  obtain ⟨v, c, _, _, c2, _, _, _⟩ := h1.see
  have HH := hide h1
  have HP := hide hp
  clear h hb0 h1 hp
  by_cases hz : s.fault = 0
  · have hz' : ((s.fault : Nat) : Int) = 0 := by omega
    have HZ := hide hz
    rw [hz'] at c2
    clear hz hz'
    go_enter Tryz.func38, Tryz.ntmps38
    go_wp2_with fail
    refine (wholeB fn1 fn2 cap1 cap2 _).mono ?_
    rintro e w1 ⟨rfl, hb1⟩
    have HH1 := hide (HH.out.below hb1)
    have hc0 := hb1.cell (p := ⟨w.heap.size, 0, none⟩) (by simp)
    have hc1 : w1.cell? ⟨w.heap.size, 0, none⟩ = some (.func (.func fn1) #[] cap1) := by rw [hc0, cell_of_row _ _ _ _ _ _ (heap_alloc_new w _)]; rfl
    clear hb1 hc0
    go_wp2_with fail
    refine (HP.out _ s HH1.out HZ.out).mono ?_
    rintro e w2 ⟨rfl, h2⟩
    go_wp2
    go_end0
    refine ⟨rfl, ?_⟩
    unfold putW
    rw [if_pos HZ.out]
    exact h2
  · have hz' : (((s.fault : Nat) : Int) == 0) = false := by simpa using hz
    go_enter Tryz.func38, Tryz.ntmps38
    go_wp2
    first | go_end0 | refine bodyPost_ret (results_none rfl _ _ _) rfl ?_
    refine ⟨rfl, ?_⟩
    unfold putW
    rw [if_neg hz]
    exact HH.out

end Go.Proofs.YtinhpanpjamjlaaGreat
