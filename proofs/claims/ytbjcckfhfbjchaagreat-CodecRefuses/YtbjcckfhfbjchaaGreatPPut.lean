/- Package pack: Form's Put, and Bytes. -/
import Derived.Test.YtbjcckfhfbjchaaGreatPBytes
namespace Go.Proofs.YtbjcckfhfbjchaaGreat
open Go.RowKit

theorem equalIn_func (d : Nat) (t : TypeId) (w : World) (fn : Fn) (first cap : Array Value) (ps rs : Array TypeId) (v : Bool) (h : Tryz.prog.underlying t = some (.func ps rs v)) :
    (Op.equalIn (d + 1) t (.func fn first cap) .nilFunc).run Tryz.prog w = .ok false w := by
  simp [Op.equalIn, run_underlying h]

theorem neq_func (t : TypeId) (w : World) (fn : Fn) (first cap : Array Value) (ps rs : Array TypeId) (v : Bool) (h : Tryz.prog.underlying t = some (.func ps rs v)) :
    (binOp .neq t (.func fn first cap) .nilFunc).run Tryz.prog w = .ok (.bool true) w := by
  simp only [binOp]
  simp [Op.equal, Op.maxDepth, equalIn_func 9999 t w fn first cap ps rs v h]

/-- a function value that can be called -/
structure Callee (fv : Value) (fn : FuncId) (cap : Array Value) : Prop where
  eq : fv = .func (.func fn) #[] cap
  ent : ∀ args w, (callFunc fn args).run Tryz.prog w = .ok (.enter fn args) w

/-- what a form's put does with a value -/
def Puts (S : Nat → Prop) (w0 : World) (p : Nat) (fn : FuncId) (cap : Array Value) (x : Value) (f : K.WS → K.WS) : Prop :=
  ∀ w s, WAt S w0 p s w → s.fault = 0 → Calls Tryz.prog fn (#[.pointer (some ⟨p, 0, none⟩), x] ++ cap) w fun en w' => en = .returned (.tuple #[]) ∧ WAt S w0 p (f s) w'

/-- Put: nothing behind a fault -/
def putW (f : K.WS → K.WS) (s : K.WS) : K.WS := if s.fault = 0 then f s else s

theorem wholeI (fn1 fn2 : FuncId) (cap1 cap2 : Array Value) (w : World) :
    Calls Tryz.prog 102 #[.agg #[.func (.func fn1) #[] cap1, .func (.func fn2) #[] cap2]] w fun en w' => en = .returned (.bool true) ∧ Below w.heap.size w w' := by
  have h1 := fun w fn cap => neq_func 87 w fn #[] cap _ _ _ Tryz.underlying87
  have h2 := fun w fn cap => neq_func 88 w fn #[] cap _ _ _ Tryz.underlying88
  go_enter Tryz.func102, Tryz.ntmps102
  go_wp2
  go_ret
  exact ⟨rfl, (Below.refl _ _).alloc (Nat.le_refl _) _⟩

theorem PutI (S : Nat → Prop) (w0 : World) (p : Nat) (fn1 fn2 : FuncId) (cap1 cap2 : Array Value) (x : Value) (f : K.WS → K.WS) (s : K.WS) (w : World) (h : WAt S w0 p s w) (hp : Puts S w0 p fn1 cap1 x f)
    (he : ∀ args w, (callFunc fn1 args).run Tryz.prog w = .ok (.enter fn1 args) w) :
    Calls Tryz.prog 46 #[.agg #[.func (.func fn1) #[] cap1, .func (.func fn2) #[] cap2], .pointer (some ⟨p, 0, none⟩), x] w fun en w' => en = .returned (.tuple #[]) ∧ WAt S w0 p (putW f s) w' := by
  have hb0 := (Below.refl w.heap.size w).alloc (Nat.le_refl _) (.cells #[.func (.func fn1) #[] cap1, .func (.func fn2) #[] cap2] 90)
  have HB := hide hb0
  have h1 := h.below hb0
  obtain ⟨v, c, _, _, c2, _, _, _⟩ := h1.see
  have HH := hide h1
  have HP := hide hp
  clear h hb0 h1 hp
  by_cases hz : s.fault = 0
  · have hz' : ((s.fault : Nat) : Int) = 0 := by omega
    have HZ := hide hz
    rw [hz'] at c2
    clear hz hz'
    go_enter Tryz.func46, Tryz.ntmps46
    go_wp2_with fail
    refine (wholeI fn1 fn2 cap1 cap2 _).mono ?_
    rintro e w1 ⟨rfl, hb1⟩
    have HH1 := hide (HH.out.below hb1)
    have hc0 := hb1.cell (p := ⟨w.heap.size, 0, none⟩) (by simp)
    have hc1 : w1.cell? ⟨w.heap.size, 0, none⟩ = some (.func (.func fn1) #[] cap1) := by rw [hc0, cell_of_row _ _ _ _ _ _ (heap_alloc_new w _)]; rfl
    clear hb1 hc0
    go_wp2_with fail
    refine (HP.out _ s HH1.out HZ.out).mono ?_
    rintro e w2 ⟨rfl, h2⟩
    go_wp2
    go_end0
    refine ⟨rfl, ?_⟩
    unfold putW
    rw [if_pos HZ.out]
    exact h2
  · have hz' : (((s.fault : Nat) : Int) == 0) = false := by simpa using hz
    go_enter Tryz.func46, Tryz.ntmps46
    go_wp2
    first | go_end0 | refine bodyPost_ret (results_none rfl _ _ _) rfl ?_
    refine ⟨rfl, ?_⟩
    unfold putW
    rw [if_neg hz]
    exact HH.out

theorem wholeS (fn1 fn2 : FuncId) (cap1 cap2 : Array Value) (w : World) :
    Calls Tryz.prog 128 #[.agg #[.func (.func fn1) #[] cap1, .func (.func fn2) #[] cap2]] w fun en w' => en = .returned (.bool true) ∧ Below w.heap.size w w' := by
  have h1 := fun w fn cap => neq_func 106 w fn #[] cap _ _ _ Tryz.underlying106
  have h2 := fun w fn cap => neq_func 107 w fn #[] cap _ _ _ Tryz.underlying107
  go_enter Tryz.func128, Tryz.ntmps128
  go_wp2
  go_ret
  exact ⟨rfl, (Below.refl _ _).alloc (Nat.le_refl _) _⟩

theorem PutS (S : Nat → Prop) (w0 : World) (p : Nat) (fn1 fn2 : FuncId) (cap1 cap2 : Array Value) (x : Value) (f : K.WS → K.WS) (s : K.WS) (w : World) (h : WAt S w0 p s w) (hp : Puts S w0 p fn1 cap1 x f)
    (he : ∀ args w, (callFunc fn1 args).run Tryz.prog w = .ok (.enter fn1 args) w) :
    Calls Tryz.prog 58 #[.agg #[.func (.func fn1) #[] cap1, .func (.func fn2) #[] cap2], .pointer (some ⟨p, 0, none⟩), x] w fun en w' => en = .returned (.tuple #[]) ∧ WAt S w0 p (putW f s) w' := by
  have hb0 := (Below.refl w.heap.size w).alloc (Nat.le_refl _) (.cells #[.func (.func fn1) #[] cap1, .func (.func fn2) #[] cap2] 109)
  have HB := hide hb0
  have h1 := h.below hb0
  obtain ⟨v, c, _, _, c2, _, _, _⟩ := h1.see
  have HH := hide h1
  have HP := hide hp
  clear h hb0 h1 hp
  by_cases hz : s.fault = 0
  · have hz' : ((s.fault : Nat) : Int) = 0 := by omega
    have HZ := hide hz
    rw [hz'] at c2
    clear hz hz'
    go_enter Tryz.func58, Tryz.ntmps58
    go_wp2_with fail
    refine (wholeS fn1 fn2 cap1 cap2 _).mono ?_
    rintro e w1 ⟨rfl, hb1⟩
    have HH1 := hide (HH.out.below hb1)
    have hc0 := hb1.cell (p := ⟨w.heap.size, 0, none⟩) (by simp)
    have hc1 : w1.cell? ⟨w.heap.size, 0, none⟩ = some (.func (.func fn1) #[] cap1) := by rw [hc0, cell_of_row _ _ _ _ _ _ (heap_alloc_new w _)]; rfl
    clear hb1 hc0
    go_wp2_with fail
    refine (HP.out _ s HH1.out HZ.out).mono ?_
    rintro e w2 ⟨rfl, h2⟩
    go_wp2
    go_end0
    refine ⟨rfl, ?_⟩
    unfold putW
    rw [if_pos HZ.out]
    exact h2
  · have hz' : (((s.fault : Nat) : Int) == 0) = false := by simpa using hz
    go_enter Tryz.func58, Tryz.ntmps58
    go_wp2
    first | go_end0 | refine bodyPost_ret (results_none rfl _ _ _) rfl ?_
    refine ⟨rfl, ?_⟩
    unfold putW
    rw [if_neg hz]
    exact HH.out

theorem wholeLi (fn1 fn2 : FuncId) (cap1 cap2 : Array Value) (w : World) :
    Calls Tryz.prog 167 #[.agg #[.func (.func fn1) #[] cap1, .func (.func fn2) #[] cap2]] w fun en w' => en = .returned (.bool true) ∧ Below w.heap.size w w' := by
  have h1 := fun w fn cap => neq_func 155 w fn #[] cap _ _ _ Tryz.underlying155
  have h2 := fun w fn cap => neq_func 156 w fn #[] cap _ _ _ Tryz.underlying156
  go_enter Tryz.func167, Tryz.ntmps167
  go_wp2
  go_ret
  exact ⟨rfl, (Below.refl _ _).alloc (Nat.le_refl _) _⟩

theorem PutLi (S : Nat → Prop) (w0 : World) (p : Nat) (fn1 fn2 : FuncId) (cap1 cap2 : Array Value) (x : Value) (f : K.WS → K.WS) (s : K.WS) (w : World) (h : WAt S w0 p s w) (hp : Puts S w0 p fn1 cap1 x f)
    (he : ∀ args w, (callFunc fn1 args).run Tryz.prog w = .ok (.enter fn1 args) w) :
    Calls Tryz.prog 124 #[.agg #[.func (.func fn1) #[] cap1, .func (.func fn2) #[] cap2], .pointer (some ⟨p, 0, none⟩), x] w fun en w' => en = .returned (.tuple #[]) ∧ WAt S w0 p (putW f s) w' := by
  have hb0 := (Below.refl w.heap.size w).alloc (Nat.le_refl _) (.cells #[.func (.func fn1) #[] cap1, .func (.func fn2) #[] cap2] 158)
  have HB := hide hb0
  have h1 := h.below hb0
  obtain ⟨v, c, _, _, c2, _, _, _⟩ := h1.see
  have HH := hide h1
  have HP := hide hp
  clear h hb0 h1 hp
  by_cases hz : s.fault = 0
  · have hz' : ((s.fault : Nat) : Int) = 0 := by omega
    have HZ := hide hz
    rw [hz'] at c2
    clear hz hz'
    go_enter Tryz.func124, Tryz.ntmps124
    go_wp2_with fail
    refine (wholeLi fn1 fn2 cap1 cap2 _).mono ?_
    rintro e w1 ⟨rfl, hb1⟩
    have HH1 := hide (HH.out.below hb1)
    have hc0 := hb1.cell (p := ⟨w.heap.size, 0, none⟩) (by simp)
    have hc1 : w1.cell? ⟨w.heap.size, 0, none⟩ = some (.func (.func fn1) #[] cap1) := by rw [hc0, cell_of_row _ _ _ _ _ _ (heap_alloc_new w _)]; rfl
    clear hb1 hc0
    go_wp2_with fail
    refine (HP.out _ s HH1.out HZ.out).mono ?_
    rintro e w2 ⟨rfl, h2⟩
    go_wp2
    go_end0
    refine ⟨rfl, ?_⟩
    unfold putW
    rw [if_pos HZ.out]
    exact h2
  · have hz' : (((s.fault : Nat) : Int) == 0) = false := by simpa using hz
    go_enter Tryz.func124, Tryz.ntmps124
    go_wp2
    first | go_end0 | refine bodyPost_ret (results_none rfl _ _ _) rfl ?_
    refine ⟨rfl, ?_⟩
    unfold putW
    rw [if_neg hz]
    exact HH.out

theorem wholeW (fn1 fn2 : FuncId) (cap1 cap2 : Array Value) (w : World) :
    Calls Tryz.prog 180 #[.agg #[.func (.func fn1) #[] cap1, .func (.func fn2) #[] cap2]] w fun en w' => en = .returned (.bool true) ∧ Below w.heap.size w w' := by
  have h1 := fun w fn cap => neq_func 169 w fn #[] cap _ _ _ Tryz.underlying169
  have h2 := fun w fn cap => neq_func 170 w fn #[] cap _ _ _ Tryz.underlying170
  go_enter Tryz.func180, Tryz.ntmps180
  go_wp2
  go_ret
  exact ⟨rfl, (Below.refl _ _).alloc (Nat.le_refl _) _⟩

theorem PutW (S : Nat → Prop) (w0 : World) (p : Nat) (fn1 fn2 : FuncId) (cap1 cap2 : Array Value) (x : Value) (f : K.WS → K.WS) (s : K.WS) (w : World) (h : WAt S w0 p s w) (hp : Puts S w0 p fn1 cap1 x f)
    (he : ∀ args w, (callFunc fn1 args).run Tryz.prog w = .ok (.enter fn1 args) w) :
    Calls Tryz.prog 145 #[.agg #[.func (.func fn1) #[] cap1, .func (.func fn2) #[] cap2], .pointer (some ⟨p, 0, none⟩), x] w fun en w' => en = .returned (.tuple #[]) ∧ WAt S w0 p (putW f s) w' := by
  have hb0 := (Below.refl w.heap.size w).alloc (Nat.le_refl _) (.cells #[.func (.func fn1) #[] cap1, .func (.func fn2) #[] cap2] 172)
  have HB := hide hb0
  have h1 := h.below hb0
  obtain ⟨v, c, _, _, c2, _, _, _⟩ := h1.see
  have HH := hide h1
  have HP := hide hp
  clear h hb0 h1 hp
  by_cases hz : s.fault = 0
  · have hz' : ((s.fault : Nat) : Int) = 0 := by omega
    have HZ := hide hz
    rw [hz'] at c2
    clear hz hz'
    go_enter Tryz.func145, Tryz.ntmps145
    go_wp2_with fail
    refine (wholeW fn1 fn2 cap1 cap2 _).mono ?_
    rintro e w1 ⟨rfl, hb1⟩
    have HH1 := hide (HH.out.below hb1)
    have hc0 := hb1.cell (p := ⟨w.heap.size, 0, none⟩) (by simp)
    have hc1 : w1.cell? ⟨w.heap.size, 0, none⟩ = some (.func (.func fn1) #[] cap1) := by rw [hc0, cell_of_row _ _ _ _ _ _ (heap_alloc_new w _)]; rfl
    clear hb1 hc0
    go_wp2_with fail
    refine (HP.out _ s HH1.out HZ.out).mono ?_
    rintro e w2 ⟨rfl, h2⟩
    go_wp2
    go_end0
    refine ⟨rfl, ?_⟩
    unfold putW
    rw [if_pos HZ.out]
    exact h2
  · have hz' : (((s.fault : Nat) : Int) == 0) = false := by simpa using hz
    go_enter Tryz.func145, Tryz.ntmps145
    go_wp2
    first | go_end0 | refine bodyPost_ret (results_none rfl _ _ _) rfl ?_
    refine ⟨rfl, ?_⟩
    unfold putW
    rw [if_neg hz]
    exact HH.out

theorem wholeB (fn1 fn2 : FuncId) (cap1 cap2 : Array Value) (w : World) :
    Calls Tryz.prog 174 #[.agg #[.func (.func fn1) #[] cap1, .func (.func fn2) #[] cap2]] w fun en w' => en = .returned (.bool true) ∧ Below w.heap.size w w' := by
  have h1 := fun w fn cap => neq_func 164 w fn #[] cap _ _ _ Tryz.underlying164
  have h2 := fun w fn cap => neq_func 165 w fn #[] cap _ _ _ Tryz.underlying165
  go_enter Tryz.func174, Tryz.ntmps174
  go_wp2
  go_ret
  exact ⟨rfl, (Below.refl _ _).alloc (Nat.le_refl _) _⟩

theorem PutB (S : Nat → Prop) (w0 : World) (p : Nat) (fn1 fn2 : FuncId) (cap1 cap2 : Array Value) (x : Value) (f : K.WS → K.WS) (s : K.WS) (w : World) (h : WAt S w0 p s w) (hp : Puts S w0 p fn1 cap1 x f)
    (he : ∀ args w, (callFunc fn1 args).run Tryz.prog w = .ok (.enter fn1 args) w) :
    Calls Tryz.prog 142 #[.agg #[.func (.func fn1) #[] cap1, .func (.func fn2) #[] cap2], .pointer (some ⟨p, 0, none⟩), x] w fun en w' => en = .returned (.tuple #[]) ∧ WAt S w0 p (putW f s) w' := by
  have hb0 := (Below.refl w.heap.size w).alloc (Nat.le_refl _) (.cells #[.func (.func fn1) #[] cap1, .func (.func fn2) #[] cap2] 167)
  have HB := hide hb0
  have h1 := h.below hb0
  obtain ⟨v, c, _, _, c2, _, _, _⟩ := h1.see
  have HH := hide h1
  have HP := hide hp
  clear h hb0 h1 hp
  by_cases hz : s.fault = 0
  · have hz' : ((s.fault : Nat) : Int) = 0 := by omega
    have HZ := hide hz
    rw [hz'] at c2
    clear hz hz'
    go_enter Tryz.func142, Tryz.ntmps142
    go_wp2_with fail
    refine (wholeB fn1 fn2 cap1 cap2 _).mono ?_
    rintro e w1 ⟨rfl, hb1⟩
    have HH1 := hide (HH.out.below hb1)
    have hc0 := hb1.cell (p := ⟨w.heap.size, 0, none⟩) (by simp)
    have hc1 : w1.cell? ⟨w.heap.size, 0, none⟩ = some (.func (.func fn1) #[] cap1) := by rw [hc0, cell_of_row _ _ _ _ _ _ (heap_alloc_new w _)]; rfl
    clear hb1 hc0
    go_wp2_with fail
    refine (HP.out _ s HH1.out HZ.out).mono ?_
    rintro e w2 ⟨rfl, h2⟩
    go_wp2
    go_end0
    refine ⟨rfl, ?_⟩
    unfold putW
    rw [if_pos HZ.out]
    exact h2
  · have hz' : (((s.fault : Nat) : Int) == 0) = false := by simpa using hz
    go_enter Tryz.func142, Tryz.ntmps142
    go_wp2
    first | go_end0 | refine bodyPost_ret (results_none rfl _ _ _) rfl ?_
    refine ⟨rfl, ?_⟩
    unfold putW
    rw [if_neg hz]
    exact HH.out

theorem wholeLn (fn1 fn2 : FuncId) (cap1 cap2 : Array Value) (w : World) :
    Calls Tryz.prog 129 #[.agg #[.func (.func fn1) #[] cap1, .func (.func fn2) #[] cap2]] w fun en w' => en = .returned (.bool true) ∧ Below w.heap.size w w' := by
  have h1 := fun w fn cap => neq_func 111 w fn #[] cap _ _ _ Tryz.underlying111
  have h2 := fun w fn cap => neq_func 112 w fn #[] cap _ _ _ Tryz.underlying112
  go_enter Tryz.func129, Tryz.ntmps129
  go_wp2
  go_ret
  exact ⟨rfl, (Below.refl _ _).alloc (Nat.le_refl _) _⟩

theorem PutLn (S : Nat → Prop) (w0 : World) (p : Nat) (fn1 fn2 : FuncId) (cap1 cap2 : Array Value) (x : Value) (f : K.WS → K.WS) (s : K.WS) (w : World) (h : WAt S w0 p s w) (hp : Puts S w0 p fn1 cap1 x f)
    (he : ∀ args w, (callFunc fn1 args).run Tryz.prog w = .ok (.enter fn1 args) w) :
    Calls Tryz.prog 59 #[.agg #[.func (.func fn1) #[] cap1, .func (.func fn2) #[] cap2], .pointer (some ⟨p, 0, none⟩), x] w fun en w' => en = .returned (.tuple #[]) ∧ WAt S w0 p (putW f s) w' := by
  have hb0 := (Below.refl w.heap.size w).alloc (Nat.le_refl _) (.cells #[.func (.func fn1) #[] cap1, .func (.func fn2) #[] cap2] 114)
  have HB := hide hb0
  have h1 := h.below hb0
  obtain ⟨v, c, _, _, c2, _, _, _⟩ := h1.see
  have HH := hide h1
  have HP := hide hp
  clear h hb0 h1 hp
  by_cases hz : s.fault = 0
  · have hz' : ((s.fault : Nat) : Int) = 0 := by omega
    have HZ := hide hz
    rw [hz'] at c2
    clear hz hz'
    go_enter Tryz.func59, Tryz.ntmps59
    go_wp2_with fail
    refine (wholeLn fn1 fn2 cap1 cap2 _).mono ?_
    rintro e w1 ⟨rfl, hb1⟩
    have HH1 := hide (HH.out.below hb1)
    have hc0 := hb1.cell (p := ⟨w.heap.size, 0, none⟩) (by simp)
    have hc1 : w1.cell? ⟨w.heap.size, 0, none⟩ = some (.func (.func fn1) #[] cap1) := by rw [hc0, cell_of_row _ _ _ _ _ _ (heap_alloc_new w _)]; rfl
    clear hb1 hc0
    go_wp2_with fail
    refine (HP.out _ s HH1.out HZ.out).mono ?_
    rintro e w2 ⟨rfl, h2⟩
    go_wp2
    go_end0
    refine ⟨rfl, ?_⟩
    unfold putW
    rw [if_pos HZ.out]
    exact h2
  · have hz' : (((s.fault : Nat) : Int) == 0) = false := by simpa using hz
    go_enter Tryz.func59, Tryz.ntmps59
    go_wp2
    first | go_end0 | refine bodyPost_ret (results_none rfl _ _ _) rfl ?_
    refine ⟨rfl, ?_⟩
    unfold putW
    rw [if_neg hz]
    exact HH.out

end Go.Proofs.YtbjcckfhfbjchaaGreat
