/- Package pack: Form's Put, and Bytes. -/
import Derived.Test.YteaokgolnhdloaaPBytes
namespace Go.Proofs.Yteaokgolnhdloaa
open Go.RowKit

theorem equalIn_func (d : Nat) (t : TypeId) (w : World) (fn : Fn) (first cap : Array Value) (ps rs : Array TypeId) (v : Bool) (h : Try.prog.underlying t = some (.func ps rs v)) :
    (Op.equalIn (d + 1) t (.func fn first cap) .nilFunc).run Try.prog w = .ok false w := by
  simp [Op.equalIn, run_underlying h]

theorem neq_func (t : TypeId) (w : World) (fn : Fn) (first cap : Array Value) (ps rs : Array TypeId) (v : Bool) (h : Try.prog.underlying t = some (.func ps rs v)) :
    (binOp .neq t (.func fn first cap) .nilFunc).run Try.prog w = .ok (.bool true) w := by
  simp only [binOp]
  simp [Op.equal, Op.maxDepth, equalIn_func 9999 t w fn first cap ps rs v h]

/-- a function value that can be called -/
structure Callee (fv : Value) (fn : FuncId) (cap : Array Value) : Prop where
  eq : fv = .func (.func fn) #[] cap
  ent : ∀ args w, (callFunc fn args).run Try.prog w = .ok (.enter fn args) w

/-- what a form's put does with a value -/
def Puts (S : Nat → Prop) (w0 : World) (p : Nat) (fn : FuncId) (cap : Array Value) (x : Value) (f : K.WS → K.WS) : Prop :=
  ∀ w s, WAt S w0 p s w → s.fault = 0 → Calls Try.prog fn (#[.pointer (some ⟨p, 0, none⟩), x] ++ cap) w fun en w' => en = .returned (.tuple #[]) ∧ WAt S w0 p (f s) w'

/-- Put: nothing behind a fault -/
def putW (f : K.WS → K.WS) (s : K.WS) : K.WS := if s.fault = 0 then f s else s

theorem wholeI (fn1 fn2 : FuncId) (cap1 cap2 : Array Value) (w : World) :
    Calls Try.prog 95 #[.agg #[.func (.func fn1) #[] cap1, .func (.func fn2) #[] cap2]] w fun en w' => en = .returned (.bool true) ∧ Below w.heap.size w w' := by
  have h1 := fun w fn cap => neq_func 73 w fn #[] cap _ _ _ Try.underlying73
  have h2 := fun w fn cap => neq_func 74 w fn #[] cap _ _ _ Try.underlying74
  go_enter Try.func95, Try.ntmps95
  go_wp2
  go_ret
  exact ⟨rfl, (Below.refl _ _).alloc (Nat.le_refl _) _⟩

theorem PutI (S : Nat → Prop) (w0 : World) (p : Nat) (fn1 fn2 : FuncId) (cap1 cap2 : Array Value) (x : Value) (f : K.WS → K.WS) (s : K.WS) (w : World) (h : WAt S w0 p s w) (hp : Puts S w0 p fn1 cap1 x f)
    (he : ∀ args w, (callFunc fn1 args).run Try.prog w = .ok (.enter fn1 args) w) :
    Calls Try.prog 71 #[.agg #[.func (.func fn1) #[] cap1, .func (.func fn2) #[] cap2], .pointer (some ⟨p, 0, none⟩), x] w fun en w' => en = .returned (.tuple #[]) ∧ WAt S w0 p (putW f s) w' := by
  have hb0 := (Below.refl w.heap.size w).alloc (Nat.le_refl _) (.cells #[.func (.func fn1) #[] cap1, .func (.func fn2) #[] cap2] 76)
  have HB := hide hb0
  have h1 := h.below hb0
  obtain ⟨v, c, _, _, c2, _, _, _⟩ := h1.see
  have HH := hide h1
  have HP := hide hp
  clear h hb0 h1 hp
  by_cases hz : s.fault = 0
  · have hz' : ((s.fault : Nat) : Int) = 0 := by omega
    have HZ := hide hz
    rw [hz'] at c2
    clear hz hz'
    go_enter Try.func71, Try.ntmps71
    go_wp2_with fail
    refine (wholeI fn1 fn2 cap1 cap2 _).mono ?_
    rintro e w1 ⟨rfl, hb1⟩
    have HH1 := hide (HH.out.below hb1)
    have hc0 := hb1.cell (p := ⟨w.heap.size, 0, none⟩) (by simp)
    have hc1 : w1.cell? ⟨w.heap.size, 0, none⟩ = some (.func (.func fn1) #[] cap1) := by rw [hc0, cell_of_row _ _ _ _ _ _ (heap_alloc_new w _)]; rfl
    clear hb1 hc0
    go_wp2_with fail
    refine (HP.out _ s HH1.out HZ.out).mono ?_
    rintro e w2 ⟨rfl, h2⟩
    go_wp2
    go_end0
    refine ⟨rfl, ?_⟩
    unfold putW
    rw [if_pos HZ.out]
    exact h2
  · have hz' : (((s.fault : Nat) : Int) == 0) = false := by simpa using hz
    go_enter Try.func71, Try.ntmps71
    go_wp2
    first | go_end0 | refine bodyPost_ret (results_none rfl _ _ _) rfl ?_
    refine ⟨rfl, ?_⟩
    unfold putW
    rw [if_neg hz]
    exact HH.out

theorem wholeS (fn1 fn2 : FuncId) (cap1 cap2 : Array Value) (w : World) :
    Calls Try.prog 93 #[.agg #[.func (.func fn1) #[] cap1, .func (.func fn2) #[] cap2]] w fun en w' => en = .returned (.bool true) ∧ Below w.heap.size w w' := by
  have h1 := fun w fn cap => neq_func 63 w fn #[] cap _ _ _ Try.underlying63
  have h2 := fun w fn cap => neq_func 64 w fn #[] cap _ _ _ Try.underlying64
  go_enter Try.func93, Try.ntmps93
  go_wp2
  go_ret
  exact ⟨rfl, (Below.refl _ _).alloc (Nat.le_refl _) _⟩

theorem PutS (S : Nat → Prop) (w0 : World) (p : Nat) (fn1 fn2 : FuncId) (cap1 cap2 : Array Value) (x : Value) (f : K.WS → K.WS) (s : K.WS) (w : World) (h : WAt S w0 p s w) (hp : Puts S w0 p fn1 cap1 x f)
    (he : ∀ args w, (callFunc fn1 args).run Try.prog w = .ok (.enter fn1 args) w) :
    Calls Try.prog 98 #[.agg #[.func (.func fn1) #[] cap1, .func (.func fn2) #[] cap2], .pointer (some ⟨p, 0, none⟩), x] w fun en w' => en = .returned (.tuple #[]) ∧ WAt S w0 p (putW f s) w' := by
  have hb0 := (Below.refl w.heap.size w).alloc (Nat.le_refl _) (.cells #[.func (.func fn1) #[] cap1, .func (.func fn2) #[] cap2] 66)
  have HB := hide hb0
  have h1 := h.below hb0
  obtain ⟨v, c, _, _, c2, _, _, _⟩ := h1.see
  have HH := hide h1
  have HP := hide hp
  clear h hb0 h1 hp
  by_cases hz : s.fault = 0
  · have hz' : ((s.fault : Nat) : Int) = 0 := by omega
    have HZ := hide hz
    rw [hz'] at c2
    clear hz hz'
    go_enter Try.func98, Try.ntmps98
    go_wp2_with fail
    refine (wholeS fn1 fn2 cap1 cap2 _).mono ?_
    rintro e w1 ⟨rfl, hb1⟩
    have HH1 := hide (HH.out.below hb1)
    have hc0 := hb1.cell (p := ⟨w.heap.size, 0, none⟩) (by simp)
    have hc1 : w1.cell? ⟨w.heap.size, 0, none⟩ = some (.func (.func fn1) #[] cap1) := by rw [hc0, cell_of_row _ _ _ _ _ _ (heap_alloc_new w _)]; rfl
    clear hb1 hc0
    go_wp2_with fail
    refine (HP.out _ s HH1.out HZ.out).mono ?_
    rintro e w2 ⟨rfl, h2⟩
    go_wp2
    go_end0
    refine ⟨rfl, ?_⟩
    unfold putW
    rw [if_pos HZ.out]
    exact h2
  · have hz' : (((s.fault : Nat) : Int) == 0) = false := by simpa using hz
    go_enter Try.func98, Try.ntmps98
    go_wp2
    first | go_end0 | refine bodyPost_ret (results_none rfl _ _ _) rfl ?_
    refine ⟨rfl, ?_⟩
    unfold putW
    rw [if_neg hz]
    exact HH.out

theorem wholeLs (fn1 fn2 : FuncId) (cap1 cap2 : Array Value) (w : World) :
    Calls Try.prog 97 #[.agg #[.func (.func fn1) #[] cap1, .func (.func fn2) #[] cap2]] w fun en w' => en = .returned (.bool true) ∧ Below w.heap.size w w' := by
  have h1 := fun w fn cap => neq_func 82 w fn #[] cap _ _ _ Try.underlying82
  have h2 := fun w fn cap => neq_func 83 w fn #[] cap _ _ _ Try.underlying83
  go_enter Try.func97, Try.ntmps97
  go_wp2
  go_ret
  exact ⟨rfl, (Below.refl _ _).alloc (Nat.le_refl _) _⟩

theorem PutLs (S : Nat → Prop) (w0 : World) (p : Nat) (fn1 fn2 : FuncId) (cap1 cap2 : Array Value) (x : Value) (f : K.WS → K.WS) (s : K.WS) (w : World) (h : WAt S w0 p s w) (hp : Puts S w0 p fn1 cap1 x f)
    (he : ∀ args w, (callFunc fn1 args).run Try.prog w = .ok (.enter fn1 args) w) :
    Calls Try.prog 78 #[.agg #[.func (.func fn1) #[] cap1, .func (.func fn2) #[] cap2], .pointer (some ⟨p, 0, none⟩), x] w fun en w' => en = .returned (.tuple #[]) ∧ WAt S w0 p (putW f s) w' := by
  have hb0 := (Below.refl w.heap.size w).alloc (Nat.le_refl _) (.cells #[.func (.func fn1) #[] cap1, .func (.func fn2) #[] cap2] 85)
  have HB := hide hb0
  have h1 := h.below hb0
  obtain ⟨v, c, _, _, c2, _, _, _⟩ := h1.see
  have HH := hide h1
  have HP := hide hp
  clear h hb0 h1 hp
  by_cases hz : s.fault = 0
  · have hz' : ((s.fault : Nat) : Int) = 0 := by omega
    have HZ := hide hz
    rw [hz'] at c2
    clear hz hz'
    go_enter Try.func78, Try.ntmps78
    go_wp2_with fail
    refine (wholeLs fn1 fn2 cap1 cap2 _).mono ?_
    rintro e w1 ⟨rfl, hb1⟩
    have HH1 := hide (HH.out.below hb1)
    have hc0 := hb1.cell (p := ⟨w.heap.size, 0, none⟩) (by simp)
    have hc1 : w1.cell? ⟨w.heap.size, 0, none⟩ = some (.func (.func fn1) #[] cap1) := by rw [hc0, cell_of_row _ _ _ _ _ _ (heap_alloc_new w _)]; rfl
    clear hb1 hc0
    go_wp2_with fail
    refine (HP.out _ s HH1.out HZ.out).mono ?_
    rintro e w2 ⟨rfl, h2⟩
    go_wp2
    go_end0
    refine ⟨rfl, ?_⟩
    unfold putW
    rw [if_pos HZ.out]
    exact h2
  · have hz' : (((s.fault : Nat) : Int) == 0) = false := by simpa using hz
    go_enter Try.func78, Try.ntmps78
    go_wp2
    first | go_end0 | refine bodyPost_ret (results_none rfl _ _ _) rfl ?_
    refine ⟨rfl, ?_⟩
    unfold putW
    rw [if_neg hz]
    exact HH.out

theorem wholeB (fn1 fn2 : FuncId) (cap1 cap2 : Array Value) (w : World) :
    Calls Try.prog 100 #[.agg #[.func (.func fn1) #[] cap1, .func (.func fn2) #[] cap2]] w fun en w' => en = .returned (.bool true) ∧ Below w.heap.size w w' := by
  have h1 := fun w fn cap => neq_func 30 w fn #[] cap _ _ _ Try.underlying30
  have h2 := fun w fn cap => neq_func 31 w fn #[] cap _ _ _ Try.underlying31
  go_enter Try.func100, Try.ntmps100
  go_wp2
  go_ret
  exact ⟨rfl, (Below.refl _ _).alloc (Nat.le_refl _) _⟩

theorem PutB (S : Nat → Prop) (w0 : World) (p : Nat) (fn1 fn2 : FuncId) (cap1 cap2 : Array Value) (x : Value) (f : K.WS → K.WS) (s : K.WS) (w : World) (h : WAt S w0 p s w) (hp : Puts S w0 p fn1 cap1 x f)
    (he : ∀ args w, (callFunc fn1 args).run Try.prog w = .ok (.enter fn1 args) w) :
    Calls Try.prog 86 #[.agg #[.func (.func fn1) #[] cap1, .func (.func fn2) #[] cap2], .pointer (some ⟨p, 0, none⟩), x] w fun en w' => en = .returned (.tuple #[]) ∧ WAt S w0 p (putW f s) w' := by
  have hb0 := (Below.refl w.heap.size w).alloc (Nat.le_refl _) (.cells #[.func (.func fn1) #[] cap1, .func (.func fn2) #[] cap2] 33)
  have HB := hide hb0
  have h1 := h.below hb0
  obtain ⟨v, c, _, _, c2, _, _, _⟩ := h1.see
  have HH := hide h1
  have HP := hide hp
  clear h hb0 h1 hp
  by_cases hz : s.fault = 0
  · have hz' : ((s.fault : Nat) : Int) = 0 := by omega
    have HZ := hide hz
    rw [hz'] at c2
    clear hz hz'
    go_enter Try.func86, Try.ntmps86
    go_wp2_with fail
    refine (wholeB fn1 fn2 cap1 cap2 _).mono ?_
    rintro e w1 ⟨rfl, hb1⟩
    have HH1 := hide (HH.out.below hb1)
    have hc0 := hb1.cell (p := ⟨w.heap.size, 0, none⟩) (by simp)
    have hc1 : w1.cell? ⟨w.heap.size, 0, none⟩ = some (.func (.func fn1) #[] cap1) := by rw [hc0, cell_of_row _ _ _ _ _ _ (heap_alloc_new w _)]; rfl
    clear hb1 hc0
    go_wp2_with fail
    refine (HP.out _ s HH1.out HZ.out).mono ?_
    rintro e w2 ⟨rfl, h2⟩
    go_wp2
    go_end0
    refine ⟨rfl, ?_⟩
    unfold putW
    rw [if_pos HZ.out]
    exact h2
  · have hz' : (((s.fault : Nat) : Int) == 0) = false := by simpa using hz
    go_enter Try.func86, Try.ntmps86
    go_wp2
    first | go_end0 | refine bodyPost_ret (results_none rfl _ _ _) rfl ?_
    refine ⟨rfl, ?_⟩
    unfold putW
    rw [if_neg hz]
    exact HH.out

theorem wholeLb (fn1 fn2 : FuncId) (cap1 cap2 : Array Value) (w : World) :
    Calls Try.prog 56 #[.agg #[.func (.func fn1) #[] cap1, .func (.func fn2) #[] cap2]] w fun en w' => en = .returned (.bool true) ∧ Below w.heap.size w w' := by
  have h1 := fun w fn cap => neq_func 25 w fn #[] cap _ _ _ Try.underlying25
  have h2 := fun w fn cap => neq_func 26 w fn #[] cap _ _ _ Try.underlying26
  go_enter Try.func56, Try.ntmps56
  go_wp2
  go_ret
  exact ⟨rfl, (Below.refl _ _).alloc (Nat.le_refl _) _⟩

theorem PutLb (S : Nat → Prop) (w0 : World) (p : Nat) (fn1 fn2 : FuncId) (cap1 cap2 : Array Value) (x : Value) (f : K.WS → K.WS) (s : K.WS) (w : World) (h : WAt S w0 p s w) (hp : Puts S w0 p fn1 cap1 x f)
    (he : ∀ args w, (callFunc fn1 args).run Try.prog w = .ok (.enter fn1 args) w) :
    Calls Try.prog 64 #[.agg #[.func (.func fn1) #[] cap1, .func (.func fn2) #[] cap2], .pointer (some ⟨p, 0, none⟩), x] w fun en w' => en = .returned (.tuple #[]) ∧ WAt S w0 p (putW f s) w' := by
  have hb0 := (Below.refl w.heap.size w).alloc (Nat.le_refl _) (.cells #[.func (.func fn1) #[] cap1, .func (.func fn2) #[] cap2] 28)
  have HB := hide hb0
  have h1 := h.below hb0
  obtain ⟨v, c, _, _, c2, _, _, _⟩ := h1.see
  have HH := hide h1
  have HP := hide hp
  clear h hb0 h1 hp
  by_cases hz : s.fault = 0
  · have hz' : ((s.fault : Nat) : Int) = 0 := by omega
    have HZ := hide hz
    rw [hz'] at c2
    clear hz hz'
    go_enter Try.func64, Try.ntmps64
    go_wp2_with fail
    refine (wholeLb fn1 fn2 cap1 cap2 _).mono ?_
    rintro e w1 ⟨rfl, hb1⟩
    have HH1 := hide (HH.out.below hb1)
    have hc0 := hb1.cell (p := ⟨w.heap.size, 0, none⟩) (by simp)
    have hc1 : w1.cell? ⟨w.heap.size, 0, none⟩ = some (.func (.func fn1) #[] cap1) := by rw [hc0, cell_of_row _ _ _ _ _ _ (heap_alloc_new w _)]; rfl
    clear hb1 hc0
    go_wp2_with fail
    refine (HP.out _ s HH1.out HZ.out).mono ?_
    rintro e w2 ⟨rfl, h2⟩
    go_wp2
    go_end0
    refine ⟨rfl, ?_⟩
    unfold putW
    rw [if_pos HZ.out]
    exact h2
  · have hz' : (((s.fault : Nat) : Int) == 0) = false := by simpa using hz
    go_enter Try.func64, Try.ntmps64
    go_wp2
    first | go_end0 | refine bodyPost_ret (results_none rfl _ _ _) rfl ?_
    refine ⟨rfl, ?_⟩
    unfold putW
    rw [if_neg hz]
    exact HH.out

end Go.Proofs.Yteaokgolnhdloaa
