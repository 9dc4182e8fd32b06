/- Package pack: Form's Put, and Bytes. -/
import Derived.Test.YtoelgcagahmndaaGreatPBytes
namespace Go.Proofs.YtoelgcagahmndaaGreat
open Go.RowKit

theorem equalIn_func (d : Nat) (t : TypeId) (w : World) (fn : Fn) (first cap : Array Value) (ps rs : Array TypeId) (v : Bool) (h : Tryz.prog.underlying t = some (.func ps rs v)) :
    (Op.equalIn (d + 1) t (.func fn first cap) .nilFunc).run Tryz.prog w = .ok false w := by
  simp [Op.equalIn, run_underlying h]

theorem neq_func (t : TypeId) (w : World) (fn : Fn) (first cap : Array Value) (ps rs : Array TypeId) (v : Bool) (h : Tryz.prog.underlying t = some (.func ps rs v)) :
    (binOp .neq t (.func fn first cap) .nilFunc).run Tryz.prog w = .ok (.bool true) w := by
  simp only [binOp]
  simp [Op.equal, Op.maxDepth, equalIn_func 9999 t w fn first cap ps rs v h]

/-- a function value that can be called -/
structure Callee (fv : Value) (fn : FuncId) (cap : Array Value) : Prop where
  eq : fv = .func (.func fn) #[] cap
  ent : ∀ args w, (callFunc fn args).run Tryz.prog w = .ok (.enter fn args) w

/-- what a form's put does with a value -/
def Puts (S : Nat → Prop) (w0 : World) (p : Nat) (fn : FuncId) (cap : Array Value) (x : Value) (f : K.WS → K.WS) : Prop :=
  ∀ w s, WAt S w0 p s w → s.fault = 0 → Calls Tryz.prog fn (#[.pointer (some ⟨p, 0, none⟩), x] ++ cap) w fun en w' => en = .returned (.tuple #[]) ∧ WAt S w0 p (f s) w'

/-- Put: nothing behind a fault -/
def putW (f : K.WS → K.WS) (s : K.WS) : K.WS := if s.fault = 0 then f s else s

theorem wholeI (fn1 fn2 : FuncId) (cap1 cap2 : Array Value) (w : World) :
    Calls Tryz.prog 120 #[.agg #[.func (.func fn1) #[] cap1, .func (.func fn2) #[] cap2]] w fun en w' => en = .returned (.bool true) ∧ Below w.heap.size w w' := by
  have h1 := fun w fn cap => neq_func 82 w fn #[] cap _ _ _ Tryz.underlying82
  have h2 := fun w fn cap => neq_func 83 w fn #[] cap _ _ _ Tryz.underlying83
  go_enter Tryz.func120, Tryz.ntmps120
  go_wp2
  go_ret
  exact ⟨rfl, (Below.refl _ _).alloc (Nat.le_refl _) _⟩

theorem PutI (S : Nat → Prop) (w0 : World) (p : Nat) (fn1 fn2 : FuncId) (cap1 cap2 : Array Value) (x : Value) (f : K.WS → K.WS) (s : K.WS) (w : World) (h : WAt S w0 p s w) (hp : Puts S w0 p fn1 cap1 x f)
    (he : ∀ args w, (callFunc fn1 args).run Tryz.prog w = .ok (.enter fn1 args) w) :
    Calls Tryz.prog 55 #[.agg #[.func (.func fn1) #[] cap1, .func (.func fn2) #[] cap2], .pointer (some ⟨p, 0, none⟩), x] w fun en w' => en = .returned (.tuple #[]) ∧ WAt S w0 p (putW f s) w' := by
  have hb0 := (Below.refl w.heap.size w).alloc (Nat.le_refl _) (.cells #[.func (.func fn1) #[] cap1, .func (.func fn2) #[] cap2] 85)
  have HB := hide hb0
  have h1 := h.below hb0
  obtain ⟨v, c, _, _, c2, _, _, _⟩ := h1.see
  have HH := hide h1
  have HP := hide hp
  clear h hb0 h1 hp
  by_cases hz : s.fault = 0
  · have hz' : ((s.fault : Nat) : Int) = 0 := by omega
    have HZ := hide hz
    rw [hz'] at c2
    clear hz hz'
    go_enter Tryz.func55, Tryz.ntmps55
    go_wp2_with fail
    refine (wholeI fn1 fn2 cap1 cap2 _).mono ?_
    rintro e w1 ⟨rfl, hb1⟩
    have HH1 := hide (HH.out.below hb1)
    have hc0 := hb1.cell (p := ⟨w.heap.size, 0, none⟩) (by simp)
    have hc1 : w1.cell? ⟨w.heap.size, 0, none⟩ = some (.func (.func fn1) #[] cap1) := by rw [hc0, cell_of_row _ _ _ _ _ _ (heap_alloc_new w _)]; rfl
    clear hb1 hc0
    go_wp2_with fail
    refine (HP.out _ s HH1.out HZ.out).mono ?_
    rintro e w2 ⟨rfl, h2⟩
    go_wp2
    go_end0
    refine ⟨rfl, ?_⟩
    unfold putW
    rw [if_pos HZ.out]
    exact h2
  · have hz' : (((s.fault : Nat) : Int) == 0) = false := by simpa using hz
    go_enter Tryz.func55, Tryz.ntmps55
    go_wp2
    first | go_end0 | refine bodyPost_ret (results_none rfl _ _ _) rfl ?_
    refine ⟨rfl, ?_⟩
    unfold putW
    rw [if_neg hz]
    exact HH.out

theorem wholeS (fn1 fn2 : FuncId) (cap1 cap2 : Array Value) (w : World) :
    Calls Tryz.prog 121 #[.agg #[.func (.func fn1) #[] cap1, .func (.func fn2) #[] cap2]] w fun en w' => en = .returned (.bool true) ∧ Below w.heap.size w w' := by
  have h1 := fun w fn cap => neq_func 95 w fn #[] cap _ _ _ Tryz.underlying95
  have h2 := fun w fn cap => neq_func 96 w fn #[] cap _ _ _ Tryz.underlying96
  go_enter Tryz.func121, Tryz.ntmps121
  go_wp2
  go_ret
  exact ⟨rfl, (Below.refl _ _).alloc (Nat.le_refl _) _⟩

theorem PutS (S : Nat → Prop) (w0 : World) (p : Nat) (fn1 fn2 : FuncId) (cap1 cap2 : Array Value) (x : Value) (f : K.WS → K.WS) (s : K.WS) (w : World) (h : WAt S w0 p s w) (hp : Puts S w0 p fn1 cap1 x f)
    (he : ∀ args w, (callFunc fn1 args).run Tryz.prog w = .ok (.enter fn1 args) w) :
    Calls Tryz.prog 56 #[.agg #[.func (.func fn1) #[] cap1, .func (.func fn2) #[] cap2], .pointer (some ⟨p, 0, none⟩), x] w fun en w' => en = .returned (.tuple #[]) ∧ WAt S w0 p (putW f s) w' := by
  have hb0 := (Below.refl w.heap.size w).alloc (Nat.le_refl _) (.cells #[.func (.func fn1) #[] cap1, .func (.func fn2) #[] cap2] 98)
  have HB := hide hb0
  have h1 := h.below hb0
  obtain ⟨v, c, _, _, c2, _, _, _⟩ := h1.see
  have HH := hide h1
  have HP := hide hp
  clear h hb0 h1 hp
  by_cases hz : s.fault = 0
  · have hz' : ((s.fault : Nat) : Int) = 0 := by omega
    have HZ := hide hz
    rw [hz'] at c2
    clear hz hz'
    go_enter Tryz.func56, Tryz.ntmps56
    go_wp2_with fail
    refine (wholeS fn1 fn2 cap1 cap2 _).mono ?_
    rintro e w1 ⟨rfl, hb1⟩
    have HH1 := hide (HH.out.below hb1)
    have hc0 := hb1.cell (p := ⟨w.heap.size, 0, none⟩) (by simp)
    have hc1 : w1.cell? ⟨w.heap.size, 0, none⟩ = some (.func (.func fn1) #[] cap1) := by rw [hc0, cell_of_row _ _ _ _ _ _ (heap_alloc_new w _)]; rfl
    clear hb1 hc0
    go_wp2_with fail
    refine (HP.out _ s HH1.out HZ.out).mono ?_
    rintro e w2 ⟨rfl, h2⟩
    go_wp2
    go_end0
    refine ⟨rfl, ?_⟩
    unfold putW
    rw [if_pos HZ.out]
    exact h2
  · have hz' : (((s.fault : Nat) : Int) == 0) = false := by simpa using hz
    go_enter Tryz.func56, Tryz.ntmps56
    go_wp2
    first | go_end0 | refine bodyPost_ret (results_none rfl _ _ _) rfl ?_
    refine ⟨rfl, ?_⟩
    unfold putW
    rw [if_neg hz]
    exact HH.out

theorem wholeLs (fn1 fn2 : FuncId) (cap1 cap2 : Array Value) (w : World) :
    Calls Tryz.prog 148 #[.agg #[.func (.func fn1) #[] cap1, .func (.func fn2) #[] cap2]] w fun en w' => en = .returned (.bool true) ∧ Below w.heap.size w w' := by
  have h1 := fun w fn cap => neq_func 90 w fn #[] cap _ _ _ Tryz.underlying90
  have h2 := fun w fn cap => neq_func 91 w fn #[] cap _ _ _ Tryz.underlying91
  go_enter Tryz.func148, Tryz.ntmps148
  go_wp2
  go_ret
  exact ⟨rfl, (Below.refl _ _).alloc (Nat.le_refl _) _⟩

theorem PutLs (S : Nat → Prop) (w0 : World) (p : Nat) (fn1 fn2 : FuncId) (cap1 cap2 : Array Value) (x : Value) (f : K.WS → K.WS) (s : K.WS) (w : World) (h : WAt S w0 p s w) (hp : Puts S w0 p fn1 cap1 x f)
    (he : ∀ args w, (callFunc fn1 args).run Tryz.prog w = .ok (.enter fn1 args) w) :
    Calls Tryz.prog 81 #[.agg #[.func (.func fn1) #[] cap1, .func (.func fn2) #[] cap2], .pointer (some ⟨p, 0, none⟩), x] w fun en w' => en = .returned (.tuple #[]) ∧ WAt S w0 p (putW f s) w' := by
  have hb0 := (Below.refl w.heap.size w).alloc (Nat.le_refl _) (.cells #[.func (.func fn1) #[] cap1, .func (.func fn2) #[] cap2] 93)
  have HB := hide hb0
  have h1 := h.below hb0
  obtain ⟨v, c, _, _, c2, _, _, _⟩ := h1.see
  have HH := hide h1
  have HP := hide hp
  clear h hb0 h1 hp
  by_cases hz : s.fault = 0
  · have hz' : ((s.fault : Nat) : Int) = 0 := by omega
    have HZ := hide hz
    rw [hz'] at c2
    clear hz hz'
    go_enter Tryz.func81, Tryz.ntmps81
    go_wp2_with fail
    refine (wholeLs fn1 fn2 cap1 cap2 _).mono ?_
    rintro e w1 ⟨rfl, hb1⟩
    have HH1 := hide (HH.out.below hb1)
    have hc0 := hb1.cell (p := ⟨w.heap.size, 0, none⟩) (by simp)
    have hc1 : w1.cell? ⟨w.heap.size, 0, none⟩ = some (.func (.func fn1) #[] cap1) := by rw [hc0, cell_of_row _ _ _ _ _ _ (heap_alloc_new w _)]; rfl
    clear hb1 hc0
    go_wp2_with fail
    refine (HP.out _ s HH1.out HZ.out).mono ?_
    rintro e w2 ⟨rfl, h2⟩
    go_wp2
    go_end0
    refine ⟨rfl, ?_⟩
    unfold putW
    rw [if_pos HZ.out]
    exact h2
  · have hz' : (((s.fault : Nat) : Int) == 0) = false := by simpa using hz
    go_enter Tryz.func81, Tryz.ntmps81
    go_wp2
    first | go_end0 | refine bodyPost_ret (results_none rfl _ _ _) rfl ?_
    refine ⟨rfl, ?_⟩
    unfold putW
    rw [if_neg hz]
    exact HH.out

theorem wholeLi (fn1 fn2 : FuncId) (cap1 cap2 : Array Value) (w : World) :
    Calls Tryz.prog 147 #[.agg #[.func (.func fn1) #[] cap1, .func (.func fn2) #[] cap2]] w fun en w' => en = .returned (.bool true) ∧ Below w.heap.size w w' := by
  have h1 := fun w fn cap => neq_func 136 w fn #[] cap _ _ _ Tryz.underlying136
  have h2 := fun w fn cap => neq_func 137 w fn #[] cap _ _ _ Tryz.underlying137
  go_enter Tryz.func147, Tryz.ntmps147
  go_wp2
  go_ret
  exact ⟨rfl, (Below.refl _ _).alloc (Nat.le_refl _) _⟩

theorem PutLi (S : Nat → Prop) (w0 : World) (p : Nat) (fn1 fn2 : FuncId) (cap1 cap2 : Array Value) (x : Value) (f : K.WS → K.WS) (s : K.WS) (w : World) (h : WAt S w0 p s w) (hp : Puts S w0 p fn1 cap1 x f)
    (he : ∀ args w, (callFunc fn1 args).run Tryz.prog w = .ok (.enter fn1 args) w) :
    Calls Tryz.prog 80 #[.agg #[.func (.func fn1) #[] cap1, .func (.func fn2) #[] cap2], .pointer (some ⟨p, 0, none⟩), x] w fun en w' => en = .returned (.tuple #[]) ∧ WAt S w0 p (putW f s) w' := by
  have hb0 := (Below.refl w.heap.size w).alloc (Nat.le_refl _) (.cells #[.func (.func fn1) #[] cap1, .func (.func fn2) #[] cap2] 139)
  have HB := hide hb0
  have h1 := h.below hb0
  obtain ⟨v, c, _, _, c2, _, _, _⟩ := h1.see
  have HH := hide h1
  have HP := hide hp
  clear h hb0 h1 hp
  by_cases hz : s.fault = 0
  · have hz' : ((s.fault : Nat) : Int) = 0 := by omega
    have HZ := hide hz
    rw [hz'] at c2
    clear hz hz'
    go_enter Tryz.func80, Tryz.ntmps80
    go_wp2_with fail
    refine (wholeLi fn1 fn2 cap1 cap2 _).mono ?_
    rintro e w1 ⟨rfl, hb1⟩
    have HH1 := hide (HH.out.below hb1)
    have hc0 := hb1.cell (p := ⟨w.heap.size, 0, none⟩) (by simp)
    have hc1 : w1.cell? ⟨w.heap.size, 0, none⟩ = some (.func (.func fn1) #[] cap1) := by rw [hc0, cell_of_row _ _ _ _ _ _ (heap_alloc_new w _)]; rfl
    clear hb1 hc0
    go_wp2_with fail
    refine (HP.out _ s HH1.out HZ.out).mono ?_
    rintro e w2 ⟨rfl, h2⟩
    go_wp2
    go_end0
    refine ⟨rfl, ?_⟩
    unfold putW
    rw [if_pos HZ.out]
    exact h2
  · have hz' : (((s.fault : Nat) : Int) == 0) = false := by simpa using hz
    go_enter Tryz.func80, Tryz.ntmps80
    go_wp2
    first | go_end0 | refine bodyPost_ret (results_none rfl _ _ _) rfl ?_
    refine ⟨rfl, ?_⟩
    unfold putW
    rw [if_neg hz]
    exact HH.out

theorem wholeLli (fn1 fn2 : FuncId) (cap1 cap2 : Array Value) (w : World) :
    Calls Tryz.prog 154 #[.agg #[.func (.func fn1) #[] cap1, .func (.func fn2) #[] cap2]] w fun en w' => en = .returned (.bool true) ∧ Below w.heap.size w w' := by
  have h1 := fun w fn cap => neq_func 141 w fn #[] cap _ _ _ Tryz.underlying141
  have h2 := fun w fn cap => neq_func 142 w fn #[] cap _ _ _ Tryz.underlying142
  go_enter Tryz.func154, Tryz.ntmps154
  go_wp2
  go_ret
  exact ⟨rfl, (Below.refl _ _).alloc (Nat.le_refl _) _⟩

theorem PutLli (S : Nat → Prop) (w0 : World) (p : Nat) (fn1 fn2 : FuncId) (cap1 cap2 : Array Value) (x : Value) (f : K.WS → K.WS) (s : K.WS) (w : World) (h : WAt S w0 p s w) (hp : Puts S w0 p fn1 cap1 x f)
    (he : ∀ args w, (callFunc fn1 args).run Tryz.prog w = .ok (.enter fn1 args) w) :
    Calls Tryz.prog 83 #[.agg #[.func (.func fn1) #[] cap1, .func (.func fn2) #[] cap2], .pointer (some ⟨p, 0, none⟩), x] w fun en w' => en = .returned (.tuple #[]) ∧ WAt S w0 p (putW f s) w' := by
  have hb0 := (Below.refl w.heap.size w).alloc (Nat.le_refl _) (.cells #[.func (.func fn1) #[] cap1, .func (.func fn2) #[] cap2] 144)
  have HB := hide hb0
  have h1 := h.below hb0
  obtain ⟨v, c, _, _, c2, _, _, _⟩ := h1.see
  have HH := hide h1
  have HP := hide hp
  clear h hb0 h1 hp
  by_cases hz : s.fault = 0
  · have hz' : ((s.fault : Nat) : Int) = 0 := by omega
    have HZ := hide hz
    rw [hz'] at c2
    clear hz hz'
    go_enter Tryz.func83, Tryz.ntmps83
    go_wp2_with fail
    refine (wholeLli fn1 fn2 cap1 cap2 _).mono ?_
    rintro e w1 ⟨rfl, hb1⟩
    have HH1 := hide (HH.out.below hb1)
    have hc0 := hb1.cell (p := ⟨w.heap.size, 0, none⟩) (by simp)
    have hc1 : w1.cell? ⟨w.heap.size, 0, none⟩ = some (.func (.func fn1) #[] cap1) := by rw [hc0, cell_of_row _ _ _ _ _ _ (heap_alloc_new w _)]; rfl
    clear hb1 hc0
    go_wp2_with fail
    refine (HP.out _ s HH1.out HZ.out).mono ?_
    rintro e w2 ⟨rfl, h2⟩
    go_wp2
    go_end0
    refine ⟨rfl, ?_⟩
    unfold putW
    rw [if_pos HZ.out]
    exact h2
  · have hz' : (((s.fault : Nat) : Int) == 0) = false := by simpa using hz
    go_enter Tryz.func83, Tryz.ntmps83
    go_wp2
    first | go_end0 | refine bodyPost_ret (results_none rfl _ _ _) rfl ?_
    refine ⟨rfl, ?_⟩
    unfold putW
    rw [if_neg hz]
    exact HH.out

theorem wholeW (fn1 fn2 : FuncId) (cap1 cap2 : Array Value) (w : World) :
    Calls Tryz.prog 132 #[.agg #[.func (.func fn1) #[] cap1, .func (.func fn2) #[] cap2]] w fun en w' => en = .returned (.bool true) ∧ Below w.heap.size w w' := by
  have h1 := fun w fn cap => neq_func 121 w fn #[] cap _ _ _ Tryz.underlying121
  have h2 := fun w fn cap => neq_func 122 w fn #[] cap _ _ _ Tryz.underlying122
  go_enter Tryz.func132, Tryz.ntmps132
  go_wp2
  go_ret
  exact ⟨rfl, (Below.refl _ _).alloc (Nat.le_refl _) _⟩

theorem PutW (S : Nat → Prop) (w0 : World) (p : Nat) (fn1 fn2 : FuncId) (cap1 cap2 : Array Value) (x : Value) (f : K.WS → K.WS) (s : K.WS) (w : World) (h : WAt S w0 p s w) (hp : Puts S w0 p fn1 cap1 x f)
    (he : ∀ args w, (callFunc fn1 args).run Tryz.prog w = .ok (.enter fn1 args) w) :
    Calls Tryz.prog 74 #[.agg #[.func (.func fn1) #[] cap1, .func (.func fn2) #[] cap2], .pointer (some ⟨p, 0, none⟩), x] w fun en w' => en = .returned (.tuple #[]) ∧ WAt S w0 p (putW f s) w' := by
  have hb0 := (Below.refl w.heap.size w).alloc (Nat.le_refl _) (.cells #[.func (.func fn1) #[] cap1, .func (.func fn2) #[] cap2] 124)
  have HB := hide hb0
  have h1 := h.below hb0
  obtain ⟨v, c, _, _, c2, _, _, _⟩ := h1.see
  have HH := hide h1
  have HP := hide hp
  clear h hb0 h1 hp
  by_cases hz : s.fault = 0
  · have hz' : ((s.fault : Nat) : Int) = 0 := by omega
    have HZ := hide hz
    rw [hz'] at c2
    clear hz hz'
    go_enter Tryz.func74, Tryz.ntmps74
    go_wp2_with fail
    refine (wholeW fn1 fn2 cap1 cap2 _).mono ?_
    rintro e w1 ⟨rfl, hb1⟩
    have HH1 := hide (HH.out.below hb1)
    have hc0 := hb1.cell (p := ⟨w.heap.size, 0, none⟩) (by simp)
    have hc1 : w1.cell? ⟨w.heap.size, 0, none⟩ = some (.func (.func fn1) #[] cap1) := by rw [hc0, cell_of_row _ _ _ _ _ _ (heap_alloc_new w _)]; rfl
    clear hb1 hc0
    go_wp2_with fail
    refine (HP.out _ s HH1.out HZ.out).mono ?_
    rintro e w2 ⟨rfl, h2⟩
    go_wp2
    go_end0
    refine ⟨rfl, ?_⟩
    unfold putW
    rw [if_pos HZ.out]
    exact h2
  · have hz' : (((s.fault : Nat) : Int) == 0) = false := by simpa using hz
    go_enter Tryz.func74, Tryz.ntmps74
    go_wp2
    first | go_end0 | refine bodyPost_ret (results_none rfl _ _ _) rfl ?_
    refine ⟨rfl, ?_⟩
    unfold putW
    rw [if_neg hz]
    exact HH.out

theorem wholeLw (fn1 fn2 : FuncId) (cap1 cap2 : Array Value) (w : World) :
    Calls Tryz.prog 160 #[.agg #[.func (.func fn1) #[] cap1, .func (.func fn2) #[] cap2]] w fun en w' => en = .returned (.bool true) ∧ Below w.heap.size w w' := by
  have h1 := fun w fn cap => neq_func 146 w fn #[] cap _ _ _ Tryz.underlying146
  have h2 := fun w fn cap => neq_func 147 w fn #[] cap _ _ _ Tryz.underlying147
  go_enter Tryz.func160, Tryz.ntmps160
  go_wp2
  go_ret
  exact ⟨rfl, (Below.refl _ _).alloc (Nat.le_refl _) _⟩

theorem PutLw (S : Nat → Prop) (w0 : World) (p : Nat) (fn1 fn2 : FuncId) (cap1 cap2 : Array Value) (x : Value) (f : K.WS → K.WS) (s : K.WS) (w : World) (h : WAt S w0 p s w) (hp : Puts S w0 p fn1 cap1 x f)
    (he : ∀ args w, (callFunc fn1 args).run Tryz.prog w = .ok (.enter fn1 args) w) :
    Calls Tryz.prog 85 #[.agg #[.func (.func fn1) #[] cap1, .func (.func fn2) #[] cap2], .pointer (some ⟨p, 0, none⟩), x] w fun en w' => en = .returned (.tuple #[]) ∧ WAt S w0 p (putW f s) w' := by
  have hb0 := (Below.refl w.heap.size w).alloc (Nat.le_refl _) (.cells #[.func (.func fn1) #[] cap1, .func (.func fn2) #[] cap2] 149)
  have HB := hide hb0
  have h1 := h.below hb0
  obtain ⟨v, c, _, _, c2, _, _, _⟩ := h1.see
  have HH := hide h1
  have HP := hide hp
  clear h hb0 h1 hp
  by_cases hz : s.fault = 0
  · have hz' : ((s.fault : Nat) : Int) = 0 := by omega
    have HZ := hide hz
    rw [hz'] at c2
    clear hz hz'
    go_enter Tryz.func85, Tryz.ntmps85
    go_wp2_with fail
    refine (wholeLw fn1 fn2 cap1 cap2 _).mono ?_
    rintro e w1 ⟨rfl, hb1⟩
    have HH1 := hide (HH.out.below hb1)
    have hc0 := hb1.cell (p := ⟨w.heap.size, 0, none⟩) (by simp)
    have hc1 : w1.cell? ⟨w.heap.size, 0, none⟩ = some (.func (.func fn1) #[] cap1) := by rw [hc0, cell_of_row _ _ _ _ _ _ (heap_alloc_new w _)]; rfl
    clear hb1 hc0
    go_wp2_with fail
    refine (HP.out _ s HH1.out HZ.out).mono ?_
    rintro e w2 ⟨rfl, h2⟩
    go_wp2
    go_end0
    refine ⟨rfl, ?_⟩
    unfold putW
    rw [if_pos HZ.out]
    exact h2
  · have hz' : (((s.fault : Nat) : Int) == 0) = false := by simpa using hz
    go_enter Tryz.func85, Tryz.ntmps85
    go_wp2
    first | go_end0 | refine bodyPost_ret (results_none rfl _ _ _) rfl ?_
    refine ⟨rfl, ?_⟩
    unfold putW
    rw [if_neg hz]
    exact HH.out

theorem wholeF (fn1 fn2 : FuncId) (cap1 cap2 : Array Value) (w : World) :
    Calls Tryz.prog 136 #[.agg #[.func (.func fn1) #[] cap1, .func (.func fn2) #[] cap2]] w fun en w' => en = .returned (.bool true) ∧ Below w.heap.size w w' := by
  have h1 := fun w fn cap => neq_func 126 w fn #[] cap _ _ _ Tryz.underlying126
  have h2 := fun w fn cap => neq_func 127 w fn #[] cap _ _ _ Tryz.underlying127
  go_enter Tryz.func136, Tryz.ntmps136
  go_wp2
  go_ret
  exact ⟨rfl, (Below.refl _ _).alloc (Nat.le_refl _) _⟩

theorem PutF (S : Nat → Prop) (w0 : World) (p : Nat) (fn1 fn2 : FuncId) (cap1 cap2 : Array Value) (x : Value) (f : K.WS → K.WS) (s : K.WS) (w : World) (h : WAt S w0 p s w) (hp : Puts S w0 p fn1 cap1 x f)
    (he : ∀ args w, (callFunc fn1 args).run Tryz.prog w = .ok (.enter fn1 args) w) :
    Calls Tryz.prog 76 #[.agg #[.func (.func fn1) #[] cap1, .func (.func fn2) #[] cap2], .pointer (some ⟨p, 0, none⟩), x] w fun en w' => en = .returned (.tuple #[]) ∧ WAt S w0 p (putW f s) w' := by
  have hb0 := (Below.refl w.heap.size w).alloc (Nat.le_refl _) (.cells #[.func (.func fn1) #[] cap1, .func (.func fn2) #[] cap2] 129)
  have HB := hide hb0
  have h1 := h.below hb0
  obtain ⟨v, c, _, _, c2, _, _, _⟩ := h1.see
  have HH := hide h1
  have HP := hide hp
  clear h hb0 h1 hp
  by_cases hz : s.fault = 0
  · have hz' : ((s.fault : Nat) : Int) = 0 := by omega
    have HZ := hide hz
    rw [hz'] at c2
    clear hz hz'
    go_enter Tryz.func76, Tryz.ntmps76
    go_wp2_with fail
    refine (wholeF fn1 fn2 cap1 cap2 _).mono ?_
    rintro e w1 ⟨rfl, hb1⟩
    have HH1 := hide (HH.out.below hb1)
    have hc0 := hb1.cell (p := ⟨w.heap.size, 0, none⟩) (by simp)
    have hc1 : w1.cell? ⟨w.heap.size, 0, none⟩ = some (.func (.func fn1) #[] cap1) := by rw [hc0, cell_of_row _ _ _ _ _ _ (heap_alloc_new w _)]; rfl
    clear hb1 hc0
    go_wp2_with fail
    refine (HP.out _ s HH1.out HZ.out).mono ?_
    rintro e w2 ⟨rfl, h2⟩
    go_wp2
    go_end0
    refine ⟨rfl, ?_⟩
    unfold putW
    rw [if_pos HZ.out]
    exact h2
  · have hz' : (((s.fault : Nat) : Int) == 0) = false := by simpa using hz
    go_enter Tryz.func76, Tryz.ntmps76
    go_wp2
    first | go_end0 | refine bodyPost_ret (results_none rfl _ _ _) rfl ?_
    refine ⟨rfl, ?_⟩
    unfold putW
    rw [if_neg hz]
    exact HH.out

theorem wholeB (fn1 fn2 : FuncId) (cap1 cap2 : Array Value) (w : World) :
    Calls Tryz.prog 141 #[.agg #[.func (.func fn1) #[] cap1, .func (.func fn2) #[] cap2]] w fun en w' => en = .returned (.bool true) ∧ Below w.heap.size w w' := by
  have h1 := fun w fn cap => neq_func 131 w fn #[] cap _ _ _ Tryz.underlying131
  have h2 := fun w fn cap => neq_func 132 w fn #[] cap _ _ _ Tryz.underlying132
  go_enter Tryz.func141, Tryz.ntmps141
  go_wp2
  go_ret
  exact ⟨rfl, (Below.refl _ _).alloc (Nat.le_refl _) _⟩

theorem PutB (S : Nat → Prop) (w0 : World) (p : Nat) (fn1 fn2 : FuncId) (cap1 cap2 : Array Value) (x : Value) (f : K.WS → K.WS) (s : K.WS) (w : World) (h : WAt S w0 p s w) (hp : Puts S w0 p fn1 cap1 x f)
    (he : ∀ args w, (callFunc fn1 args).run Tryz.prog w = .ok (.enter fn1 args) w) :
    Calls Tryz.prog 78 #[.agg #[.func (.func fn1) #[] cap1, .func (.func fn2) #[] cap2], .pointer (some ⟨p, 0, none⟩), x] w fun en w' => en = .returned (.tuple #[]) ∧ WAt S w0 p (putW f s) w' := by
  have hb0 := (Below.refl w.heap.size w).alloc (Nat.le_refl _) (.cells #[.func (.func fn1) #[] cap1, .func (.func fn2) #[] cap2] 134)
  have HB := hide hb0
  have h1 := h.below hb0
  obtain ⟨v, c, _, _, c2, _, _, _⟩ := h1.see
  have HH := hide h1
  have HP := hide hp
  clear h hb0 h1 hp
  by_cases hz : s.fault = 0
  · have hz' : ((s.fault : Nat) : Int) = 0 := by omega
    have HZ := hide hz
    rw [hz'] at c2
    clear hz hz'
    go_enter Tryz.func78, Tryz.ntmps78
    go_wp2_with fail
    refine (wholeB fn1 fn2 cap1 cap2 _).mono ?_
    rintro e w1 ⟨rfl, hb1⟩
    have HH1 := hide (HH.out.below hb1)
    have hc0 := hb1.cell (p := ⟨w.heap.size, 0, none⟩) (by simp)
    have hc1 : w1.cell? ⟨w.heap.size, 0, none⟩ = some (.func (.func fn1) #[] cap1) := by rw [hc0, cell_of_row _ _ _ _ _ _ (heap_alloc_new w _)]; rfl
    clear hb1 hc0
    go_wp2_with fail
    refine (HP.out _ s HH1.out HZ.out).mono ?_
    rintro e w2 ⟨rfl, h2⟩
    go_wp2
    go_end0
    refine ⟨rfl, ?_⟩
    unfold putW
    rw [if_pos HZ.out]
    exact h2
  · have hz' : (((s.fault : Nat) : Int) == 0) = false := by simpa using hz
    go_enter Tryz.func78, Tryz.ntmps78
    go_wp2
    first | go_end0 | refine bodyPost_ret (results_none rfl _ _ _) rfl ?_
    refine ⟨rfl, ?_⟩
    unfold putW
    rw [if_neg hz]
    exact HH.out

theorem wholeLt (fn1 fn2 : FuncId) (cap1 cap2 : Array Value) (w : World) :
    Calls Tryz.prog 66 #[.agg #[.func (.func fn1) #[] cap1, .func (.func fn2) #[] cap2]] w fun en w' => en = .returned (.bool true) ∧ Below w.heap.size w w' := by
  have h1 := fun w fn cap => neq_func 27 w fn #[] cap _ _ _ Tryz.underlying27
  have h2 := fun w fn cap => neq_func 28 w fn #[] cap _ _ _ Tryz.underlying28
  go_enter Tryz.func66, Tryz.ntmps66
  go_wp2
  go_ret
  exact ⟨rfl, (Below.refl _ _).alloc (Nat.le_refl _) _⟩

theorem PutLt (S : Nat → Prop) (w0 : World) (p : Nat) (fn1 fn2 : FuncId) (cap1 cap2 : Array Value) (x : Value) (f : K.WS → K.WS) (s : K.WS) (w : World) (h : WAt S w0 p s w) (hp : Puts S w0 p fn1 cap1 x f)
    (he : ∀ args w, (callFunc fn1 args).run Tryz.prog w = .ok (.enter fn1 args) w) :
    Calls Tryz.prog 60 #[.agg #[.func (.func fn1) #[] cap1, .func (.func fn2) #[] cap2], .pointer (some ⟨p, 0, none⟩), x] w fun en w' => en = .returned (.tuple #[]) ∧ WAt S w0 p (putW f s) w' := by
  have hb0 := (Below.refl w.heap.size w).alloc (Nat.le_refl _) (.cells #[.func (.func fn1) #[] cap1, .func (.func fn2) #[] cap2] 30)
  have HB := hide hb0
  have h1 := h.below hb0
  obtain ⟨v, c, _, _, c2, _, _, _⟩ := h1.see
  have HH := hide h1
  have HP := hide hp
  clear h hb0 h1 hp
  by_cases hz : s.fault = 0
  · have hz' : ((s.fault : Nat) : Int) = 0 := by omega
    have HZ := hide hz
    rw [hz'] at c2
    clear hz hz'
    go_enter Tryz.func60, Tryz.ntmps60
    go_wp2_with fail
    refine (wholeLt fn1 fn2 cap1 cap2 _).mono ?_
    rintro e w1 ⟨rfl, hb1⟩
    have HH1 := hide (HH.out.below hb1)
    have hc0 := hb1.cell (p := ⟨w.heap.size, 0, none⟩) (by simp)
    have hc1 : w1.cell? ⟨w.heap.size, 0, none⟩ = some (.func (.func fn1) #[] cap1) := by rw [hc0, cell_of_row _ _ _ _ _ _ (heap_alloc_new w _)]; rfl
    clear hb1 hc0
    go_wp2_with fail
    refine (HP.out _ s HH1.out HZ.out).mono ?_
    rintro e w2 ⟨rfl, h2⟩
    go_wp2
    go_end0
    refine ⟨rfl, ?_⟩
    unfold putW
    rw [if_pos HZ.out]
    exact h2
  · have hz' : (((s.fault : Nat) : Int) == 0) = false := by simpa using hz
    go_enter Tryz.func60, Tryz.ntmps60
    go_wp2
    first | go_end0 | refine bodyPost_ret (results_none rfl _ _ _) rfl ?_
    refine ⟨rfl, ?_⟩
    unfold putW
    rw [if_neg hz]
    exact HH.out

end Go.Proofs.YtoelgcagahmndaaGreat
