/- Codec: forms of structs: whole, Put, tried, Take (written by cst_gen.py). -/
import Derived.Test.YtbjcckfhfbjchaaGreatPListR
import Derived.Test.YtbjcckfhfbjchaaGreatCdB
import Derived.Laws.Rows
import Derived.Laws.ResultCell
import Derived.Deep.MidRow
import Derived.Great.Walk
import Derived.Deep.Cut
import Derived.Deep.CutRange
namespace Go.Proofs.YtbjcckfhfbjchaaGreat
namespace Cd
open Go.RowKit Go.Deep

theorem cells2 {w : World} {b : Nat} {x0 x1 : Value} {T : TypeId} (h : w.heap[b]? = some (.cells #[x0, x1] T (0, 0))) : w.cell? ⟨b, 0, none⟩ = some x0 ∧ w.cell? ⟨b, 1, none⟩ = some x1 := by
  refine ⟨?_, ?_⟩ <;> (rw [cell_of_row _ _ _ _ _ _ h]; rfl)
theorem blkB {w w' : World} {b : Nat} {o : Obj} (h : w.heap[b]? = some o) (hb : Below w.heap.size w w') : w'.heap[b]? = some o :=
  (Keep.ofBelow (S := fun _ => False) hb (Nat.le_refl _)).blk h fun h => h
theorem keep_row (w : World) (g : Nat) (cs : Array Value) : Keep (fun k => k = g) w (w.setRow g cs) := ⟨rfl, rfl, rfl, by simp [World.setRow], fun i _ hi => setRow_other w g i _ hi⟩
theorem blk2 (w : World) (o p : Obj) : ((w.alloc o).alloc p).heap[w.heap.size]? = some o ∧ ((w.alloc o).alloc p).heap[w.heap.size + 1]? = some p := by
  refine ⟨(Keep.alloc (fun _ => False) _ _).blk (heap_alloc_new w _) fun f => f, ?_⟩
  have := heap_alloc_new (w.alloc o) p
  simpa using this
theorem blk3 (w : World) (o p r : Obj) : (((w.alloc o).alloc p).alloc r).heap[w.heap.size]? = some o ∧ (((w.alloc o).alloc p).alloc r).heap[w.heap.size + 1]? = some p ∧ (((w.alloc o).alloc p).alloc r).heap[w.heap.size + 2]? = some r := by
  obtain ⟨h1, h2⟩ := blk2 w o p
  refine ⟨(Keep.alloc (fun _ => False) _ _).blk h1 fun f => f, (Keep.alloc (fun _ => False) _ _).blk h2 fun f => f, ?_⟩
  have := heap_alloc_new ((w.alloc o).alloc p) r
  simpa using this
theorem bel3 (w : World) (o p r : Obj) : Below w.heap.size w (((w.alloc o).alloc p).alloc r) := (((Below.refl _ _).alloc (Nat.le_refl _) _).alloc (by simp) _).alloc (by simp; omega) _
/-- a property stays where a reader, or one block of T, is written -/
theorem StableT.row {T : TypeId} {V : World → Value → Prop} (h : StableT T V) {w : World} {v : Value} (hv : V w v) {g : Nat} {old : Array Value} (hg : w.heap[g]? = some (.cells old T (0, 0))) (cs : Array Value) : V (w.setRow g cs) v :=
  h _ _ _ _ hv (keep_row w g cs) fun k e => by
    have e : k = g := e
    subst e
    exact ⟨_, _, hg, .inr rfl⟩
/-- what a form's take does that gives nothing up: a value of the form Sh, and where there is no fault it is one of V -/
def TakesF (w : World) (q : Nat) (fn : FuncId) (cap : Array Value) (s' : K.RS) (V : World → Value → Prop) (Sh : Value → Prop) : Prop :=
  Calls Tryz.prog fn (#[.pointer (some ⟨q, 0, none⟩)] ++ cap) w fun en w' => Keep (fun k => k = q) w w' ∧ ∃ v, en = .returned v ∧ Sh v ∧ Rr w' q s' ∧ (s'.fault = 0 → V w' v)
def TakesFG (D : Nat → Prop) (w : World) (fn : FuncId) (cap : Array Value) (g : K.RS → K.RS) (V : K.RS → World → Value → Prop) (Sh : Value → Prop) : Prop :=
  ∀ q s w1, Agree D w w1 → ¬ D q → Rr w1 q s → s.fault = 0 → TakesF w1 q fn cap (g s) (V s) Sh
theorem TakesFG.mono {D E : Nat → Prop} {w w2 : World} {fn : FuncId} {cap : Array Value} {g : K.RS → K.RS} {V : K.RS → World → Value → Prop} {Sh : Value → Prop} (h : TakesFG D w fn cap g V Sh) (hE : ∀ k, D k → E k) (ha : Agree D w w2) : TakesFG E w2 fn cap g V Sh :=
  fun q s w1 h1 h2 h3 h4 => h q s w1 (ha.trans (h1.mono hE)) (fun hd => h2 (hE q hd)) h3 h4

theorem sizeNd : (Tryz.prog.info? 57).map (·.size) = some 10 := by kernel_rfl
theorem onesNd (nm : ByteArray) (la : Int) (bu : Int) (cl : Int) (be : Int) (ba : Int) (ca : Int) (ji : Int) (x1 : Option Addr) (x2 x3 : Nat) (y1 : Option Addr) (y2 y3 : Nat) : (#[.string nm, .int .i64 la, .int .i64 bu, .int .i64 cl, .int .i64 be, .int .i64 ba, .int .i64 ca, .int .i64 ji, .slice x1 x2 x3, .slice y1 y2 y3] : Array Value).all (·.oneCell') = true := by simp [Value.oneCell']
def ShNd (v : Value) : Prop := ∃ nm la bu cl be ba ca ji x1 x2 x3 y1 y2 y3, v = .agg #[.string nm, .int .i64 la, .int .i64 bu, .int .i64 cl, .int .i64 be, .int .i64 ba, .int .i64 ca, .int .i64 ji, .slice x1 x2 x3, .slice y1 y2 y3]
theorem wholeNd (fn1 fn2 : FuncId) (cap1 cap2 : Array Value) (w : World) :
    Calls Tryz.prog 183 #[.agg #[.func (.func fn1) #[] cap1, .func (.func fn2) #[] cap2]] w fun en w' => en = .returned (.bool true) ∧ Below w.heap.size w w' := by
  have h1 := fun w fn cap => neq_func 116 w fn #[] cap _ _ _ Tryz.underlying116
  have h2 := fun w fn cap => neq_func 117 w fn #[] cap _ _ _ Tryz.underlying117
  go_enter Tryz.func183, Tryz.ntmps183
  go_wp2
  go_ret
  exact ⟨rfl, (Below.refl _ _).alloc (Nat.le_refl _) _⟩
set_option maxRecDepth 10000 in
set_option maxHeartbeats 1000000 in
theorem PutNd (S : Nat → Prop) (w0 : World) (p : Nat) (fn1 fn2 : FuncId) (cap1 cap2 : Array Value) (nm : ByteArray) (la : Int) (bu : Int) (cl : Int) (be : Int) (ba : Int) (ca : Int) (ji : Int) (x1 : Option Addr) (x2 x3 : Nat) (y1 : Option Addr) (y2 y3 : Nat) (f : K.WS → K.WS) (s : K.WS) (w : World) (h : WAt S w0 p s w) (hp : Puts S w0 p fn1 cap1 (.agg #[.string nm, .int .i64 la, .int .i64 bu, .int .i64 cl, .int .i64 be, .int .i64 ba, .int .i64 ca, .int .i64 ji, .slice x1 x2 x3, .slice y1 y2 y3]) f)
    (he : ∀ args w, (callFunc fn1 args).run Tryz.prog w = .ok (.enter fn1 args) w) :
    Calls Tryz.prog 160 #[.agg #[.func (.func fn1) #[] cap1, .func (.func fn2) #[] cap2], .pointer (some ⟨p, 0, none⟩), .agg #[.string nm, .int .i64 la, .int .i64 bu, .int .i64 cl, .int .i64 be, .int .i64 ba, .int .i64 ca, .int .i64 ji, .slice x1 x2 x3, .slice y1 y2 y3]] w fun en w' => en = .returned (.tuple #[]) ∧ WAt S w0 p (putW f s) w' := by
  have HB : Hid (Below w.heap.size w ((w.alloc (.cells #[.func (.func fn1) #[] cap1, .func (.func fn2) #[] cap2] 119)).alloc (.cells #[.string nm, .int .i64 la, .int .i64 bu, .int .i64 cl, .int .i64 be, .int .i64 ba, .int .i64 ca, .int .i64 ji, .slice x1 x2 x3, .slice y1 y2 y3] 57))) := ((Below.refl _ _).alloc (Nat.le_refl _) _).alloc (by simp) _
  obtain ⟨hF, hX⟩ := blk2 w (.cells #[.func (.func fn1) #[] cap1, .func (.func fn2) #[] cap2] 119) (.cells #[.string nm, .int .i64 la, .int .i64 bu, .int .i64 cl, .int .i64 be, .int .i64 ba, .int .i64 ca, .int .i64 ji, .slice x1 x2 x3, .slice y1 y2 y3] 57)
  have HF := hide hF
  have HX := hide hX
  have h1 := h.below HB.out
  obtain ⟨v, c, _, _, c2, _, _, _⟩ := h1.see
  have HH := hide h1
  have HP := hide hp
  have HI : Hid ((Tryz.prog.info? 57).map (·.size) = some (#[.string nm, .int .i64 la, .int .i64 bu, .int .i64 cl, .int .i64 be, .int .i64 ba, .int .i64 ca, .int .i64 ji, .slice x1 x2 x3, .slice y1 y2 y3] : Array Value).size) := sizeNd
  clear h h1 hp hF hX
  by_cases hz : s.fault = 0
  · have HZ := hide hz
    rw [hz] at c2
    clear hz
    go_enter Tryz.func160, Tryz.ntmps160
    go_upto_region 1 with fail
    change Code.wp _ _ _ _ ((w.alloc (.cells #[.func (.func fn1) #[] cap1, .func (.func fn2) #[] cap2] 119)).alloc (.cells #[.string nm, .int .i64 la, .int .i64 bu, .int .i64 cl, .int .i64 be, .int .i64 ba, .int .i64 ca, .int .i64 ji, .slice x1 x2 x3, .slice y1 y2 y3] 57))
    generalize (w.alloc (.cells #[.func (.func fn1) #[] cap1, .func (.func fn2) #[] cap2] 119)).alloc (.cells #[.string nm, .int .i64 la, .int .i64 bu, .int .i64 cl, .int .i64 be, .int .i64 ba, .int .i64 ca, .int .i64 ji, .slice x1 x2 x3, .slice y1 y2 y3] 57) = W at *
    obtain ⟨d0, d1⟩ := cells2 HF.out
    have c2' : W.cell? ⟨p, 2, none⟩ = some (.int .i64 0) := c2
    clear c2
    go_wp2_with fail
    refine (wholeNd fn1 fn2 cap1 cap2 _).mono ?_
    rintro e w1 ⟨rfl, hb1⟩
    have HH1 := hide (HH.out.below hb1)
    have HX1 := hide (blkB HX.out hb1)
    clear d0 d1 c2'
    obtain ⟨d0, d1⟩ := cells2 (blkB HF.out hb1)
    clear hb1
    go_wp2_with (refine wpList_load_row rfl 57 _ rfl (w.heap.size + 1) rfl 57 #[.string nm, .int .i64 la, .int .i64 bu, .int .i64 cl, .int .i64 be, .int .i64 ba, .int .i64 ca, .int .i64 ji, .slice x1 x2 x3, .slice y1 y2 y3] (0, 0) _ HX1.out Tryz.underlying57 rfl HI.out ?_)
    refine (HP.out w1 s HH1.out HZ.out).mono ?_
    rintro e w2 ⟨rfl, h2⟩
    have H2 := hide h2
    clear h2
    go_wp2
    go_end0
    refine ⟨rfl, ?_⟩
    unfold putW
    rw [if_pos HZ.out]
    exact H2.out
  · have hz' : (((s.fault : Nat) : Int) == 0) = false := by simpa using hz
    have HZ := hide hz
    clear hz
    go_enter Tryz.func160, Tryz.ntmps160
    go_upto_region 1 with fail
    change Code.wp _ _ _ _ ((w.alloc (.cells #[.func (.func fn1) #[] cap1, .func (.func fn2) #[] cap2] 119)).alloc (.cells #[.string nm, .int .i64 la, .int .i64 bu, .int .i64 cl, .int .i64 be, .int .i64 ba, .int .i64 ca, .int .i64 ji, .slice x1 x2 x3, .slice y1 y2 y3] 57))
    generalize (w.alloc (.cells #[.func (.func fn1) #[] cap1, .func (.func fn2) #[] cap2] 119)).alloc (.cells #[.string nm, .int .i64 la, .int .i64 bu, .int .i64 cl, .int .i64 be, .int .i64 ba, .int .i64 ca, .int .i64 ji, .slice x1 x2 x3, .slice y1 y2 y3] 57) = W at *
    go_wp2
    first | go_end0 | refine bodyPost_ret (results_none rfl _ _ _) rfl ?_
    refine ⟨rfl, ?_⟩
    unfold putW
    rw [if_neg HZ.out]
    exact HH.out
theorem resNd {fn : Func} {p : Tmp} (hh : fn.results = #[.cell p 57]) (tmps : Array Value) (w : World) (g : Nat) (cs : Array Value) (hs : cs.size = 10) (hp : tmps.getD p undef = .pointer (some ⟨g, 0, none⟩)) (hg : w.heap[g]? = some (.cells cs 57 (0, 0))) :
    (results fn tmps).run Tryz.prog w = .ok (.agg cs) w :=
  results_cell_row hh tmps w g 57 cs (0, 0) _ hp hg Tryz.underlying57 rfl (by rw [sizeNd, hs])
set_option maxRecDepth 10000 in
set_option maxHeartbeats 1000000 in
theorem triedNd (q : Nat) (fn1 fn2 : FuncId) (cap1 cap2 : Array Value) (s' : K.RS) (V : World → Value → Prop) (hV : StableT 57 V) (w : World) (hq : q < w.heap.size)
    (ht : ∀ w1, Below w.heap.size w w1 → TakesF w1 q fn2 cap2 s' V ShNd) (he : ∀ args w, (callFunc fn2 args).run Tryz.prog w = .ok (.enter fn2 args) w) :
    Calls Tryz.prog 184 #[.agg #[.func (.func fn1) #[] cap1, .func (.func fn2) #[] cap2], .pointer (some ⟨q, 0, none⟩)] w fun en w' => Keep (fun k => k = q) w w' ∧ ∃ v, en = .returned v ∧ ShNd v ∧ Rr w' q s' ∧ (s'.fault = 0 → V w' v) := by
  have hmf : ∀ (fn : Fn) (first cap : Array Value) (w : World), (Instr.makeFunc fn first cap).run Tryz.prog w = .ok (.func fn first cap) w := fun _ _ _ _ => rfl
  have HT := hide ht
  have HV := hide hV
  have HQ := hide hq
  have HSI := hide sizeNd
  clear ht hV hq
  go_enter_defers Tryz.func184, Tryz.ntmps184
  go_wp2_with fail
  have hba := bel3 w (.cells #[.func (.func fn1) #[] cap1, .func (.func fn2) #[] cap2] 119) (.cells #[.pointer (some ⟨q, 0, none⟩)] 100) (.cells #[.string ⟨#[]⟩, .int .i64 0, .int .i64 0, .int .i64 0, .int .i64 0, .int .i64 0, .int .i64 0, .int .i64 0, .slice none 0 0, .slice none 0 0] 57)
  obtain ⟨_, hrb, hre⟩ := blk3 w (.cells #[.func (.func fn1) #[] cap1, .func (.func fn2) #[] cap2] 119) (.cells #[.pointer (some ⟨q, 0, none⟩)] 100) (.cells #[.string ⟨#[]⟩, .int .i64 0, .int .i64 0, .int .i64 0, .int .i64 0, .int .i64 0, .int .i64 0, .int .i64 0, .slice none 0 0, .slice none 0 0] 57)
  generalize ((w.alloc (.cells #[.func (.func fn1) #[] cap1, .func (.func fn2) #[] cap2] 119)).alloc (.cells #[.pointer (some ⟨q, 0, none⟩)] 100)).alloc (.cells #[.string ⟨#[]⟩, .int .i64 0, .int .i64 0, .int .i64 0, .int .i64 0, .int .i64 0, .int .i64 0, .int .i64 0, .slice none 0 0, .slice none 0 0] 57) = wa at *
  have HKA := hide (Keep.ofBelow (S := fun k => k = q) hba (Nat.le_refl _))
  refine (HT.out wa hba).mono ?_
  clear hba
  rintro en w1 ⟨hk, v, rfl, ⟨nm, la, bu, cl, be, ba, ca, ji, x1, x2, x3, y1, y2, y3, rfl⟩, hr, hv⟩
  have hrb1 := hk.blk hrb (fun h => by have := HQ.out; have h : _ = q := h; omega)
  have hre1 := hk.blk hre (fun h => by have := HQ.out; have h : _ = q := h; omega)
  have HRE := hide hre1
  have HK := hide (HKA.out.more hk)
  have HR := hide hr
  have HVV := hide hv
  have HRB := hide hrb1
  clear hk hr hv hrb hre hre1 hrb1
  have HI : Hid ((Tryz.prog.info? 57).map (·.size) = some (#[.string nm, .int .i64 la, .int .i64 bu, .int .i64 cl, .int .i64 be, .int .i64 ba, .int .i64 ca, .int .i64 ji, .slice x1 x2 x3, .slice y1 y2 y3] : Array Value).size) := sizeNd
  have HO1 := hide (onesNd nm la bu cl be ba ca ji x1 x2 x3 y1 y2 y3)
  go_wp2_with (refine wpList_store_row rfl 57 _ _ rfl (w.heap.size + 2) #[.string nm, .int .i64 la, .int .i64 bu, .int .i64 cl, .int .i64 be, .int .i64 ba, .int .i64 ca, .int .i64 ji, .slice x1 x2 x3, .slice y1 y2 y3] rfl rfl 57 _ HRE.out HI.out rfl HO1.out ?_)
  have hk2 := keep_row w1 (w.heap.size + 2) #[.string nm, .int .i64 la, .int .i64 bu, .int .i64 cl, .int .i64 be, .int .i64 ba, .int .i64 ca, .int .i64 ji, .slice x1 x2 x3, .slice y1 y2 y3]
  have hx2 := setRow_heap w1 (w.heap.size + 2) _ #[.string nm, .int .i64 la, .int .i64 bu, .int .i64 cl, .int .i64 be, .int .i64 ba, .int .i64 ca, .int .i64 ji, .slice x1 x2 x3, .slice y1 y2 y3] _ _ HRE.out
  have hc2 := hk2.blk HRB.out (by show ¬ _ = _; omega)
  have hr2 : Rr (w1.setRow (w.heap.size + 2) #[.string nm, .int .i64 la, .int .i64 bu, .int .i64 cl, .int .i64 be, .int .i64 ba, .int .i64 ca, .int .i64 ji, .slice x1 x2 x3, .slice y1 y2 y3]) q s' := HR.out.stay hk2 fun j hj e => by have := HQ.out; have e : j = _ := e; omega
  have hv2 : s'.fault = 0 → V (w1.setRow (w.heap.size + 2) #[.string nm, .int .i64 la, .int .i64 bu, .int .i64 cl, .int .i64 be, .int .i64 ba, .int .i64 ca, .int .i64 ji, .slice x1 x2 x3, .slice y1 y2 y3]) (.agg #[.string nm, .int .i64 la, .int .i64 bu, .int .i64 cl, .int .i64 be, .int .i64 ba, .int .i64 ca, .int .i64 ji, .slice x1 x2 x3, .slice y1 y2 y3]) := fun hz => StableT.row HV.out (HVV.out hz) HRE.out _
  generalize w1.setRow (w.heap.size + 2) #[.string nm, .int .i64 la, .int .i64 bu, .int .i64 cl, .int .i64 be, .int .i64 ba, .int .i64 ca, .int .i64 ji, .slice x1 x2 x3, .slice y1 y2 y3] = w2 at *
  have hc3 : w2.cell? ⟨w.heap.size + 1, 0, none⟩ = some (.pointer (some ⟨q, 0, none⟩)) := by rw [cell_of_row _ _ _ _ _ _ hc2]; rfl
  refine leaves_cons (f := 192) (args := #[.pointer (some ⟨w.heap.size + 1, 0, none⟩)]) (by simp) (by simp [go_sem]) ?_
  refine (idleNd q (w.heap.size + 1) _ hc3).mono ?_
  rintro e u' w'' ⟨rfl, rfl, rfl⟩
  have hx3 : w2.drew.heap[w.heap.size + 2]? = some (.cells #[.string nm, .int .i64 la, .int .i64 bu, .int .i64 cl, .int .i64 be, .int .i64 ba, .int .i64 ca, .int .i64 ji, .slice x1 x2 x3, .slice y1 y2 y3] 57 (0, 0)) := hx2
  exact ⟨_, resNd rfl _ _ (w.heap.size + 2) _ rfl rfl hx3, (HK.out.trans hk2 fun i e => .inr (by have : i = w.heap.size + 2 := e; omega)).more (Keep.drew _ _), _, rfl, ⟨_, _, _, _, _, _, _, _, _, _, _, _, _, _, rfl⟩, hr2.below (Below.refl _ _).drew, fun hz => HV.out.stable _ _ _ (hv2 hz) (Below.refl _ _).drew⟩
set_option maxRecDepth 10000 in
set_option maxHeartbeats 1000000 in
theorem TakeNd (q : Nat) (fn1 fn2 : FuncId) (cap1 cap2 : Array Value) (s s' : K.RS) (V : World → Value → Prop) (hV : StableT 57 V) (w : World) (h : Rr w q s)
    (ht : s.fault = 0 → ∀ w1, Below w.heap.size w w1 → TakesF w1 q fn2 cap2 s' V ShNd) (hn : s.fault ≠ 0 → s' = s) (he : ∀ args w, (callFunc fn2 args).run Tryz.prog w = .ok (.enter fn2 args) w) :
    Calls Tryz.prog 161 #[.agg #[.func (.func fn1) #[] cap1, .func (.func fn2) #[] cap2], .pointer (some ⟨q, 0, none⟩)] w fun en w' => Keep (fun k => k = q) w w' ∧ ∃ v, en = .returned v ∧ ShNd v ∧ Rr w' q s' ∧ (s'.fault = 0 → V w' v) ∧ (s'.fault ≠ 0 → v = .agg #[.string ⟨#[]⟩, .int .i64 0, .int .i64 0, .int .i64 0, .int .i64 0, .int .i64 0, .int .i64 0, .int .i64 0, .slice none 0 0, .slice none 0 0]) := by
  have HT := hide ht
  have HN := hide hn
  have HV := hide hV
  have HQ := hide h.lt
  have HIZ : Hid ((Tryz.prog.info? 57).map (·.size) = some (#[.string ⟨#[]⟩, .int .i64 0, .int .i64 0, .int .i64 0, .int .i64 0, .int .i64 0, .int .i64 0, .int .i64 0, .slice none 0 0, .slice none 0 0] : Array Value).size) := sizeNd
  have HOZ : Hid ((#[.string ⟨#[]⟩, .int .i64 0, .int .i64 0, .int .i64 0, .int .i64 0, .int .i64 0, .int .i64 0, .int .i64 0, .slice none 0 0, .slice none 0 0] : Array Value).all (·.oneCell') = true) := by show _ = _; simp [Value.oneCell']
  have HB := hide (bel3 w (.cells #[.func (.func fn1) #[] cap1, .func (.func fn2) #[] cap2] 119) (.cells #[.string ⟨#[]⟩, .int .i64 0, .int .i64 0, .int .i64 0, .int .i64 0, .int .i64 0, .int .i64 0, .int .i64 0, .slice none 0 0, .slice none 0 0] 57) (.cells #[.string ⟨#[]⟩, .int .i64 0, .int .i64 0, .int .i64 0, .int .i64 0, .int .i64 0, .int .i64 0, .int .i64 0, .slice none 0 0, .slice none 0 0] 57))
  obtain ⟨hF, hE, hZ⟩ := blk3 w (.cells #[.func (.func fn1) #[] cap1, .func (.func fn2) #[] cap2] 119) (.cells #[.string ⟨#[]⟩, .int .i64 0, .int .i64 0, .int .i64 0, .int .i64 0, .int .i64 0, .int .i64 0, .int .i64 0, .slice none 0 0, .slice none 0 0] 57) (.cells #[.string ⟨#[]⟩, .int .i64 0, .int .i64 0, .int .i64 0, .int .i64 0, .int .i64 0, .int .i64 0, .int .i64 0, .slice none 0 0, .slice none 0 0] 57)
  have HF := hide hF
  have HE := hide hE
  have HZe := hide hZ
  have HR := hide (h.below HB.out)
  clear ht hn hV h hF hE hZ
  by_cases hz : s.fault = 0
  · have HZ := hide hz
    obtain ⟨_, _, _, _, c2, _⟩ := HR.out.see
    rw [hz] at c2
    clear hz
    go_enter Tryz.func161, Tryz.ntmps161
    go_upto_region 2 with fail
    change Code.wp _ _ _ _ (((w.alloc (.cells #[.func (.func fn1) #[] cap1, .func (.func fn2) #[] cap2] 119)).alloc (.cells #[.string ⟨#[]⟩, .int .i64 0, .int .i64 0, .int .i64 0, .int .i64 0, .int .i64 0, .int .i64 0, .int .i64 0, .slice none 0 0, .slice none 0 0] 57)).alloc (.cells #[.string ⟨#[]⟩, .int .i64 0, .int .i64 0, .int .i64 0, .int .i64 0, .int .i64 0, .int .i64 0, .int .i64 0, .slice none 0 0, .slice none 0 0] 57))
    generalize ((w.alloc (.cells #[.func (.func fn1) #[] cap1, .func (.func fn2) #[] cap2] 119)).alloc (.cells #[.string ⟨#[]⟩, .int .i64 0, .int .i64 0, .int .i64 0, .int .i64 0, .int .i64 0, .int .i64 0, .int .i64 0, .slice none 0 0, .slice none 0 0] 57)).alloc (.cells #[.string ⟨#[]⟩, .int .i64 0, .int .i64 0, .int .i64 0, .int .i64 0, .int .i64 0, .int .i64 0, .int .i64 0, .slice none 0 0, .slice none 0 0] 57) = W at *
    have c2' : W.cell? ⟨q, 2, none⟩ = some (.int .i64 0) := c2
    clear c2
    obtain ⟨d0, d1⟩ := cells2 HF.out
    go_wp2_with fail
    refine (wholeNd fn1 fn2 cap1 cap2 _).mono ?_
    rintro e w1 ⟨rfl, hb1⟩
    have HB1 := hide (HB.out.trans (hb1.mono HB.out.size))
    have HE1 := hide (blkB HE.out hb1)
    have HZ1 := hide (blkB HZe.out hb1)
    clear d0 d1 c2'
    obtain ⟨d0, d1⟩ := cells2 (blkB HF.out hb1)
    clear hb1
    go_wp2_with fail
    refine (triedNd q fn1 fn2 cap1 cap2 s' V HV.out w1 (Nat.lt_of_lt_of_le HQ.out HB1.out.size) (fun w2 hb2 => HT.out HZ.out w2 (further HB1.out hb2)) he).mono ?_
    rintro e w2 ⟨hk2, v, rfl, ⟨nm, la, bu, cl, be, ba, ca, ji, x1, x2, x3, y1, y2, y3, rfl⟩, hr2, hv2⟩
    have HK2 := hide ((Keep.ofBelow (S := fun k => k = q) HB1.out (Nat.le_refl _)).more hk2)
    have HE2 := hide (hk2.blk HE1.out (fun h => by have := HQ.out; have h : _ = q := h; omega))
    have HZ2 := hide (hk2.blk HZ1.out (fun h => by have := HQ.out; have h : _ = q := h; omega))
    have hsz := hk2.size
    have hsz1 := (Array.getElem?_eq_some_iff.1 HZ1.out).1
    have HSZ : Hid (w.heap.size + 2 < w2.heap.size) := by show _ < _; omega
    have HR2 := hide hr2
    have HV2 := hide hv2
    clear hk2 d0 d1 HE1 HZ1 hsz hsz1 HB1 hr2 hv2
    have HI : Hid ((Tryz.prog.info? 57).map (·.size) = some (#[.string nm, .int .i64 la, .int .i64 bu, .int .i64 cl, .int .i64 be, .int .i64 ba, .int .i64 ca, .int .i64 ji, .slice x1 x2 x3, .slice y1 y2 y3] : Array Value).size) := sizeNd
    have HO1 := hide (onesNd nm la bu cl be ba ca ji x1 x2 x3 y1 y2 y3)
    have HA := hide (heap_alloc_new w2 (.cells #[.string ⟨#[]⟩, .int .i64 0, .int .i64 0, .int .i64 0, .int .i64 0, .int .i64 0, .int .i64 0, .int .i64 0, .slice none 0 0, .slice none 0 0] 57))
    have HXs := hide (setRow_heap (w2.alloc (.cells #[.string ⟨#[]⟩, .int .i64 0, .int .i64 0, .int .i64 0, .int .i64 0, .int .i64 0, .int .i64 0, .int .i64 0, .slice none 0 0, .slice none 0 0] 57)) w2.heap.size _ #[.string nm, .int .i64 la, .int .i64 bu, .int .i64 cl, .int .i64 be, .int .i64 ba, .int .i64 ca, .int .i64 ji, .slice x1 x2 x3, .slice y1 y2 y3] _ _ HA.out)
    have HBs : Hid (Below w2.heap.size w2 ((w2.alloc (.cells #[.string ⟨#[]⟩, .int .i64 0, .int .i64 0, .int .i64 0, .int .i64 0, .int .i64 0, .int .i64 0, .int .i64 0, .slice none 0 0, .slice none 0 0] 57)).setRow w2.heap.size #[.string nm, .int .i64 la, .int .i64 bu, .int .i64 cl, .int .i64 be, .int .i64 ba, .int .i64 ca, .int .i64 ji, .slice x1 x2 x3, .slice y1 y2 y3])) := ((Below.refl _ _).alloc (Nat.le_refl _) _).trans ((keep_row _ _ _).below (by simp) fun k e => by rw [e]; exact Nat.le_refl _)
    go_upto_region 8 with (refine wpList_store_row rfl 57 _ _ rfl w2.heap.size #[.string nm, .int .i64 la, .int .i64 bu, .int .i64 cl, .int .i64 be, .int .i64 ba, .int .i64 ca, .int .i64 ji, .slice x1 x2 x3, .slice y1 y2 y3] rfl rfl 57 _ HA.out HI.out rfl HO1.out ?_)
    change Code.wp _ _ _ _ ((w2.alloc (.cells #[.string ⟨#[]⟩, .int .i64 0, .int .i64 0, .int .i64 0, .int .i64 0, .int .i64 0, .int .i64 0, .int .i64 0, .slice none 0 0, .slice none 0 0] 57)).setRow w2.heap.size #[.string nm, .int .i64 la, .int .i64 bu, .int .i64 cl, .int .i64 be, .int .i64 ba, .int .i64 ca, .int .i64 ji, .slice x1 x2 x3, .slice y1 y2 y3])
    generalize (w2.alloc (.cells #[.string ⟨#[]⟩, .int .i64 0, .int .i64 0, .int .i64 0, .int .i64 0, .int .i64 0, .int .i64 0, .int .i64 0, .slice none 0 0, .slice none 0 0] 57)).setRow w2.heap.size #[.string nm, .int .i64 la, .int .i64 bu, .int .i64 cl, .int .i64 be, .int .i64 ba, .int .i64 ca, .int .i64 ji, .slice x1 x2 x3, .slice y1 y2 y3] = w3 at *
    have HR3 := hide (HR2.out.below HBs.out)
    have HV3 : Hid (s'.fault = 0 → V w3 (.agg #[.string nm, .int .i64 la, .int .i64 bu, .int .i64 cl, .int .i64 be, .int .i64 ba, .int .i64 ca, .int .i64 ji, .slice x1 x2 x3, .slice y1 y2 y3])) := fun hz => HV.out.stable _ _ _ (HV2.out hz) HBs.out
    have HE3 := hide (blkB HE2.out HBs.out)
    have HZ3 := hide (blkB HZ2.out HBs.out)
    have HK3 := hide (HK2.out.more (Keep.ofBelow (S := fun k => k = q) HBs.out (Nat.le_refl _)))
    generalize w2.heap.size = xb at *
    clear HR2 HV2 HE2 HZ2 HK2 HBs HA
    obtain ⟨_, _, _, _, e2, _⟩ := HR3.out.see
    by_cases hz' : s'.fault = 0
    · have e2' : w3.cell? ⟨q, 2, none⟩ = some (.int .i64 0) := by rw [e2, hz']; rfl
      have HZ' := hide hz'
      clear e2 hz'
      go_wp2_with (first
        | (refine wpList_load_row rfl 57 _ rfl xb rfl 57 #[.string nm, .int .i64 la, .int .i64 bu, .int .i64 cl, .int .i64 be, .int .i64 ba, .int .i64 ca, .int .i64 ji, .slice x1 x2 x3, .slice y1 y2 y3] (0, 0) _ HXs.out Tryz.underlying57 rfl HI.out ?_)
        | (refine wpList_store_row rfl 57 _ _ rfl (w.heap.size + 1) #[.string nm, .int .i64 la, .int .i64 bu, .int .i64 cl, .int .i64 be, .int .i64 ba, .int .i64 ca, .int .i64 ji, .slice x1 x2 x3, .slice y1 y2 y3] rfl rfl 57 _ HE3.out HI.out rfl HO1.out ?_))
      have HX := hide (setRow_heap _ (w.heap.size + 1) _ #[.string nm, .int .i64 la, .int .i64 bu, .int .i64 cl, .int .i64 be, .int .i64 ba, .int .i64 ca, .int .i64 ji, .slice x1 x2 x3, .slice y1 y2 y3] _ _ HE3.out)
      have HK := hide (keep_row w3 (w.heap.size + 1) #[.string nm, .int .i64 la, .int .i64 bu, .int .i64 cl, .int .i64 be, .int .i64 ba, .int .i64 ca, .int .i64 ji, .slice x1 x2 x3, .slice y1 y2 y3])
      exact bodyPost_ret (resNd rfl _ _ (w.heap.size + 1) _ rfl rfl HX.out) rfl ⟨HK3.out.trans HK.out (fun i e => .inr (by have : i = w.heap.size + 1 := e; omega)), _, rfl, ⟨_, _, _, _, _, _, _, _, _, _, _, _, _, _, rfl⟩, HR3.out.stay HK.out (fun j hj e => by have := HQ.out; have e : j = _ := e; omega), fun hz => StableT.row HV.out (HV3.out hz) HE3.out _, fun hz => absurd HZ'.out hz⟩
    · have hzz : (((s'.fault : Nat) : Int) == 0) = false := by simpa using hz'
      have HZ' := hide hz'
      clear hz'
      go_wp2_with (first
        | (refine wpList_load_row rfl 57 _ rfl (w.heap.size + 2) rfl 57 #[.string ⟨#[]⟩, .int .i64 0, .int .i64 0, .int .i64 0, .int .i64 0, .int .i64 0, .int .i64 0, .int .i64 0, .slice none 0 0, .slice none 0 0] (0, 0) _ HZ3.out Tryz.underlying57 rfl HIZ.out ?_)
        | (refine wpList_store_row rfl 57 _ _ rfl (w.heap.size + 1) #[.string ⟨#[]⟩, .int .i64 0, .int .i64 0, .int .i64 0, .int .i64 0, .int .i64 0, .int .i64 0, .int .i64 0, .slice none 0 0, .slice none 0 0] rfl rfl 57 _ HE3.out HIZ.out rfl HOZ.out ?_))
      have HX := hide (setRow_heap _ (w.heap.size + 1) _ #[.string ⟨#[]⟩, .int .i64 0, .int .i64 0, .int .i64 0, .int .i64 0, .int .i64 0, .int .i64 0, .int .i64 0, .slice none 0 0, .slice none 0 0] _ _ HE3.out)
      have HK := hide (keep_row w3 (w.heap.size + 1) #[.string ⟨#[]⟩, .int .i64 0, .int .i64 0, .int .i64 0, .int .i64 0, .int .i64 0, .int .i64 0, .int .i64 0, .slice none 0 0, .slice none 0 0])
      exact bodyPost_ret (resNd rfl _ _ (w.heap.size + 1) _ rfl rfl HX.out) rfl ⟨HK3.out.trans HK.out (fun i e => .inr (by have : i = w.heap.size + 1 := e; omega)), _, rfl, ⟨_, _, _, _, _, _, _, _, _, _, _, _, _, _, rfl⟩, HR3.out.stay HK.out (fun j hj e => by have := HQ.out; have e : j = _ := e; omega), fun hz => absurd hz HZ'.out, fun _ => rfl⟩
  · have hzz : (((s.fault : Nat) : Int) == 0) = false := by simpa using hz
    have HZ := hide hz
    obtain ⟨_, _, _, _, c2, _⟩ := HR.out.see
    have hs := HN.out hz
    subst hs
    clear hz
    go_enter Tryz.func161, Tryz.ntmps161
    go_upto_region 2 with fail
    change Code.wp _ _ _ _ (((w.alloc (.cells #[.func (.func fn1) #[] cap1, .func (.func fn2) #[] cap2] 119)).alloc (.cells #[.string ⟨#[]⟩, .int .i64 0, .int .i64 0, .int .i64 0, .int .i64 0, .int .i64 0, .int .i64 0, .int .i64 0, .slice none 0 0, .slice none 0 0] 57)).alloc (.cells #[.string ⟨#[]⟩, .int .i64 0, .int .i64 0, .int .i64 0, .int .i64 0, .int .i64 0, .int .i64 0, .int .i64 0, .slice none 0 0, .slice none 0 0] 57))
    generalize ((w.alloc (.cells #[.func (.func fn1) #[] cap1, .func (.func fn2) #[] cap2] 119)).alloc (.cells #[.string ⟨#[]⟩, .int .i64 0, .int .i64 0, .int .i64 0, .int .i64 0, .int .i64 0, .int .i64 0, .int .i64 0, .slice none 0 0, .slice none 0 0] 57)).alloc (.cells #[.string ⟨#[]⟩, .int .i64 0, .int .i64 0, .int .i64 0, .int .i64 0, .int .i64 0, .int .i64 0, .int .i64 0, .slice none 0 0, .slice none 0 0] 57) = W at *
    go_wp2_with (first
        | (refine wpList_load_row rfl 57 _ rfl (w.heap.size + 2) rfl 57 #[.string ⟨#[]⟩, .int .i64 0, .int .i64 0, .int .i64 0, .int .i64 0, .int .i64 0, .int .i64 0, .int .i64 0, .slice none 0 0, .slice none 0 0] (0, 0) _ HZe.out Tryz.underlying57 rfl HIZ.out ?_)
        | (refine wpList_store_row rfl 57 _ _ rfl (w.heap.size + 1) #[.string ⟨#[]⟩, .int .i64 0, .int .i64 0, .int .i64 0, .int .i64 0, .int .i64 0, .int .i64 0, .int .i64 0, .slice none 0 0, .slice none 0 0] rfl rfl 57 _ HE.out HIZ.out rfl HOZ.out ?_))
    have HX := hide (setRow_heap _ (w.heap.size + 1) _ #[.string ⟨#[]⟩, .int .i64 0, .int .i64 0, .int .i64 0, .int .i64 0, .int .i64 0, .int .i64 0, .int .i64 0, .slice none 0 0, .slice none 0 0] _ _ HE.out)
    have HK := hide (keep_row W (w.heap.size + 1) #[.string ⟨#[]⟩, .int .i64 0, .int .i64 0, .int .i64 0, .int .i64 0, .int .i64 0, .int .i64 0, .int .i64 0, .slice none 0 0, .slice none 0 0])
    exact bodyPost_ret (resNd rfl _ _ (w.heap.size + 1) _ rfl rfl HX.out) rfl ⟨(Keep.ofBelow (S := fun k => k = q) HB.out (Nat.le_refl _)).trans HK.out (fun i e => .inr (by have : i = w.heap.size + 1 := e; omega)), _, rfl, ⟨_, _, _, _, _, _, _, _, _, _, _, _, _, _, rfl⟩, HR.out.stay HK.out (fun j hj e => by have := HQ.out; have e : j = _ := e; omega), fun hz => absurd hz HZ.out, fun _ => rfl⟩

theorem sizePn : (Tryz.prog.info? 30).map (·.size) = some 3 := by kernel_rfl
theorem onesPn (nm : ByteArray) (dl : Int) (x1 : Option Addr) (x2 x3 : Nat) : (#[.string nm, .int .i64 dl, .slice x1 x2 x3] : Array Value).all (·.oneCell') = true := by simp [Value.oneCell']
def ShPn (v : Value) : Prop := ∃ nm dl x1 x2 x3, v = .agg #[.string nm, .int .i64 dl, .slice x1 x2 x3]
theorem wholePn (fn1 fn2 : FuncId) (cap1 cap2 : Array Value) (w : World) :
    Calls Tryz.prog 112 #[.agg #[.func (.func fn1) #[] cap1, .func (.func fn2) #[] cap2]] w fun en w' => en = .returned (.bool true) ∧ Below w.heap.size w w' := by
  have h1 := fun w fn cap => neq_func 70 w fn #[] cap _ _ _ Tryz.underlying70
  have h2 := fun w fn cap => neq_func 71 w fn #[] cap _ _ _ Tryz.underlying71
  go_enter Tryz.func112, Tryz.ntmps112
  go_wp2
  go_ret
  exact ⟨rfl, (Below.refl _ _).alloc (Nat.le_refl _) _⟩
set_option maxRecDepth 10000 in
set_option maxHeartbeats 1000000 in
theorem PutPn (S : Nat → Prop) (w0 : World) (p : Nat) (fn1 fn2 : FuncId) (cap1 cap2 : Array Value) (nm : ByteArray) (dl : Int) (x1 : Option Addr) (x2 x3 : Nat) (f : K.WS → K.WS) (s : K.WS) (w : World) (h : WAt S w0 p s w) (hp : Puts S w0 p fn1 cap1 (.agg #[.string nm, .int .i64 dl, .slice x1 x2 x3]) f)
    (he : ∀ args w, (callFunc fn1 args).run Tryz.prog w = .ok (.enter fn1 args) w) :
    Calls Tryz.prog 53 #[.agg #[.func (.func fn1) #[] cap1, .func (.func fn2) #[] cap2], .pointer (some ⟨p, 0, none⟩), .agg #[.string nm, .int .i64 dl, .slice x1 x2 x3]] w fun en w' => en = .returned (.tuple #[]) ∧ WAt S w0 p (putW f s) w' := by
  have HB : Hid (Below w.heap.size w ((w.alloc (.cells #[.func (.func fn1) #[] cap1, .func (.func fn2) #[] cap2] 73)).alloc (.cells #[.string nm, .int .i64 dl, .slice x1 x2 x3] 30))) := ((Below.refl _ _).alloc (Nat.le_refl _) _).alloc (by simp) _
  obtain ⟨hF, hX⟩ := blk2 w (.cells #[.func (.func fn1) #[] cap1, .func (.func fn2) #[] cap2] 73) (.cells #[.string nm, .int .i64 dl, .slice x1 x2 x3] 30)
  have HF := hide hF
  have HX := hide hX
  have h1 := h.below HB.out
  obtain ⟨v, c, _, _, c2, _, _, _⟩ := h1.see
  have HH := hide h1
  have HP := hide hp
  have HI : Hid ((Tryz.prog.info? 30).map (·.size) = some (#[.string nm, .int .i64 dl, .slice x1 x2 x3] : Array Value).size) := sizePn
  clear h h1 hp hF hX
  by_cases hz : s.fault = 0
  · have HZ := hide hz
    rw [hz] at c2
    clear hz
    go_enter Tryz.func53, Tryz.ntmps53
    go_upto_region 1 with fail
    change Code.wp _ _ _ _ ((w.alloc (.cells #[.func (.func fn1) #[] cap1, .func (.func fn2) #[] cap2] 73)).alloc (.cells #[.string nm, .int .i64 dl, .slice x1 x2 x3] 30))
    generalize (w.alloc (.cells #[.func (.func fn1) #[] cap1, .func (.func fn2) #[] cap2] 73)).alloc (.cells #[.string nm, .int .i64 dl, .slice x1 x2 x3] 30) = W at *
    obtain ⟨d0, d1⟩ := cells2 HF.out
    have c2' : W.cell? ⟨p, 2, none⟩ = some (.int .i64 0) := c2
    clear c2
    go_wp2_with fail
    refine (wholePn fn1 fn2 cap1 cap2 _).mono ?_
    rintro e w1 ⟨rfl, hb1⟩
    have HH1 := hide (HH.out.below hb1)
    have HX1 := hide (blkB HX.out hb1)
    clear d0 d1 c2'
    obtain ⟨d0, d1⟩ := cells2 (blkB HF.out hb1)
    clear hb1
    go_wp2_with (refine wpList_load_row rfl 30 _ rfl (w.heap.size + 1) rfl 30 #[.string nm, .int .i64 dl, .slice x1 x2 x3] (0, 0) _ HX1.out Tryz.underlying30 rfl HI.out ?_)
    refine (HP.out w1 s HH1.out HZ.out).mono ?_
    rintro e w2 ⟨rfl, h2⟩
    have H2 := hide h2
    clear h2
    go_wp2
    go_end0
    refine ⟨rfl, ?_⟩
    unfold putW
    rw [if_pos HZ.out]
    exact H2.out
  · have hz' : (((s.fault : Nat) : Int) == 0) = false := by simpa using hz
    have HZ := hide hz
    clear hz
    go_enter Tryz.func53, Tryz.ntmps53
    go_upto_region 1 with fail
    change Code.wp _ _ _ _ ((w.alloc (.cells #[.func (.func fn1) #[] cap1, .func (.func fn2) #[] cap2] 73)).alloc (.cells #[.string nm, .int .i64 dl, .slice x1 x2 x3] 30))
    generalize (w.alloc (.cells #[.func (.func fn1) #[] cap1, .func (.func fn2) #[] cap2] 73)).alloc (.cells #[.string nm, .int .i64 dl, .slice x1 x2 x3] 30) = W at *
    go_wp2
    first | go_end0 | refine bodyPost_ret (results_none rfl _ _ _) rfl ?_
    refine ⟨rfl, ?_⟩
    unfold putW
    rw [if_neg HZ.out]
    exact HH.out
theorem resPn {fn : Func} {p : Tmp} (hh : fn.results = #[.cell p 30]) (tmps : Array Value) (w : World) (g : Nat) (cs : Array Value) (hs : cs.size = 3) (hp : tmps.getD p undef = .pointer (some ⟨g, 0, none⟩)) (hg : w.heap[g]? = some (.cells cs 30 (0, 0))) :
    (results fn tmps).run Tryz.prog w = .ok (.agg cs) w :=
  results_cell_row hh tmps w g 30 cs (0, 0) _ hp hg Tryz.underlying30 rfl (by rw [sizePn, hs])
set_option maxRecDepth 10000 in
set_option maxHeartbeats 1000000 in
theorem triedPn (q : Nat) (fn1 fn2 : FuncId) (cap1 cap2 : Array Value) (s' : K.RS) (V : World → Value → Prop) (hV : StableT 30 V) (w : World) (hq : q < w.heap.size)
    (ht : ∀ w1, Below w.heap.size w w1 → TakesF w1 q fn2 cap2 s' V ShPn) (he : ∀ args w, (callFunc fn2 args).run Tryz.prog w = .ok (.enter fn2 args) w) :
    Calls Tryz.prog 135 #[.agg #[.func (.func fn1) #[] cap1, .func (.func fn2) #[] cap2], .pointer (some ⟨q, 0, none⟩)] w fun en w' => Keep (fun k => k = q) w w' ∧ ∃ v, en = .returned v ∧ ShPn v ∧ Rr w' q s' ∧ (s'.fault = 0 → V w' v) := by
  have hmf : ∀ (fn : Fn) (first cap : Array Value) (w : World), (Instr.makeFunc fn first cap).run Tryz.prog w = .ok (.func fn first cap) w := fun _ _ _ _ => rfl
  have HT := hide ht
  have HV := hide hV
  have HQ := hide hq
  have HSI := hide sizePn
  clear ht hV hq
  go_enter_defers Tryz.func135, Tryz.ntmps135
  go_wp2_with fail
  have hba := bel3 w (.cells #[.func (.func fn1) #[] cap1, .func (.func fn2) #[] cap2] 73) (.cells #[.pointer (some ⟨q, 0, none⟩)] 100) (.cells #[.string ⟨#[]⟩, .int .i64 0, .slice none 0 0] 30)
  obtain ⟨_, hrb, hre⟩ := blk3 w (.cells #[.func (.func fn1) #[] cap1, .func (.func fn2) #[] cap2] 73) (.cells #[.pointer (some ⟨q, 0, none⟩)] 100) (.cells #[.string ⟨#[]⟩, .int .i64 0, .slice none 0 0] 30)
  generalize ((w.alloc (.cells #[.func (.func fn1) #[] cap1, .func (.func fn2) #[] cap2] 73)).alloc (.cells #[.pointer (some ⟨q, 0, none⟩)] 100)).alloc (.cells #[.string ⟨#[]⟩, .int .i64 0, .slice none 0 0] 30) = wa at *
  have HKA := hide (Keep.ofBelow (S := fun k => k = q) hba (Nat.le_refl _))
  refine (HT.out wa hba).mono ?_
  clear hba
  rintro en w1 ⟨hk, v, rfl, ⟨nm, dl, x1, x2, x3, rfl⟩, hr, hv⟩
  have hrb1 := hk.blk hrb (fun h => by have := HQ.out; have h : _ = q := h; omega)
  have hre1 := hk.blk hre (fun h => by have := HQ.out; have h : _ = q := h; omega)
  have HRE := hide hre1
  have HK := hide (HKA.out.more hk)
  have HR := hide hr
  have HVV := hide hv
  have HRB := hide hrb1
  clear hk hr hv hrb hre hre1 hrb1
  have HI : Hid ((Tryz.prog.info? 30).map (·.size) = some (#[.string nm, .int .i64 dl, .slice x1 x2 x3] : Array Value).size) := sizePn
  have HO1 := hide (onesPn nm dl x1 x2 x3)
  go_wp2_with (refine wpList_store_row rfl 30 _ _ rfl (w.heap.size + 2) #[.string nm, .int .i64 dl, .slice x1 x2 x3] rfl rfl 30 _ HRE.out HI.out rfl HO1.out ?_)
  have hk2 := keep_row w1 (w.heap.size + 2) #[.string nm, .int .i64 dl, .slice x1 x2 x3]
  have hx2 := setRow_heap w1 (w.heap.size + 2) _ #[.string nm, .int .i64 dl, .slice x1 x2 x3] _ _ HRE.out
  have hc2 := hk2.blk HRB.out (by show ¬ _ = _; omega)
  have hr2 : Rr (w1.setRow (w.heap.size + 2) #[.string nm, .int .i64 dl, .slice x1 x2 x3]) q s' := HR.out.stay hk2 fun j hj e => by have := HQ.out; have e : j = _ := e; omega
  have hv2 : s'.fault = 0 → V (w1.setRow (w.heap.size + 2) #[.string nm, .int .i64 dl, .slice x1 x2 x3]) (.agg #[.string nm, .int .i64 dl, .slice x1 x2 x3]) := fun hz => StableT.row HV.out (HVV.out hz) HRE.out _
  generalize w1.setRow (w.heap.size + 2) #[.string nm, .int .i64 dl, .slice x1 x2 x3] = w2 at *
  have hc3 : w2.cell? ⟨w.heap.size + 1, 0, none⟩ = some (.pointer (some ⟨q, 0, none⟩)) := by rw [cell_of_row _ _ _ _ _ _ hc2]; rfl
  refine leaves_cons (f := 172) (args := #[.pointer (some ⟨w.heap.size + 1, 0, none⟩)]) (by simp) (by simp [go_sem]) ?_
  refine (idlePn q (w.heap.size + 1) _ hc3).mono ?_
  rintro e u' w'' ⟨rfl, rfl, rfl⟩
  have hx3 : w2.drew.heap[w.heap.size + 2]? = some (.cells #[.string nm, .int .i64 dl, .slice x1 x2 x3] 30 (0, 0)) := hx2
  exact ⟨_, resPn rfl _ _ (w.heap.size + 2) _ rfl rfl hx3, (HK.out.trans hk2 fun i e => .inr (by have : i = w.heap.size + 2 := e; omega)).more (Keep.drew _ _), _, rfl, ⟨_, _, _, _, _, rfl⟩, hr2.below (Below.refl _ _).drew, fun hz => HV.out.stable _ _ _ (hv2 hz) (Below.refl _ _).drew⟩
set_option maxRecDepth 10000 in
set_option maxHeartbeats 1000000 in
theorem TakePn (q : Nat) (fn1 fn2 : FuncId) (cap1 cap2 : Array Value) (s s' : K.RS) (V : World → Value → Prop) (hV : StableT 30 V) (w : World) (h : Rr w q s)
    (ht : s.fault = 0 → ∀ w1, Below w.heap.size w w1 → TakesF w1 q fn2 cap2 s' V ShPn) (hn : s.fault ≠ 0 → s' = s) (he : ∀ args w, (callFunc fn2 args).run Tryz.prog w = .ok (.enter fn2 args) w) :
    Calls Tryz.prog 70 #[.agg #[.func (.func fn1) #[] cap1, .func (.func fn2) #[] cap2], .pointer (some ⟨q, 0, none⟩)] w fun en w' => Keep (fun k => k = q) w w' ∧ ∃ v, en = .returned v ∧ ShPn v ∧ Rr w' q s' ∧ (s'.fault = 0 → V w' v) ∧ (s'.fault ≠ 0 → v = .agg #[.string ⟨#[]⟩, .int .i64 0, .slice none 0 0]) := by
  have HT := hide ht
  have HN := hide hn
  have HV := hide hV
  have HQ := hide h.lt
  have HIZ : Hid ((Tryz.prog.info? 30).map (·.size) = some (#[.string ⟨#[]⟩, .int .i64 0, .slice none 0 0] : Array Value).size) := sizePn
  have HOZ : Hid ((#[.string ⟨#[]⟩, .int .i64 0, .slice none 0 0] : Array Value).all (·.oneCell') = true) := by show _ = _; simp [Value.oneCell']
  have HB := hide (bel3 w (.cells #[.func (.func fn1) #[] cap1, .func (.func fn2) #[] cap2] 73) (.cells #[.string ⟨#[]⟩, .int .i64 0, .slice none 0 0] 30) (.cells #[.string ⟨#[]⟩, .int .i64 0, .slice none 0 0] 30))
  obtain ⟨hF, hE, hZ⟩ := blk3 w (.cells #[.func (.func fn1) #[] cap1, .func (.func fn2) #[] cap2] 73) (.cells #[.string ⟨#[]⟩, .int .i64 0, .slice none 0 0] 30) (.cells #[.string ⟨#[]⟩, .int .i64 0, .slice none 0 0] 30)
  have HF := hide hF
  have HE := hide hE
  have HZe := hide hZ
  have HR := hide (h.below HB.out)
  clear ht hn hV h hF hE hZ
  by_cases hz : s.fault = 0
  · have HZ := hide hz
    obtain ⟨_, _, _, _, c2, _⟩ := HR.out.see
    rw [hz] at c2
    clear hz
    go_enter Tryz.func70, Tryz.ntmps70
    go_upto_region 2 with fail
    change Code.wp _ _ _ _ (((w.alloc (.cells #[.func (.func fn1) #[] cap1, .func (.func fn2) #[] cap2] 73)).alloc (.cells #[.string ⟨#[]⟩, .int .i64 0, .slice none 0 0] 30)).alloc (.cells #[.string ⟨#[]⟩, .int .i64 0, .slice none 0 0] 30))
    generalize ((w.alloc (.cells #[.func (.func fn1) #[] cap1, .func (.func fn2) #[] cap2] 73)).alloc (.cells #[.string ⟨#[]⟩, .int .i64 0, .slice none 0 0] 30)).alloc (.cells #[.string ⟨#[]⟩, .int .i64 0, .slice none 0 0] 30) = W at *
    have c2' : W.cell? ⟨q, 2, none⟩ = some (.int .i64 0) := c2
    clear c2
    obtain ⟨d0, d1⟩ := cells2 HF.out
    go_wp2_with fail
    refine (wholePn fn1 fn2 cap1 cap2 _).mono ?_
    rintro e w1 ⟨rfl, hb1⟩
    have HB1 := hide (HB.out.trans (hb1.mono HB.out.size))
    have HE1 := hide (blkB HE.out hb1)
    have HZ1 := hide (blkB HZe.out hb1)
    clear d0 d1 c2'
    obtain ⟨d0, d1⟩ := cells2 (blkB HF.out hb1)
    clear hb1
    go_wp2_with fail
    refine (triedPn q fn1 fn2 cap1 cap2 s' V HV.out w1 (Nat.lt_of_lt_of_le HQ.out HB1.out.size) (fun w2 hb2 => HT.out HZ.out w2 (further HB1.out hb2)) he).mono ?_
    rintro e w2 ⟨hk2, v, rfl, ⟨nm, dl, x1, x2, x3, rfl⟩, hr2, hv2⟩
    have HK2 := hide ((Keep.ofBelow (S := fun k => k = q) HB1.out (Nat.le_refl _)).more hk2)
    have HE2 := hide (hk2.blk HE1.out (fun h => by have := HQ.out; have h : _ = q := h; omega))
    have HZ2 := hide (hk2.blk HZ1.out (fun h => by have := HQ.out; have h : _ = q := h; omega))
    have hsz := hk2.size
    have hsz1 := (Array.getElem?_eq_some_iff.1 HZ1.out).1
    have HSZ : Hid (w.heap.size + 2 < w2.heap.size) := by show _ < _; omega
    have HR2 := hide hr2
    have HV2 := hide hv2
    clear hk2 d0 d1 HE1 HZ1 hsz hsz1 HB1 hr2 hv2
    have HI : Hid ((Tryz.prog.info? 30).map (·.size) = some (#[.string nm, .int .i64 dl, .slice x1 x2 x3] : Array Value).size) := sizePn
    have HO1 := hide (onesPn nm dl x1 x2 x3)
    have HA := hide (heap_alloc_new w2 (.cells #[.string ⟨#[]⟩, .int .i64 0, .slice none 0 0] 30))
    have HXs := hide (setRow_heap (w2.alloc (.cells #[.string ⟨#[]⟩, .int .i64 0, .slice none 0 0] 30)) w2.heap.size _ #[.string nm, .int .i64 dl, .slice x1 x2 x3] _ _ HA.out)
    have HBs : Hid (Below w2.heap.size w2 ((w2.alloc (.cells #[.string ⟨#[]⟩, .int .i64 0, .slice none 0 0] 30)).setRow w2.heap.size #[.string nm, .int .i64 dl, .slice x1 x2 x3])) := ((Below.refl _ _).alloc (Nat.le_refl _) _).trans ((keep_row _ _ _).below (by simp) fun k e => by rw [e]; exact Nat.le_refl _)
    go_upto_region 8 with (refine wpList_store_row rfl 30 _ _ rfl w2.heap.size #[.string nm, .int .i64 dl, .slice x1 x2 x3] rfl rfl 30 _ HA.out HI.out rfl HO1.out ?_)
    change Code.wp _ _ _ _ ((w2.alloc (.cells #[.string ⟨#[]⟩, .int .i64 0, .slice none 0 0] 30)).setRow w2.heap.size #[.string nm, .int .i64 dl, .slice x1 x2 x3])
    generalize (w2.alloc (.cells #[.string ⟨#[]⟩, .int .i64 0, .slice none 0 0] 30)).setRow w2.heap.size #[.string nm, .int .i64 dl, .slice x1 x2 x3] = w3 at *
    have HR3 := hide (HR2.out.below HBs.out)
    have HV3 : Hid (s'.fault = 0 → V w3 (.agg #[.string nm, .int .i64 dl, .slice x1 x2 x3])) := fun hz => HV.out.stable _ _ _ (HV2.out hz) HBs.out
    have HE3 := hide (blkB HE2.out HBs.out)
    have HZ3 := hide (blkB HZ2.out HBs.out)
    have HK3 := hide (HK2.out.more (Keep.ofBelow (S := fun k => k = q) HBs.out (Nat.le_refl _)))
    generalize w2.heap.size = xb at *
    clear HR2 HV2 HE2 HZ2 HK2 HBs HA
    obtain ⟨_, _, _, _, e2, _⟩ := HR3.out.see
    by_cases hz' : s'.fault = 0
    · have e2' : w3.cell? ⟨q, 2, none⟩ = some (.int .i64 0) := by rw [e2, hz']; rfl
      have HZ' := hide hz'
      clear e2 hz'
      go_wp2_with (first
        | (refine wpList_load_row rfl 30 _ rfl xb rfl 30 #[.string nm, .int .i64 dl, .slice x1 x2 x3] (0, 0) _ HXs.out Tryz.underlying30 rfl HI.out ?_)
        | (refine wpList_store_row rfl 30 _ _ rfl (w.heap.size + 1) #[.string nm, .int .i64 dl, .slice x1 x2 x3] rfl rfl 30 _ HE3.out HI.out rfl HO1.out ?_))
      have HX := hide (setRow_heap _ (w.heap.size + 1) _ #[.string nm, .int .i64 dl, .slice x1 x2 x3] _ _ HE3.out)
      have HK := hide (keep_row w3 (w.heap.size + 1) #[.string nm, .int .i64 dl, .slice x1 x2 x3])
      exact bodyPost_ret (resPn rfl _ _ (w.heap.size + 1) _ rfl rfl HX.out) rfl ⟨HK3.out.trans HK.out (fun i e => .inr (by have : i = w.heap.size + 1 := e; omega)), _, rfl, ⟨_, _, _, _, _, rfl⟩, HR3.out.stay HK.out (fun j hj e => by have := HQ.out; have e : j = _ := e; omega), fun hz => StableT.row HV.out (HV3.out hz) HE3.out _, fun hz => absurd HZ'.out hz⟩
    · have hzz : (((s'.fault : Nat) : Int) == 0) = false := by simpa using hz'
      have HZ' := hide hz'
      clear hz'
      go_wp2_with (first
        | (refine wpList_load_row rfl 30 _ rfl (w.heap.size + 2) rfl 30 #[.string ⟨#[]⟩, .int .i64 0, .slice none 0 0] (0, 0) _ HZ3.out Tryz.underlying30 rfl HIZ.out ?_)
        | (refine wpList_store_row rfl 30 _ _ rfl (w.heap.size + 1) #[.string ⟨#[]⟩, .int .i64 0, .slice none 0 0] rfl rfl 30 _ HE3.out HIZ.out rfl HOZ.out ?_))
      have HX := hide (setRow_heap _ (w.heap.size + 1) _ #[.string ⟨#[]⟩, .int .i64 0, .slice none 0 0] _ _ HE3.out)
      have HK := hide (keep_row w3 (w.heap.size + 1) #[.string ⟨#[]⟩, .int .i64 0, .slice none 0 0])
      exact bodyPost_ret (resPn rfl _ _ (w.heap.size + 1) _ rfl rfl HX.out) rfl ⟨HK3.out.trans HK.out (fun i e => .inr (by have : i = w.heap.size + 1 := e; omega)), _, rfl, ⟨_, _, _, _, _, rfl⟩, HR3.out.stay HK.out (fun j hj e => by have := HQ.out; have e : j = _ := e; omega), fun hz => absurd hz HZ'.out, fun _ => rfl⟩
  · have hzz : (((s.fault : Nat) : Int) == 0) = false := by simpa using hz
    have HZ := hide hz
    obtain ⟨_, _, _, _, c2, _⟩ := HR.out.see
    have hs := HN.out hz
    subst hs
    clear hz
    go_enter Tryz.func70, Tryz.ntmps70
    go_upto_region 2 with fail
    change Code.wp _ _ _ _ (((w.alloc (.cells #[.func (.func fn1) #[] cap1, .func (.func fn2) #[] cap2] 73)).alloc (.cells #[.string ⟨#[]⟩, .int .i64 0, .slice none 0 0] 30)).alloc (.cells #[.string ⟨#[]⟩, .int .i64 0, .slice none 0 0] 30))
    generalize ((w.alloc (.cells #[.func (.func fn1) #[] cap1, .func (.func fn2) #[] cap2] 73)).alloc (.cells #[.string ⟨#[]⟩, .int .i64 0, .slice none 0 0] 30)).alloc (.cells #[.string ⟨#[]⟩, .int .i64 0, .slice none 0 0] 30) = W at *
    go_wp2_with (first
        | (refine wpList_load_row rfl 30 _ rfl (w.heap.size + 2) rfl 30 #[.string ⟨#[]⟩, .int .i64 0, .slice none 0 0] (0, 0) _ HZe.out Tryz.underlying30 rfl HIZ.out ?_)
        | (refine wpList_store_row rfl 30 _ _ rfl (w.heap.size + 1) #[.string ⟨#[]⟩, .int .i64 0, .slice none 0 0] rfl rfl 30 _ HE.out HIZ.out rfl HOZ.out ?_))
    have HX := hide (setRow_heap _ (w.heap.size + 1) _ #[.string ⟨#[]⟩, .int .i64 0, .slice none 0 0] _ _ HE.out)
    have HK := hide (keep_row W (w.heap.size + 1) #[.string ⟨#[]⟩, .int .i64 0, .slice none 0 0])
    exact bodyPost_ret (resPn rfl _ _ (w.heap.size + 1) _ rfl rfl HX.out) rfl ⟨(Keep.ofBelow (S := fun k => k = q) HB.out (Nat.le_refl _)).trans HK.out (fun i e => .inr (by have : i = w.heap.size + 1 := e; omega)), _, rfl, ⟨_, _, _, _, _, rfl⟩, HR.out.stay HK.out (fun j hj e => by have := HQ.out; have e : j = _ := e; omega), fun hz => absurd hz HZ.out, fun _ => rfl⟩

theorem sizeOp : (Tryz.prog.info? 32).map (·.size) = some 12 := by kernel_rfl
theorem onesOp (ki : Int) (nm : ByteArray) (dl : Int) (x1 : Option Addr) (x2 x3 : Nat) (ky : ByteArray) (la : Int) (wo : Int) (tk : Int) (y1 : Option Addr) (y2 y3 : Nat) (ru : Int) (lu : Int) (ti : Int) : (#[.int .i64 ki, .string nm, .int .i64 dl, .slice x1 x2 x3, .string ky, .int .i64 la, .int .i64 wo, .int .i64 tk, .slice y1 y2 y3, .int .i64 ru, .int .u64 lu, .int .i64 ti] : Array Value).all (·.oneCell') = true := by simp [Value.oneCell']
def ShOp (v : Value) : Prop := ∃ ki nm dl x1 x2 x3 ky la wo tk y1 y2 y3 ru lu ti, v = .agg #[.int .i64 ki, .string nm, .int .i64 dl, .slice x1 x2 x3, .string ky, .int .i64 la, .int .i64 wo, .int .i64 tk, .slice y1 y2 y3, .int .i64 ru, .int .u64 lu, .int .i64 ti]
theorem wholeOp (fn1 fn2 : FuncId) (cap1 cap2 : Array Value) (w : World) :
    Calls Tryz.prog 76 #[.agg #[.func (.func fn1) #[] cap1, .func (.func fn2) #[] cap2]] w fun en w' => en = .returned (.bool true) ∧ Below w.heap.size w w' := by
  have h1 := fun w fn cap => neq_func 62 w fn #[] cap _ _ _ Tryz.underlying62
  have h2 := fun w fn cap => neq_func 63 w fn #[] cap _ _ _ Tryz.underlying63
  go_enter Tryz.func76, Tryz.ntmps76
  go_wp2
  go_ret
  exact ⟨rfl, (Below.refl _ _).alloc (Nat.le_refl _) _⟩
set_option maxRecDepth 10000 in
set_option maxHeartbeats 1000000 in
theorem PutOp (S : Nat → Prop) (w0 : World) (p : Nat) (fn1 fn2 : FuncId) (cap1 cap2 : Array Value) (ki : Int) (nm : ByteArray) (dl : Int) (x1 : Option Addr) (x2 x3 : Nat) (ky : ByteArray) (la : Int) (wo : Int) (tk : Int) (y1 : Option Addr) (y2 y3 : Nat) (ru : Int) (lu : Int) (ti : Int) (f : K.WS → K.WS) (s : K.WS) (w : World) (h : WAt S w0 p s w) (hp : Puts S w0 p fn1 cap1 (.agg #[.int .i64 ki, .string nm, .int .i64 dl, .slice x1 x2 x3, .string ky, .int .i64 la, .int .i64 wo, .int .i64 tk, .slice y1 y2 y3, .int .i64 ru, .int .u64 lu, .int .i64 ti]) f)
    (he : ∀ args w, (callFunc fn1 args).run Tryz.prog w = .ok (.enter fn1 args) w) :
    Calls Tryz.prog 41 #[.agg #[.func (.func fn1) #[] cap1, .func (.func fn2) #[] cap2], .pointer (some ⟨p, 0, none⟩), .agg #[.int .i64 ki, .string nm, .int .i64 dl, .slice x1 x2 x3, .string ky, .int .i64 la, .int .i64 wo, .int .i64 tk, .slice y1 y2 y3, .int .i64 ru, .int .u64 lu, .int .i64 ti]] w fun en w' => en = .returned (.tuple #[]) ∧ WAt S w0 p (putW f s) w' := by
  have HB : Hid (Below w.heap.size w ((w.alloc (.cells #[.func (.func fn1) #[] cap1, .func (.func fn2) #[] cap2] 65)).alloc (.cells #[.int .i64 ki, .string nm, .int .i64 dl, .slice x1 x2 x3, .string ky, .int .i64 la, .int .i64 wo, .int .i64 tk, .slice y1 y2 y3, .int .i64 ru, .int .u64 lu, .int .i64 ti] 32))) := ((Below.refl _ _).alloc (Nat.le_refl _) _).alloc (by simp) _
  obtain ⟨hF, hX⟩ := blk2 w (.cells #[.func (.func fn1) #[] cap1, .func (.func fn2) #[] cap2] 65) (.cells #[.int .i64 ki, .string nm, .int .i64 dl, .slice x1 x2 x3, .string ky, .int .i64 la, .int .i64 wo, .int .i64 tk, .slice y1 y2 y3, .int .i64 ru, .int .u64 lu, .int .i64 ti] 32)
  have HF := hide hF
  have HX := hide hX
  have h1 := h.below HB.out
  obtain ⟨v, c, _, _, c2, _, _, _⟩ := h1.see
  have HH := hide h1
  have HP := hide hp
  have HI : Hid ((Tryz.prog.info? 32).map (·.size) = some (#[.int .i64 ki, .string nm, .int .i64 dl, .slice x1 x2 x3, .string ky, .int .i64 la, .int .i64 wo, .int .i64 tk, .slice y1 y2 y3, .int .i64 ru, .int .u64 lu, .int .i64 ti] : Array Value).size) := sizeOp
  clear h h1 hp hF hX
  by_cases hz : s.fault = 0
  · have HZ := hide hz
    rw [hz] at c2
    clear hz
    go_enter Tryz.func41, Tryz.ntmps41
    go_upto_region 1 with fail
    change Code.wp _ _ _ _ ((w.alloc (.cells #[.func (.func fn1) #[] cap1, .func (.func fn2) #[] cap2] 65)).alloc (.cells #[.int .i64 ki, .string nm, .int .i64 dl, .slice x1 x2 x3, .string ky, .int .i64 la, .int .i64 wo, .int .i64 tk, .slice y1 y2 y3, .int .i64 ru, .int .u64 lu, .int .i64 ti] 32))
    generalize (w.alloc (.cells #[.func (.func fn1) #[] cap1, .func (.func fn2) #[] cap2] 65)).alloc (.cells #[.int .i64 ki, .string nm, .int .i64 dl, .slice x1 x2 x3, .string ky, .int .i64 la, .int .i64 wo, .int .i64 tk, .slice y1 y2 y3, .int .i64 ru, .int .u64 lu, .int .i64 ti] 32) = W at *
    obtain ⟨d0, d1⟩ := cells2 HF.out
    have c2' : W.cell? ⟨p, 2, none⟩ = some (.int .i64 0) := c2
    clear c2
    go_wp2_with fail
    refine (wholeOp fn1 fn2 cap1 cap2 _).mono ?_
    rintro e w1 ⟨rfl, hb1⟩
    have HH1 := hide (HH.out.below hb1)
    have HX1 := hide (blkB HX.out hb1)
    clear d0 d1 c2'
    obtain ⟨d0, d1⟩ := cells2 (blkB HF.out hb1)
    clear hb1
    go_wp2_with (refine wpList_load_row rfl 32 _ rfl (w.heap.size + 1) rfl 32 #[.int .i64 ki, .string nm, .int .i64 dl, .slice x1 x2 x3, .string ky, .int .i64 la, .int .i64 wo, .int .i64 tk, .slice y1 y2 y3, .int .i64 ru, .int .u64 lu, .int .i64 ti] (0, 0) _ HX1.out Tryz.underlying32 rfl HI.out ?_)
    refine (HP.out w1 s HH1.out HZ.out).mono ?_
    rintro e w2 ⟨rfl, h2⟩
    have H2 := hide h2
    clear h2
    go_wp2
    go_end0
    refine ⟨rfl, ?_⟩
    unfold putW
    rw [if_pos HZ.out]
    exact H2.out
  · have hz' : (((s.fault : Nat) : Int) == 0) = false := by simpa using hz
    have HZ := hide hz
    clear hz
    go_enter Tryz.func41, Tryz.ntmps41
    go_upto_region 1 with fail
    change Code.wp _ _ _ _ ((w.alloc (.cells #[.func (.func fn1) #[] cap1, .func (.func fn2) #[] cap2] 65)).alloc (.cells #[.int .i64 ki, .string nm, .int .i64 dl, .slice x1 x2 x3, .string ky, .int .i64 la, .int .i64 wo, .int .i64 tk, .slice y1 y2 y3, .int .i64 ru, .int .u64 lu, .int .i64 ti] 32))
    generalize (w.alloc (.cells #[.func (.func fn1) #[] cap1, .func (.func fn2) #[] cap2] 65)).alloc (.cells #[.int .i64 ki, .string nm, .int .i64 dl, .slice x1 x2 x3, .string ky, .int .i64 la, .int .i64 wo, .int .i64 tk, .slice y1 y2 y3, .int .i64 ru, .int .u64 lu, .int .i64 ti] 32) = W at *
    go_wp2
    first | go_end0 | refine bodyPost_ret (results_none rfl _ _ _) rfl ?_
    refine ⟨rfl, ?_⟩
    unfold putW
    rw [if_neg HZ.out]
    exact HH.out
theorem resOp {fn : Func} {p : Tmp} (hh : fn.results = #[.cell p 32]) (tmps : Array Value) (w : World) (g : Nat) (cs : Array Value) (hs : cs.size = 12) (hp : tmps.getD p undef = .pointer (some ⟨g, 0, none⟩)) (hg : w.heap[g]? = some (.cells cs 32 (0, 0))) :
    (results fn tmps).run Tryz.prog w = .ok (.agg cs) w :=
  results_cell_row hh tmps w g 32 cs (0, 0) _ hp hg Tryz.underlying32 rfl (by rw [sizeOp, hs])
set_option maxRecDepth 10000 in
set_option maxHeartbeats 1000000 in
theorem triedOp (q : Nat) (fn1 fn2 : FuncId) (cap1 cap2 : Array Value) (s' : K.RS) (V : World → Value → Prop) (hV : StableT 32 V) (w : World) (hq : q < w.heap.size)
    (ht : ∀ w1, Below w.heap.size w w1 → TakesF w1 q fn2 cap2 s' V ShOp) (he : ∀ args w, (callFunc fn2 args).run Tryz.prog w = .ok (.enter fn2 args) w) :
    Calls Tryz.prog 133 #[.agg #[.func (.func fn1) #[] cap1, .func (.func fn2) #[] cap2], .pointer (some ⟨q, 0, none⟩)] w fun en w' => Keep (fun k => k = q) w w' ∧ ∃ v, en = .returned v ∧ ShOp v ∧ Rr w' q s' ∧ (s'.fault = 0 → V w' v) := by
  have hmf : ∀ (fn : Fn) (first cap : Array Value) (w : World), (Instr.makeFunc fn first cap).run Tryz.prog w = .ok (.func fn first cap) w := fun _ _ _ _ => rfl
  have HT := hide ht
  have HV := hide hV
  have HQ := hide hq
  have HSI := hide sizeOp
  clear ht hV hq
  go_enter_defers Tryz.func133, Tryz.ntmps133
  go_wp2_with fail
  have hba := bel3 w (.cells #[.func (.func fn1) #[] cap1, .func (.func fn2) #[] cap2] 65) (.cells #[.pointer (some ⟨q, 0, none⟩)] 100) (.cells #[.int .i64 0, .string ⟨#[]⟩, .int .i64 0, .slice none 0 0, .string ⟨#[]⟩, .int .i64 0, .int .i64 0, .int .i64 0, .slice none 0 0, .int .i64 0, .int .u64 0, .int .i64 0] 32)
  obtain ⟨_, hrb, hre⟩ := blk3 w (.cells #[.func (.func fn1) #[] cap1, .func (.func fn2) #[] cap2] 65) (.cells #[.pointer (some ⟨q, 0, none⟩)] 100) (.cells #[.int .i64 0, .string ⟨#[]⟩, .int .i64 0, .slice none 0 0, .string ⟨#[]⟩, .int .i64 0, .int .i64 0, .int .i64 0, .slice none 0 0, .int .i64 0, .int .u64 0, .int .i64 0] 32)
  generalize ((w.alloc (.cells #[.func (.func fn1) #[] cap1, .func (.func fn2) #[] cap2] 65)).alloc (.cells #[.pointer (some ⟨q, 0, none⟩)] 100)).alloc (.cells #[.int .i64 0, .string ⟨#[]⟩, .int .i64 0, .slice none 0 0, .string ⟨#[]⟩, .int .i64 0, .int .i64 0, .int .i64 0, .slice none 0 0, .int .i64 0, .int .u64 0, .int .i64 0] 32) = wa at *
  have HKA := hide (Keep.ofBelow (S := fun k => k = q) hba (Nat.le_refl _))
  refine (HT.out wa hba).mono ?_
  clear hba
  rintro en w1 ⟨hk, v, rfl, ⟨ki, nm, dl, x1, x2, x3, ky, la, wo, tk, y1, y2, y3, ru, lu, ti, rfl⟩, hr, hv⟩
  have hrb1 := hk.blk hrb (fun h => by have := HQ.out; have h : _ = q := h; omega)
  have hre1 := hk.blk hre (fun h => by have := HQ.out; have h : _ = q := h; omega)
  have HRE := hide hre1
  have HK := hide (HKA.out.more hk)
  have HR := hide hr
  have HVV := hide hv
  have HRB := hide hrb1
  clear hk hr hv hrb hre hre1 hrb1
  have HI : Hid ((Tryz.prog.info? 32).map (·.size) = some (#[.int .i64 ki, .string nm, .int .i64 dl, .slice x1 x2 x3, .string ky, .int .i64 la, .int .i64 wo, .int .i64 tk, .slice y1 y2 y3, .int .i64 ru, .int .u64 lu, .int .i64 ti] : Array Value).size) := sizeOp
  have HO1 := hide (onesOp ki nm dl x1 x2 x3 ky la wo tk y1 y2 y3 ru lu ti)
  go_wp2_with (refine wpList_store_row rfl 32 _ _ rfl (w.heap.size + 2) #[.int .i64 ki, .string nm, .int .i64 dl, .slice x1 x2 x3, .string ky, .int .i64 la, .int .i64 wo, .int .i64 tk, .slice y1 y2 y3, .int .i64 ru, .int .u64 lu, .int .i64 ti] rfl rfl 32 _ HRE.out HI.out rfl HO1.out ?_)
  have hk2 := keep_row w1 (w.heap.size + 2) #[.int .i64 ki, .string nm, .int .i64 dl, .slice x1 x2 x3, .string ky, .int .i64 la, .int .i64 wo, .int .i64 tk, .slice y1 y2 y3, .int .i64 ru, .int .u64 lu, .int .i64 ti]
  have hx2 := setRow_heap w1 (w.heap.size + 2) _ #[.int .i64 ki, .string nm, .int .i64 dl, .slice x1 x2 x3, .string ky, .int .i64 la, .int .i64 wo, .int .i64 tk, .slice y1 y2 y3, .int .i64 ru, .int .u64 lu, .int .i64 ti] _ _ HRE.out
  have hc2 := hk2.blk HRB.out (by show ¬ _ = _; omega)
  have hr2 : Rr (w1.setRow (w.heap.size + 2) #[.int .i64 ki, .string nm, .int .i64 dl, .slice x1 x2 x3, .string ky, .int .i64 la, .int .i64 wo, .int .i64 tk, .slice y1 y2 y3, .int .i64 ru, .int .u64 lu, .int .i64 ti]) q s' := HR.out.stay hk2 fun j hj e => by have := HQ.out; have e : j = _ := e; omega
  have hv2 : s'.fault = 0 → V (w1.setRow (w.heap.size + 2) #[.int .i64 ki, .string nm, .int .i64 dl, .slice x1 x2 x3, .string ky, .int .i64 la, .int .i64 wo, .int .i64 tk, .slice y1 y2 y3, .int .i64 ru, .int .u64 lu, .int .i64 ti]) (.agg #[.int .i64 ki, .string nm, .int .i64 dl, .slice x1 x2 x3, .string ky, .int .i64 la, .int .i64 wo, .int .i64 tk, .slice y1 y2 y3, .int .i64 ru, .int .u64 lu, .int .i64 ti]) := fun hz => StableT.row HV.out (HVV.out hz) HRE.out _
  generalize w1.setRow (w.heap.size + 2) #[.int .i64 ki, .string nm, .int .i64 dl, .slice x1 x2 x3, .string ky, .int .i64 la, .int .i64 wo, .int .i64 tk, .slice y1 y2 y3, .int .i64 ru, .int .u64 lu, .int .i64 ti] = w2 at *
  have hc3 : w2.cell? ⟨w.heap.size + 1, 0, none⟩ = some (.pointer (some ⟨q, 0, none⟩)) := by rw [cell_of_row _ _ _ _ _ _ hc2]; rfl
  refine leaves_cons (f := 171) (args := #[.pointer (some ⟨w.heap.size + 1, 0, none⟩)]) (by simp) (by simp [go_sem]) ?_
  refine (idleOp q (w.heap.size + 1) _ hc3).mono ?_
  rintro e u' w'' ⟨rfl, rfl, rfl⟩
  have hx3 : w2.drew.heap[w.heap.size + 2]? = some (.cells #[.int .i64 ki, .string nm, .int .i64 dl, .slice x1 x2 x3, .string ky, .int .i64 la, .int .i64 wo, .int .i64 tk, .slice y1 y2 y3, .int .i64 ru, .int .u64 lu, .int .i64 ti] 32 (0, 0)) := hx2
  exact ⟨_, resOp rfl _ _ (w.heap.size + 2) _ rfl rfl hx3, (HK.out.trans hk2 fun i e => .inr (by have : i = w.heap.size + 2 := e; omega)).more (Keep.drew _ _), _, rfl, ⟨_, _, _, _, _, _, _, _, _, _, _, _, _, _, _, _, rfl⟩, hr2.below (Below.refl _ _).drew, fun hz => HV.out.stable _ _ _ (hv2 hz) (Below.refl _ _).drew⟩
set_option maxRecDepth 10000 in
set_option maxHeartbeats 1000000 in
theorem TakeOp (q : Nat) (fn1 fn2 : FuncId) (cap1 cap2 : Array Value) (s s' : K.RS) (V : World → Value → Prop) (hV : StableT 32 V) (w : World) (h : Rr w q s)
    (ht : s.fault = 0 → ∀ w1, Below w.heap.size w w1 → TakesF w1 q fn2 cap2 s' V ShOp) (hn : s.fault ≠ 0 → s' = s) (he : ∀ args w, (callFunc fn2 args).run Tryz.prog w = .ok (.enter fn2 args) w) :
    Calls Tryz.prog 66 #[.agg #[.func (.func fn1) #[] cap1, .func (.func fn2) #[] cap2], .pointer (some ⟨q, 0, none⟩)] w fun en w' => Keep (fun k => k = q) w w' ∧ ∃ v, en = .returned v ∧ ShOp v ∧ Rr w' q s' ∧ (s'.fault = 0 → V w' v) ∧ (s'.fault ≠ 0 → v = .agg #[.int .i64 0, .string ⟨#[]⟩, .int .i64 0, .slice none 0 0, .string ⟨#[]⟩, .int .i64 0, .int .i64 0, .int .i64 0, .slice none 0 0, .int .i64 0, .int .u64 0, .int .i64 0]) := by
  have HT := hide ht
  have HN := hide hn
  have HV := hide hV
  have HQ := hide h.lt
  have HIZ : Hid ((Tryz.prog.info? 32).map (·.size) = some (#[.int .i64 0, .string ⟨#[]⟩, .int .i64 0, .slice none 0 0, .string ⟨#[]⟩, .int .i64 0, .int .i64 0, .int .i64 0, .slice none 0 0, .int .i64 0, .int .u64 0, .int .i64 0] : Array Value).size) := sizeOp
  have HOZ : Hid ((#[.int .i64 0, .string ⟨#[]⟩, .int .i64 0, .slice none 0 0, .string ⟨#[]⟩, .int .i64 0, .int .i64 0, .int .i64 0, .slice none 0 0, .int .i64 0, .int .u64 0, .int .i64 0] : Array Value).all (·.oneCell') = true) := by show _ = _; simp [Value.oneCell']
  have HB := hide (bel3 w (.cells #[.func (.func fn1) #[] cap1, .func (.func fn2) #[] cap2] 65) (.cells #[.int .i64 0, .string ⟨#[]⟩, .int .i64 0, .slice none 0 0, .string ⟨#[]⟩, .int .i64 0, .int .i64 0, .int .i64 0, .slice none 0 0, .int .i64 0, .int .u64 0, .int .i64 0] 32) (.cells #[.int .i64 0, .string ⟨#[]⟩, .int .i64 0, .slice none 0 0, .string ⟨#[]⟩, .int .i64 0, .int .i64 0, .int .i64 0, .slice none 0 0, .int .i64 0, .int .u64 0, .int .i64 0] 32))
  obtain ⟨hF, hE, hZ⟩ := blk3 w (.cells #[.func (.func fn1) #[] cap1, .func (.func fn2) #[] cap2] 65) (.cells #[.int .i64 0, .string ⟨#[]⟩, .int .i64 0, .slice none 0 0, .string ⟨#[]⟩, .int .i64 0, .int .i64 0, .int .i64 0, .slice none 0 0, .int .i64 0, .int .u64 0, .int .i64 0] 32) (.cells #[.int .i64 0, .string ⟨#[]⟩, .int .i64 0, .slice none 0 0, .string ⟨#[]⟩, .int .i64 0, .int .i64 0, .int .i64 0, .slice none 0 0, .int .i64 0, .int .u64 0, .int .i64 0] 32)
  have HF := hide hF
  have HE := hide hE
  have HZe := hide hZ
  have HR := hide (h.below HB.out)
  clear ht hn hV h hF hE hZ
  by_cases hz : s.fault = 0
  · have HZ := hide hz
    obtain ⟨_, _, _, _, c2, _⟩ := HR.out.see
    rw [hz] at c2
    clear hz
    go_enter Tryz.func66, Tryz.ntmps66
    go_upto_region 2 with fail
    change Code.wp _ _ _ _ (((w.alloc (.cells #[.func (.func fn1) #[] cap1, .func (.func fn2) #[] cap2] 65)).alloc (.cells #[.int .i64 0, .string ⟨#[]⟩, .int .i64 0, .slice none 0 0, .string ⟨#[]⟩, .int .i64 0, .int .i64 0, .int .i64 0, .slice none 0 0, .int .i64 0, .int .u64 0, .int .i64 0] 32)).alloc (.cells #[.int .i64 0, .string ⟨#[]⟩, .int .i64 0, .slice none 0 0, .string ⟨#[]⟩, .int .i64 0, .int .i64 0, .int .i64 0, .slice none 0 0, .int .i64 0, .int .u64 0, .int .i64 0] 32))
    generalize ((w.alloc (.cells #[.func (.func fn1) #[] cap1, .func (.func fn2) #[] cap2] 65)).alloc (.cells #[.int .i64 0, .string ⟨#[]⟩, .int .i64 0, .slice none 0 0, .string ⟨#[]⟩, .int .i64 0, .int .i64 0, .int .i64 0, .slice none 0 0, .int .i64 0, .int .u64 0, .int .i64 0] 32)).alloc (.cells #[.int .i64 0, .string ⟨#[]⟩, .int .i64 0, .slice none 0 0, .string ⟨#[]⟩, .int .i64 0, .int .i64 0, .int .i64 0, .slice none 0 0, .int .i64 0, .int .u64 0, .int .i64 0] 32) = W at *
    have c2' : W.cell? ⟨q, 2, none⟩ = some (.int .i64 0) := c2
    clear c2
    obtain ⟨d0, d1⟩ := cells2 HF.out
    go_wp2_with fail
    refine (wholeOp fn1 fn2 cap1 cap2 _).mono ?_
    rintro e w1 ⟨rfl, hb1⟩
    have HB1 := hide (HB.out.trans (hb1.mono HB.out.size))
    have HE1 := hide (blkB HE.out hb1)
    have HZ1 := hide (blkB HZe.out hb1)
    clear d0 d1 c2'
    obtain ⟨d0, d1⟩ := cells2 (blkB HF.out hb1)
    clear hb1
    go_wp2_with fail
    refine (triedOp q fn1 fn2 cap1 cap2 s' V HV.out w1 (Nat.lt_of_lt_of_le HQ.out HB1.out.size) (fun w2 hb2 => HT.out HZ.out w2 (further HB1.out hb2)) he).mono ?_
    rintro e w2 ⟨hk2, v, rfl, ⟨ki, nm, dl, x1, x2, x3, ky, la, wo, tk, y1, y2, y3, ru, lu, ti, rfl⟩, hr2, hv2⟩
    have HK2 := hide ((Keep.ofBelow (S := fun k => k = q) HB1.out (Nat.le_refl _)).more hk2)
    have HE2 := hide (hk2.blk HE1.out (fun h => by have := HQ.out; have h : _ = q := h; omega))
    have HZ2 := hide (hk2.blk HZ1.out (fun h => by have := HQ.out; have h : _ = q := h; omega))
    have hsz := hk2.size
    have hsz1 := (Array.getElem?_eq_some_iff.1 HZ1.out).1
    have HSZ : Hid (w.heap.size + 2 < w2.heap.size) := by show _ < _; omega
    have HR2 := hide hr2
    have HV2 := hide hv2
    clear hk2 d0 d1 HE1 HZ1 hsz hsz1 HB1 hr2 hv2
    have HI : Hid ((Tryz.prog.info? 32).map (·.size) = some (#[.int .i64 ki, .string nm, .int .i64 dl, .slice x1 x2 x3, .string ky, .int .i64 la, .int .i64 wo, .int .i64 tk, .slice y1 y2 y3, .int .i64 ru, .int .u64 lu, .int .i64 ti] : Array Value).size) := sizeOp
    have HO1 := hide (onesOp ki nm dl x1 x2 x3 ky la wo tk y1 y2 y3 ru lu ti)
    have HA := hide (heap_alloc_new w2 (.cells #[.int .i64 0, .string ⟨#[]⟩, .int .i64 0, .slice none 0 0, .string ⟨#[]⟩, .int .i64 0, .int .i64 0, .int .i64 0, .slice none 0 0, .int .i64 0, .int .u64 0, .int .i64 0] 32))
    have HXs := hide (setRow_heap (w2.alloc (.cells #[.int .i64 0, .string ⟨#[]⟩, .int .i64 0, .slice none 0 0, .string ⟨#[]⟩, .int .i64 0, .int .i64 0, .int .i64 0, .slice none 0 0, .int .i64 0, .int .u64 0, .int .i64 0] 32)) w2.heap.size _ #[.int .i64 ki, .string nm, .int .i64 dl, .slice x1 x2 x3, .string ky, .int .i64 la, .int .i64 wo, .int .i64 tk, .slice y1 y2 y3, .int .i64 ru, .int .u64 lu, .int .i64 ti] _ _ HA.out)
    have HBs : Hid (Below w2.heap.size w2 ((w2.alloc (.cells #[.int .i64 0, .string ⟨#[]⟩, .int .i64 0, .slice none 0 0, .string ⟨#[]⟩, .int .i64 0, .int .i64 0, .int .i64 0, .slice none 0 0, .int .i64 0, .int .u64 0, .int .i64 0] 32)).setRow w2.heap.size #[.int .i64 ki, .string nm, .int .i64 dl, .slice x1 x2 x3, .string ky, .int .i64 la, .int .i64 wo, .int .i64 tk, .slice y1 y2 y3, .int .i64 ru, .int .u64 lu, .int .i64 ti])) := ((Below.refl _ _).alloc (Nat.le_refl _) _).trans ((keep_row _ _ _).below (by simp) fun k e => by rw [e]; exact Nat.le_refl _)
    go_upto_region 8 with (refine wpList_store_row rfl 32 _ _ rfl w2.heap.size #[.int .i64 ki, .string nm, .int .i64 dl, .slice x1 x2 x3, .string ky, .int .i64 la, .int .i64 wo, .int .i64 tk, .slice y1 y2 y3, .int .i64 ru, .int .u64 lu, .int .i64 ti] rfl rfl 32 _ HA.out HI.out rfl HO1.out ?_)
    change Code.wp _ _ _ _ ((w2.alloc (.cells #[.int .i64 0, .string ⟨#[]⟩, .int .i64 0, .slice none 0 0, .string ⟨#[]⟩, .int .i64 0, .int .i64 0, .int .i64 0, .slice none 0 0, .int .i64 0, .int .u64 0, .int .i64 0] 32)).setRow w2.heap.size #[.int .i64 ki, .string nm, .int .i64 dl, .slice x1 x2 x3, .string ky, .int .i64 la, .int .i64 wo, .int .i64 tk, .slice y1 y2 y3, .int .i64 ru, .int .u64 lu, .int .i64 ti])
    generalize (w2.alloc (.cells #[.int .i64 0, .string ⟨#[]⟩, .int .i64 0, .slice none 0 0, .string ⟨#[]⟩, .int .i64 0, .int .i64 0, .int .i64 0, .slice none 0 0, .int .i64 0, .int .u64 0, .int .i64 0] 32)).setRow w2.heap.size #[.int .i64 ki, .string nm, .int .i64 dl, .slice x1 x2 x3, .string ky, .int .i64 la, .int .i64 wo, .int .i64 tk, .slice y1 y2 y3, .int .i64 ru, .int .u64 lu, .int .i64 ti] = w3 at *
    have HR3 := hide (HR2.out.below HBs.out)
    have HV3 : Hid (s'.fault = 0 → V w3 (.agg #[.int .i64 ki, .string nm, .int .i64 dl, .slice x1 x2 x3, .string ky, .int .i64 la, .int .i64 wo, .int .i64 tk, .slice y1 y2 y3, .int .i64 ru, .int .u64 lu, .int .i64 ti])) := fun hz => HV.out.stable _ _ _ (HV2.out hz) HBs.out
    have HE3 := hide (blkB HE2.out HBs.out)
    have HZ3 := hide (blkB HZ2.out HBs.out)
    have HK3 := hide (HK2.out.more (Keep.ofBelow (S := fun k => k = q) HBs.out (Nat.le_refl _)))
    generalize w2.heap.size = xb at *
    clear HR2 HV2 HE2 HZ2 HK2 HBs HA
    obtain ⟨_, _, _, _, e2, _⟩ := HR3.out.see
    by_cases hz' : s'.fault = 0
    · have e2' : w3.cell? ⟨q, 2, none⟩ = some (.int .i64 0) := by rw [e2, hz']; rfl
      have HZ' := hide hz'
      clear e2 hz'
      go_wp2_with (first
        | (refine wpList_load_row rfl 32 _ rfl xb rfl 32 #[.int .i64 ki, .string nm, .int .i64 dl, .slice x1 x2 x3, .string ky, .int .i64 la, .int .i64 wo, .int .i64 tk, .slice y1 y2 y3, .int .i64 ru, .int .u64 lu, .int .i64 ti] (0, 0) _ HXs.out Tryz.underlying32 rfl HI.out ?_)
        | (refine wpList_store_row rfl 32 _ _ rfl (w.heap.size + 1) #[.int .i64 ki, .string nm, .int .i64 dl, .slice x1 x2 x3, .string ky, .int .i64 la, .int .i64 wo, .int .i64 tk, .slice y1 y2 y3, .int .i64 ru, .int .u64 lu, .int .i64 ti] rfl rfl 32 _ HE3.out HI.out rfl HO1.out ?_))
      have HX := hide (setRow_heap _ (w.heap.size + 1) _ #[.int .i64 ki, .string nm, .int .i64 dl, .slice x1 x2 x3, .string ky, .int .i64 la, .int .i64 wo, .int .i64 tk, .slice y1 y2 y3, .int .i64 ru, .int .u64 lu, .int .i64 ti] _ _ HE3.out)
      have HK := hide (keep_row w3 (w.heap.size + 1) #[.int .i64 ki, .string nm, .int .i64 dl, .slice x1 x2 x3, .string ky, .int .i64 la, .int .i64 wo, .int .i64 tk, .slice y1 y2 y3, .int .i64 ru, .int .u64 lu, .int .i64 ti])
      exact bodyPost_ret (resOp rfl _ _ (w.heap.size + 1) _ rfl rfl HX.out) rfl ⟨HK3.out.trans HK.out (fun i e => .inr (by have : i = w.heap.size + 1 := e; omega)), _, rfl, ⟨_, _, _, _, _, _, _, _, _, _, _, _, _, _, _, _, rfl⟩, HR3.out.stay HK.out (fun j hj e => by have := HQ.out; have e : j = _ := e; omega), fun hz => StableT.row HV.out (HV3.out hz) HE3.out _, fun hz => absurd HZ'.out hz⟩
    · have hzz : (((s'.fault : Nat) : Int) == 0) = false := by simpa using hz'
      have HZ' := hide hz'
      clear hz'
      go_wp2_with (first
        | (refine wpList_load_row rfl 32 _ rfl (w.heap.size + 2) rfl 32 #[.int .i64 0, .string ⟨#[]⟩, .int .i64 0, .slice none 0 0, .string ⟨#[]⟩, .int .i64 0, .int .i64 0, .int .i64 0, .slice none 0 0, .int .i64 0, .int .u64 0, .int .i64 0] (0, 0) _ HZ3.out Tryz.underlying32 rfl HIZ.out ?_)
        | (refine wpList_store_row rfl 32 _ _ rfl (w.heap.size + 1) #[.int .i64 0, .string ⟨#[]⟩, .int .i64 0, .slice none 0 0, .string ⟨#[]⟩, .int .i64 0, .int .i64 0, .int .i64 0, .slice none 0 0, .int .i64 0, .int .u64 0, .int .i64 0] rfl rfl 32 _ HE3.out HIZ.out rfl HOZ.out ?_))
      have HX := hide (setRow_heap _ (w.heap.size + 1) _ #[.int .i64 0, .string ⟨#[]⟩, .int .i64 0, .slice none 0 0, .string ⟨#[]⟩, .int .i64 0, .int .i64 0, .int .i64 0, .slice none 0 0, .int .i64 0, .int .u64 0, .int .i64 0] _ _ HE3.out)
      have HK := hide (keep_row w3 (w.heap.size + 1) #[.int .i64 0, .string ⟨#[]⟩, .int .i64 0, .slice none 0 0, .string ⟨#[]⟩, .int .i64 0, .int .i64 0, .int .i64 0, .slice none 0 0, .int .i64 0, .int .u64 0, .int .i64 0])
      exact bodyPost_ret (resOp rfl _ _ (w.heap.size + 1) _ rfl rfl HX.out) rfl ⟨HK3.out.trans HK.out (fun i e => .inr (by have : i = w.heap.size + 1 := e; omega)), _, rfl, ⟨_, _, _, _, _, _, _, _, _, _, _, _, _, _, _, _, rfl⟩, HR3.out.stay HK.out (fun j hj e => by have := HQ.out; have e : j = _ := e; omega), fun hz => absurd hz HZ'.out, fun _ => rfl⟩
  · have hzz : (((s.fault : Nat) : Int) == 0) = false := by simpa using hz
    have HZ := hide hz
    obtain ⟨_, _, _, _, c2, _⟩ := HR.out.see
    have hs := HN.out hz
    subst hs
    clear hz
    go_enter Tryz.func66, Tryz.ntmps66
    go_upto_region 2 with fail
    change Code.wp _ _ _ _ (((w.alloc (.cells #[.func (.func fn1) #[] cap1, .func (.func fn2) #[] cap2] 65)).alloc (.cells #[.int .i64 0, .string ⟨#[]⟩, .int .i64 0, .slice none 0 0, .string ⟨#[]⟩, .int .i64 0, .int .i64 0, .int .i64 0, .slice none 0 0, .int .i64 0, .int .u64 0, .int .i64 0] 32)).alloc (.cells #[.int .i64 0, .string ⟨#[]⟩, .int .i64 0, .slice none 0 0, .string ⟨#[]⟩, .int .i64 0, .int .i64 0, .int .i64 0, .slice none 0 0, .int .i64 0, .int .u64 0, .int .i64 0] 32))
    generalize ((w.alloc (.cells #[.func (.func fn1) #[] cap1, .func (.func fn2) #[] cap2] 65)).alloc (.cells #[.int .i64 0, .string ⟨#[]⟩, .int .i64 0, .slice none 0 0, .string ⟨#[]⟩, .int .i64 0, .int .i64 0, .int .i64 0, .slice none 0 0, .int .i64 0, .int .u64 0, .int .i64 0] 32)).alloc (.cells #[.int .i64 0, .string ⟨#[]⟩, .int .i64 0, .slice none 0 0, .string ⟨#[]⟩, .int .i64 0, .int .i64 0, .int .i64 0, .slice none 0 0, .int .i64 0, .int .u64 0, .int .i64 0] 32) = W at *
    go_wp2_with (first
        | (refine wpList_load_row rfl 32 _ rfl (w.heap.size + 2) rfl 32 #[.int .i64 0, .string ⟨#[]⟩, .int .i64 0, .slice none 0 0, .string ⟨#[]⟩, .int .i64 0, .int .i64 0, .int .i64 0, .slice none 0 0, .int .i64 0, .int .u64 0, .int .i64 0] (0, 0) _ HZe.out Tryz.underlying32 rfl HIZ.out ?_)
        | (refine wpList_store_row rfl 32 _ _ rfl (w.heap.size + 1) #[.int .i64 0, .string ⟨#[]⟩, .int .i64 0, .slice none 0 0, .string ⟨#[]⟩, .int .i64 0, .int .i64 0, .int .i64 0, .slice none 0 0, .int .i64 0, .int .u64 0, .int .i64 0] rfl rfl 32 _ HE.out HIZ.out rfl HOZ.out ?_))
    have HX := hide (setRow_heap _ (w.heap.size + 1) _ #[.int .i64 0, .string ⟨#[]⟩, .int .i64 0, .slice none 0 0, .string ⟨#[]⟩, .int .i64 0, .int .i64 0, .int .i64 0, .slice none 0 0, .int .i64 0, .int .u64 0, .int .i64 0] _ _ HE.out)
    have HK := hide (keep_row W (w.heap.size + 1) #[.int .i64 0, .string ⟨#[]⟩, .int .i64 0, .slice none 0 0, .string ⟨#[]⟩, .int .i64 0, .int .i64 0, .int .i64 0, .slice none 0 0, .int .i64 0, .int .u64 0, .int .i64 0])
    exact bodyPost_ret (resOp rfl _ _ (w.heap.size + 1) _ rfl rfl HX.out) rfl ⟨(Keep.ofBelow (S := fun k => k = q) HB.out (Nat.le_refl _)).trans HK.out (fun i e => .inr (by have : i = w.heap.size + 1 := e; omega)), _, rfl, ⟨_, _, _, _, _, _, _, _, _, _, _, _, _, _, _, _, rfl⟩, HR.out.stay HK.out (fun j hj e => by have := HQ.out; have e : j = _ := e; omega), fun hz => absurd hz HZ.out, fun _ => rfl⟩
end Cd
end Go.Proofs.YtbjcckfhfbjchaaGreat
