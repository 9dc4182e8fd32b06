import Derived.Test.YtoelgcagahmndaaGreatPTh2
import Derived.Test.YtoelgcagahmndaaGreatPTake
/- A form of things: whole, Put, tried, Take, with whatever functions. -/
namespace Go.Proofs.YtoelgcagahmndaaGreat
namespace Wm
open Go.RowKit Go.Deep

theorem wholeT (fn1 fn2 : FuncId) (cap1 cap2 : Array Value) (w : World) :
    Calls Tryz.prog 101 #[.agg #[.func (.func fn1) #[] cap1, .func (.func fn2) #[] cap2]] w fun en w' => en = .returned (.bool true) ∧ Below w.heap.size w w' := by
  have h1 := fun w fn cap => neq_func 34 w fn #[] cap _ _ _ Tryz.underlying34
  have h2 := fun w fn cap => neq_func 35 w fn #[] cap _ _ _ Tryz.underlying35
  go_enter Tryz.func101, Tryz.ntmps101
  go_wp2
  go_ret
  exact ⟨rfl, (Below.refl _ _).alloc (Nat.le_refl _) _⟩
set_option maxRecDepth 10000 in
theorem PutT (p : Nat) (fn1 fn2 : FuncId) (cap1 cap2 : Array Value) (n : Int) (st : ByteArray) (v : Value) (s : K.WS) (w : World) (h : Wr w p v s) (Q : World → Prop)
    (h0 : s.fault ≠ 0 → ∀ w1, Below w.heap.size w w1 → Q w1)
    (h1 : s.fault = 0 → ∀ w1, Below w.heap.size w w1 → Calls Tryz.prog fn1 (#[.pointer (some ⟨p, 0, none⟩), .agg #[.int .i64 n, .string st]] ++ cap1) w1 fun en w' => en = .returned (.tuple #[]) ∧ Q w')
    (he : ∀ args w, (callFunc fn1 args).run Tryz.prog w = .ok (.enter fn1 args) w) :
    Calls Tryz.prog 35 #[.agg #[.func (.func fn1) #[] cap1, .func (.func fn2) #[] cap2], .pointer (some ⟨p, 0, none⟩), .agg #[.int .i64 n, .string st]] w fun en w' => en = .returned (.tuple #[]) ∧ Q w' := by
  have HB : Hid (Below w.heap.size w ((w.alloc (.cells #[.func (.func fn1) #[] cap1, .func (.func fn2) #[] cap2] 37)).alloc (.cells #[.int .i64 n, .string st] 33))) := ((Below.refl _ _).alloc (Nat.le_refl _) _).alloc (by simp) _
  have HF : Hid (((w.alloc (.cells #[.func (.func fn1) #[] cap1, .func (.func fn2) #[] cap2] 37)).alloc (.cells #[.int .i64 n, .string st] 33)).heap[w.heap.size]? = some (.cells #[.func (.func fn1) #[] cap1, .func (.func fn2) #[] cap2] 37 (0, 0))) := (Keep.alloc (fun _ => False) _ _).blk (heap_alloc_new w _) fun f => f
  have hX : (((w.alloc (.cells #[.func (.func fn1) #[] cap1, .func (.func fn2) #[] cap2] 37)).alloc (.cells #[.int .i64 n, .string st] 33)).heap[w.heap.size + 1]? = some (.cells #[.int .i64 n, .string st] 33 (0, 0))) := by
    have := heap_alloc_new (w.alloc (.cells #[.func (.func fn1) #[] cap1, .func (.func fn2) #[] cap2] 37)) (.cells #[.int .i64 n, .string st] 33)
    simpa using this
  have HX := hide hX
  clear hX
  have HI2 : Hid (∀ a b : Value, (Tryz.prog.info? 33).map (·.size) = some (#[a, b] : Array Value).size) := fun a b => by rw [info_thing]; rfl
  have c2 : ((w.alloc (.cells #[.func (.func fn1) #[] cap1, .func (.func fn2) #[] cap2] 37)).alloc (.cells #[.int .i64 n, .string st] 33)).cell? ⟨p, 2, none⟩ = some (.int .i64 (s.fault : Nat)) := by
    have hb := blkB h.blk HB.out
    rw [cell_of_row _ _ _ _ _ _ hb]
    rfl
  have H0 := hide h0
  have H1 := hide h1
  clear h h0 h1
  by_cases hz : s.fault = 0
  · have HZ := hide hz
    rw [hz] at c2
    clear hz
    go_enter Tryz.func35, Tryz.ntmps35
    go_upto_region 1 with fail
    change Code.wp _ _ _ _ ((w.alloc (.cells #[.func (.func fn1) #[] cap1, .func (.func fn2) #[] cap2] 37)).alloc (.cells #[.int .i64 n, .string st] 33))
    generalize (w.alloc (.cells #[.func (.func fn1) #[] cap1, .func (.func fn2) #[] cap2] 37)).alloc (.cells #[.int .i64 n, .string st] 33) = W at *
    obtain ⟨d0, d1⟩ := cells2 HF.out
    have c2' : W.cell? ⟨p, 2, none⟩ = some (.int .i64 0) := c2
    clear c2
    go_wp2_with fail
    refine (wholeT fn1 fn2 cap1 cap2 _).mono ?_
    rintro e w1 ⟨rfl, hb1⟩
    have HB1 := hide (HB.out.trans (hb1.mono HB.out.size))
    have HX1 := hide (blkB HX.out hb1)
    clear d0 d1 c2'
    obtain ⟨d0, d1⟩ := cells2 (blkB HF.out hb1)
    clear hb1
    go_wp2_with (refine wpList_load_row rfl 33 _ rfl (w.heap.size + 1) rfl 33 #[.int .i64 n, .string st] (0, 0) _ HX1.out Tryz.underlying33 rfl (HI2.out _ _) ?_)
    refine (H1.out HZ.out w1 HB1.out).mono ?_
    rintro e w2 ⟨rfl, h2⟩
    have H2 := hide h2
    clear h2
    go_wp2
    go_end0
    exact ⟨rfl, H2.out⟩
  · have hz' : (((s.fault : Nat) : Int) == 0) = false := by simpa using hz
    have HZ := hide hz
    clear hz
    go_enter Tryz.func35, Tryz.ntmps35
    go_upto_region 1 with fail
    change Code.wp _ _ _ _ ((w.alloc (.cells #[.func (.func fn1) #[] cap1, .func (.func fn2) #[] cap2] 37)).alloc (.cells #[.int .i64 n, .string st] 33))
    generalize (w.alloc (.cells #[.func (.func fn1) #[] cap1, .func (.func fn2) #[] cap2] 37)).alloc (.cells #[.int .i64 n, .string st] 33) = W at *
    go_wp2
    first | go_end0 | refine bodyPost_ret (results_none rfl _ _ _) rfl ?_
    exact ⟨rfl, H0.out HZ.out _ HB.out⟩
/-- the deferred function of tried: nothing to catch -/
theorem idleT (q rb : Nat) (w : World) (hc : w.cell? ⟨rb, 0, none⟩ = some (.pointer (some ⟨q, 0, none⟩))) :
    CallsD Tryz.prog 173 #[.pointer (some ⟨rb, 0, none⟩)] .returning w fun en u' w' => en = .returned (.tuple #[]) ∧ u' = .returning ∧ w' = w.drew := by
  refine callsD_of_wpS Tryz.func173 rfl fun c₀ cs hu => ?_
  have hcc : c₀ = { c₀ with mode := .returning } := by rw [← hu]
  apply wpS_region3 follows_mixed
  · simp [wpOpsS, go_sem, recoverD, hu, hc, Tryz.ntmps173]
    refine (caught_idle q _).mono ?_
    rintro en w1 ⟨rfl, rfl⟩
    exact ⟨rfl, .returning, by rw [← hcc], _, (by simp [results, Tryz.results173]), rfl, rfl, rfl⟩
  · simp [wpOpsS, go_sem, recoverD, hu, hc, Tryz.ntmps173]
    refine (caught_idle q _).mono ?_
    rintro en w1 ⟨rfl, rfl⟩
    exact ⟨rfl, .returning, by rw [← hcc], _, (by simp [results, Tryz.results173]), rfl, rfl, rfl⟩
  · rfl
  · kernel_rfl
  · kernel_rfl
  · kernel_rfl
  · kernel_rfl
/-- P stays where only blocks from B on are written -/
def Firm (B : Nat) (P : World → Prop) : Prop := ∀ w1 w2, P w1 → Keep (fun k => B ≤ k) w1 w2 → P w2
def zT : Array Value := #[.int .i64 0, .string ⟨#[]⟩]
set_option maxRecDepth 10000 in
theorem triedT (q : Nat) (fn1 fn2 : FuncId) (cap1 cap2 : Array Value) (N : Int) (T : ByteArray) (S : Nat → Prop) (P : World → Prop) (w : World) (hS : ∀ k, S k → k < w.heap.size) (hP : Firm w.heap.size P)
    (ht : ∀ w1, Below w.heap.size w w1 → Calls Tryz.prog fn2 (#[.pointer (some ⟨q, 0, none⟩)] ++ cap2) w1 fun en w' => en = .returned (.agg #[.int .i64 N, .string T]) ∧ Keep S w1 w' ∧ P w')
    (he : ∀ args w, (callFunc fn2 args).run Tryz.prog w = .ok (.enter fn2 args) w) :
    Calls Tryz.prog 102 #[.agg #[.func (.func fn1) #[] cap1, .func (.func fn2) #[] cap2], .pointer (some ⟨q, 0, none⟩)] w fun en w' => en = .returned (.agg #[.int .i64 N, .string T]) ∧ Keep S w w' ∧ P w' := by
  have hmf : ∀ (fn : Fn) (first cap : Array Value) (w : World), (Instr.makeFunc fn first cap).run Tryz.prog w = .ok (.func fn first cap) w := fun _ _ _ _ => rfl
  have HT := hide ht
  have HP := hide hP
  have HS := hide hS
  have HI2 : Hid (∀ a b : Value, (Tryz.prog.info? 33).map (·.size) = some (#[a, b] : Array Value).size) := fun a b => by rw [info_thing]; rfl
  clear ht hP hS
  go_enter_defers Tryz.func102, Tryz.ntmps102
  go_wp2_with fail
  have hba : Below w.heap.size w (((w.alloc (.cells #[.func (.func fn1) #[] cap1, .func (.func fn2) #[] cap2] 37)).alloc (.cells #[.pointer (some ⟨q, 0, none⟩)] 40)).alloc (.cells #[.int .i64 0, .string ⟨#[]⟩] 33)) := (((Below.refl w.heap.size w).alloc (Nat.le_refl _) _).alloc (by simp) _).alloc (by simp; omega) _
  have hrb : (((w.alloc (.cells #[.func (.func fn1) #[] cap1, .func (.func fn2) #[] cap2] 37)).alloc (.cells #[.pointer (some ⟨q, 0, none⟩)] 40)).alloc (.cells #[.int .i64 0, .string ⟨#[]⟩] 33)).heap[w.heap.size + 1]? = some (.cells #[.pointer (some ⟨q, 0, none⟩)] 40 (0, 0)) := by
    have := (Keep.alloc (fun _ => False) ((w.alloc (.cells #[.func (.func fn1) #[] cap1, .func (.func fn2) #[] cap2] 37)).alloc (.cells #[.pointer (some ⟨q, 0, none⟩)] 40)) (.cells #[.int .i64 0, .string ⟨#[]⟩] 33)).blk (heap_alloc_new (w.alloc (.cells #[.func (.func fn1) #[] cap1, .func (.func fn2) #[] cap2] 37)) (.cells #[.pointer (some ⟨q, 0, none⟩)] 40)) (fun f => f)
    simpa using this
  have hre : (((w.alloc (.cells #[.func (.func fn1) #[] cap1, .func (.func fn2) #[] cap2] 37)).alloc (.cells #[.pointer (some ⟨q, 0, none⟩)] 40)).alloc (.cells #[.int .i64 0, .string ⟨#[]⟩] 33)).heap[w.heap.size + 2]? = some (.cells #[.int .i64 0, .string ⟨#[]⟩] 33 (0, 0)) := by
    have := heap_alloc_new ((w.alloc (.cells #[.func (.func fn1) #[] cap1, .func (.func fn2) #[] cap2] 37)).alloc (.cells #[.pointer (some ⟨q, 0, none⟩)] 40)) (.cells #[.int .i64 0, .string ⟨#[]⟩] 33)
    simpa using this
  generalize ((w.alloc (.cells #[.func (.func fn1) #[] cap1, .func (.func fn2) #[] cap2] 37)).alloc (.cells #[.pointer (some ⟨q, 0, none⟩)] 40)).alloc (.cells #[.int .i64 0, .string ⟨#[]⟩] 33) = wa at *
  have HKA := hide (Keep.ofBelow (S := S) hba (Nat.le_refl _))
  refine (HT.out wa hba).mono ?_
  clear hba
  rintro en w1 ⟨rfl, hk, hp⟩
  have hrb1 := hk.blk hrb (fun h => by have := HS.out _ h; omega)
  have hre1 := hk.blk hre (fun h => by have := HS.out _ h; omega)
  have hc1 : w1.cell? ⟨w.heap.size + 1, 0, none⟩ = some (.pointer (some ⟨q, 0, none⟩)) := by rw [cell_of_row _ _ _ _ _ _ hrb1]; rfl
  have HRE := hide hre1
  have HK := hide (HKA.out.more hk)
  have HPP := hide hp
  clear hk hp hrb hre hre1
  have HC := hide hc1
  have HRB := hide hrb1
  clear hc1 hrb1
  go_wp2_with (refine wpList_store_row rfl 33 _ _ rfl (w.heap.size + 2) #[.int .i64 N, .string T] rfl rfl 33 _ HRE.out (HI2.out _ _) rfl (one2 _ _) ?_)
  have hk2 := keep_row w1 (w.heap.size + 2) #[.int .i64 N, .string T]
  have hx2 := setRow_heap w1 (w.heap.size + 2) _ #[.int .i64 N, .string T] _ _ HRE.out
  have hc2 := hk2.blk HRB.out (by show ¬ _ = _; omega)
  generalize w1.setRow (w.heap.size + 2) #[.int .i64 N, .string T] = w2 at *
  have hc3 : w2.cell? ⟨w.heap.size + 1, 0, none⟩ = some (.pointer (some ⟨q, 0, none⟩)) := by rw [cell_of_row _ _ _ _ _ _ hc2]; rfl
  refine leaves_cons (f := 173) (args := #[.pointer (some ⟨w.heap.size + 1, 0, none⟩)]) (by simp) (by simp [go_sem]) ?_
  refine (idleT q (w.heap.size + 1) _ hc3).mono ?_
  rintro e u' w'' ⟨rfl, rfl, rfl⟩
  have hx3 : w2.drew.heap[w.heap.size + 2]? = some (.cells #[.int .i64 N, .string T] 33 (0, 0)) := hx2
  exact ⟨_, res2 rfl _ _ (w.heap.size + 2) _ _ rfl hx3, rfl, (HK.out.trans hk2 fun i e => .inr (by have : i = w.heap.size + 2 := e; omega)).more (Keep.drew _ _), HP.out _ _ (HP.out _ _ HPP.out ⟨hk2.1, hk2.2, hk2.3, hk2.size, fun k h1 h2 => hk2.block k h1 (fun e => h2 (by have : k = w.heap.size + 2 := e; omega))⟩) (Keep.drew _ _)⟩
theorem Firm.mono {B C : Nat} {P : World → Prop} (h : Firm B P) (hb : B ≤ C) : Firm C P := fun w1 w2 hp hk => h w1 w2 hp ⟨hk.os, hk.tape, hk.output, hk.size, fun k h1 h2 => hk.block k h1 fun h3 => h2 (Nat.le_trans hb h3)⟩
theorem Firm.row {B : Nat} {P : World → Prop} (h : Firm B P) {w1 : World} (hp : P w1) {g : Nat} (hg : B ≤ g) (cs : Array Value) : P (w1.setRow g cs) :=
  h _ _ hp ⟨(keep_row w1 g cs).os, (keep_row w1 g cs).tape, (keep_row w1 g cs).output, (keep_row w1 g cs).size, fun k h1 h2 => (keep_row w1 g cs).block k h1 fun e => h2 (by rw [e]; exact hg)⟩
theorem Firm.new {B : Nat} {P : World → Prop} (h : Firm B P) {w1 w2 : World} (hp : P w1) (hb : Below w1.heap.size w1 w2) : P w2 := h _ _ hp (Keep.ofBelow hb (Nat.le_refl _))
set_option maxRecDepth 10000 in
theorem TakeT (q : Nat) (fn1 fn2 : FuncId) (cap1 cap2 : Array Value) (N : Int) (T : ByteArray) (S : Nat → Prop) (P : World → Prop) (s s' : K.RS) (w : World) (h : Rr w q s) (hS : ∀ k, S k → k < w.heap.size) (hP : Firm w.heap.size P) (hR : ∀ w1, P w1 → Rr w1 q s')
    (ht : s.fault = 0 → ∀ w1, Below w.heap.size w w1 → Calls Tryz.prog fn2 (#[.pointer (some ⟨q, 0, none⟩)] ++ cap2) w1 fun en w' => en = .returned (.agg #[.int .i64 N, .string T]) ∧ Keep S w1 w' ∧ P w')
    (hn : s.fault ≠ 0 → s'.fault ≠ 0 ∧ ∀ w1, Below w.heap.size w w1 → P w1)
    (he : ∀ args w, (callFunc fn2 args).run Tryz.prog w = .ok (.enter fn2 args) w) :
    Calls Tryz.prog 37 #[.agg #[.func (.func fn1) #[] cap1, .func (.func fn2) #[] cap2], .pointer (some ⟨q, 0, none⟩)] w fun en w' => en = .returned (.agg (if s'.fault = 0 then #[.int .i64 N, .string T] else zT)) ∧ Keep S w w' ∧ P w' := by
  have HT := hide ht
  have HN := hide hn
  have HP := hide hP
  have HS := hide hS
  have HRR := hide hR
  have HI2 : Hid (∀ a b : Value, (Tryz.prog.info? 33).map (·.size) = some (#[a, b] : Array Value).size) := fun a b => by rw [info_thing]; rfl
  have HB : Hid (Below w.heap.size w (((w.alloc (.cells #[.func (.func fn1) #[] cap1, .func (.func fn2) #[] cap2] 37)).alloc (.cells #[.int .i64 0, .string ⟨#[]⟩] 33)).alloc (.cells #[.int .i64 0, .string ⟨#[]⟩] 33))) := (((Below.refl w.heap.size w).alloc (Nat.le_refl _) _).alloc (by simp) _).alloc (by simp; omega) _
  have hF : (((w.alloc (.cells #[.func (.func fn1) #[] cap1, .func (.func fn2) #[] cap2] 37)).alloc (.cells #[.int .i64 0, .string ⟨#[]⟩] 33)).alloc (.cells #[.int .i64 0, .string ⟨#[]⟩] 33)).heap[w.heap.size]? = some (.cells #[.func (.func fn1) #[] cap1, .func (.func fn2) #[] cap2] 37 (0, 0)) :=
    (Keep.alloc (fun _ => False) ((w.alloc (.cells #[.func (.func fn1) #[] cap1, .func (.func fn2) #[] cap2] 37)).alloc (.cells #[.int .i64 0, .string ⟨#[]⟩] 33)) (.cells #[.int .i64 0, .string ⟨#[]⟩] 33)).blk ((Keep.alloc (fun _ => False) (w.alloc (.cells #[.func (.func fn1) #[] cap1, .func (.func fn2) #[] cap2] 37)) (.cells #[.int .i64 0, .string ⟨#[]⟩] 33)).blk (heap_alloc_new w _) (fun f => f)) (fun f => f)
  have hE : (((w.alloc (.cells #[.func (.func fn1) #[] cap1, .func (.func fn2) #[] cap2] 37)).alloc (.cells #[.int .i64 0, .string ⟨#[]⟩] 33)).alloc (.cells #[.int .i64 0, .string ⟨#[]⟩] 33)).heap[w.heap.size + 1]? = some (.cells #[.int .i64 0, .string ⟨#[]⟩] 33 (0, 0)) := by
    have := (Keep.alloc (fun _ => False) ((w.alloc (.cells #[.func (.func fn1) #[] cap1, .func (.func fn2) #[] cap2] 37)).alloc (.cells #[.int .i64 0, .string ⟨#[]⟩] 33)) (.cells #[.int .i64 0, .string ⟨#[]⟩] 33)).blk (heap_alloc_new (w.alloc (.cells #[.func (.func fn1) #[] cap1, .func (.func fn2) #[] cap2] 37)) (.cells #[.int .i64 0, .string ⟨#[]⟩] 33)) (fun f => f)
    simpa using this
  have hZ : (((w.alloc (.cells #[.func (.func fn1) #[] cap1, .func (.func fn2) #[] cap2] 37)).alloc (.cells #[.int .i64 0, .string ⟨#[]⟩] 33)).alloc (.cells #[.int .i64 0, .string ⟨#[]⟩] 33)).heap[w.heap.size + 2]? = some (.cells #[.int .i64 0, .string ⟨#[]⟩] 33 (0, 0)) := by
    have := heap_alloc_new ((w.alloc (.cells #[.func (.func fn1) #[] cap1, .func (.func fn2) #[] cap2] 37)).alloc (.cells #[.int .i64 0, .string ⟨#[]⟩] 33)) (.cells #[.int .i64 0, .string ⟨#[]⟩] 33)
    simpa using this
  have HF := hide hF
  have HE := hide hE
  have HZe := hide hZ
  have HR := hide (h.below HB.out)
  clear ht hn hP hS hR h hF hE hZ
  by_cases hz : s.fault = 0
  · have HZ := hide hz
    obtain ⟨_, _, _, _, c2, _⟩ := HR.out.see
    rw [hz] at c2
    clear hz
    obtain ⟨VV, hVV⟩ : ∃ x : Array Value, (if s'.fault = 0 then #[.int .i64 N, .string T] else zT) = x := ⟨_, rfl⟩
    rw [hVV]
    have HVV := hide hVV
    clear hVV
    go_enter Tryz.func37, Tryz.ntmps37
    go_upto_region 2 with fail
    change Code.wp _ _ _ _ (((w.alloc (.cells #[.func (.func fn1) #[] cap1, .func (.func fn2) #[] cap2] 37)).alloc (.cells #[.int .i64 0, .string ⟨#[]⟩] 33)).alloc (.cells #[.int .i64 0, .string ⟨#[]⟩] 33))
    generalize ((w.alloc (.cells #[.func (.func fn1) #[] cap1, .func (.func fn2) #[] cap2] 37)).alloc (.cells #[.int .i64 0, .string ⟨#[]⟩] 33)).alloc (.cells #[.int .i64 0, .string ⟨#[]⟩] 33) = W at *
    have c2' : W.cell? ⟨q, 2, none⟩ = some (.int .i64 0) := c2
    clear c2
    obtain ⟨d0, d1⟩ := cells2 HF.out
    go_wp2_with fail
    refine (wholeT fn1 fn2 cap1 cap2 _).mono ?_
    rintro e w1 ⟨rfl, hb1⟩
    have HB1 := hide (HB.out.trans (hb1.mono HB.out.size))
    have HE1 := hide (blkB HE.out hb1)
    have HZ1 := hide (blkB HZe.out hb1)
    clear d0 d1 c2'
    obtain ⟨d0, d1⟩ := cells2 (blkB HF.out hb1)
    clear hb1
    go_wp2_with fail
    refine (triedT q fn1 fn2 cap1 cap2 N T S P w1 (fun k hk => Nat.lt_of_lt_of_le (HS.out k hk) HB1.out.size) (HP.out.mono HB1.out.size) (fun w2 hb2 => HT.out HZ.out w2 (further HB1.out hb2)) he).mono ?_
    rintro e w2 ⟨rfl, hk2, hp2⟩
    have HK2 := hide ((Keep.ofBelow (S := S) HB1.out (Nat.le_refl _)).more hk2)
    have HP2 := hide hp2
    have HE2 := hide (hk2.blk HE1.out (fun h => by have := HS.out _ h; omega))
    have HZ2 := hide (hk2.blk HZ1.out (fun h => by have := HS.out _ h; omega))
    have hsz := hk2.size
    have hsz1 := (Array.getElem?_eq_some_iff.1 HZ1.out).1
    have HSZ : Hid (w.heap.size + 2 < w2.heap.size) := by show _ < _; omega
    clear hk2 hp2 d0 d1 HE1 HZ1 hsz hsz1 HB1
    have HA := hide (heap_alloc_new w2 (.cells #[.int .i64 0, .string ⟨#[]⟩] 33))
    have HXs := hide (setRow_heap (w2.alloc (.cells #[.int .i64 0, .string ⟨#[]⟩] 33)) w2.heap.size _ #[.int .i64 N, .string T] _ _ HA.out)
    have HBs : Hid (Below w2.heap.size w2 ((w2.alloc (.cells #[.int .i64 0, .string ⟨#[]⟩] 33)).setRow w2.heap.size #[.int .i64 N, .string T])) := ((Below.refl _ _).alloc (Nat.le_refl _) _).trans ((keep_row _ _ _).below (by simp) fun k e => by rw [e]; exact Nat.le_refl _)
    go_upto_region 8 with (refine wpList_store_row rfl 33 _ _ rfl w2.heap.size #[.int .i64 N, .string T] rfl rfl 33 _ HA.out (HI2.out _ _) rfl (one2 _ _) ?_)
    change Code.wp _ _ _ _ ((w2.alloc (.cells #[.int .i64 0, .string ⟨#[]⟩] 33)).setRow w2.heap.size #[.int .i64 N, .string T])
    generalize (w2.alloc (.cells #[.int .i64 0, .string ⟨#[]⟩] 33)).setRow w2.heap.size #[.int .i64 N, .string T] = w3 at *
    have HP3 := hide (HP.out.new HP2.out HBs.out)
    have HE3 := hide (blkB HE2.out HBs.out)
    have HZ3 := hide (blkB HZ2.out HBs.out)
    have HK3 := hide (HK2.out.more (Keep.ofBelow (S := S) HBs.out (Nat.le_refl _)))
    generalize w2.heap.size = xb at *
    clear HP2 HE2 HZ2 HK2 HBs HA
    obtain ⟨_, _, _, _, e2, _⟩ := (HRR.out _ HP3.out).see
    by_cases hz' : s'.fault = 0
    · have e2' : w3.cell? ⟨q, 2, none⟩ = some (.int .i64 0) := by rw [e2, hz']; rfl
      have hV := HVV.out
      rw [if_pos hz'] at hV
      subst hV
      clear e2 hz'
      go_wp2_with (first
        | (refine wpList_load_row rfl 33 _ rfl xb rfl 33 #[.int .i64 N, .string T] (0, 0) _ HXs.out Tryz.underlying33 rfl (HI2.out _ _) ?_)
        | (refine wpList_store_row rfl 33 _ _ rfl (w.heap.size + 1) #[.int .i64 N, .string T] rfl rfl 33 _ HE3.out (HI2.out _ _) rfl (one2 _ _) ?_))
      have HX := hide (setRow_heap _ (w.heap.size + 1) _ #[.int .i64 N, .string T] _ _ HE3.out)
      have HK := hide (keep_row w3 (w.heap.size + 1) #[.int .i64 N, .string T])
      exact bodyPost_ret (res2 rfl _ _ (w.heap.size + 1) _ _ rfl HX.out) rfl ⟨rfl, HK3.out.trans HK.out (fun i e => .inr (by have : i = w.heap.size + 1 := e; omega)), HP.out.row HP3.out (by omega) _⟩
    · have hzz : (((s'.fault : Nat) : Int) == 0) = false := by simpa using hz'
      have hV := HVV.out
      rw [if_neg hz'] at hV
      subst hV
      clear hz'
      go_wp2_with (first
        | (refine wpList_load_row rfl 33 _ rfl (w.heap.size + 2) rfl 33 #[.int .i64 0, .string ⟨#[]⟩] (0, 0) _ HZ3.out Tryz.underlying33 rfl (HI2.out _ _) ?_)
        | (refine wpList_store_row rfl 33 _ _ rfl (w.heap.size + 1) #[.int .i64 0, .string ⟨#[]⟩] rfl rfl 33 _ HE3.out (HI2.out _ _) rfl (one2 _ _) ?_))
      have HX := hide (setRow_heap _ (w.heap.size + 1) _ #[.int .i64 0, .string ⟨#[]⟩] _ _ HE3.out)
      have HK := hide (keep_row w3 (w.heap.size + 1) #[.int .i64 0, .string ⟨#[]⟩])
      exact bodyPost_ret (res2 rfl _ _ (w.heap.size + 1) _ _ rfl HX.out) rfl ⟨rfl, HK3.out.trans HK.out (fun i e => .inr (by have : i = w.heap.size + 1 := e; omega)), HP.out.row HP3.out (by omega) _⟩
  · have hzz : (((s.fault : Nat) : Int) == 0) = false := by simpa using hz
    have HZ := hide hz
    obtain ⟨_, _, _, _, c2, _⟩ := HR.out.see
    rw [if_neg (HN.out hz).1]
    clear hz
    go_enter Tryz.func37, Tryz.ntmps37
    go_upto_region 2 with fail
    change Code.wp _ _ _ _ (((w.alloc (.cells #[.func (.func fn1) #[] cap1, .func (.func fn2) #[] cap2] 37)).alloc (.cells #[.int .i64 0, .string ⟨#[]⟩] 33)).alloc (.cells #[.int .i64 0, .string ⟨#[]⟩] 33))
    generalize ((w.alloc (.cells #[.func (.func fn1) #[] cap1, .func (.func fn2) #[] cap2] 37)).alloc (.cells #[.int .i64 0, .string ⟨#[]⟩] 33)).alloc (.cells #[.int .i64 0, .string ⟨#[]⟩] 33) = W at *
    go_wp2_with (first
        | (refine wpList_load_row rfl 33 _ rfl (w.heap.size + 2) rfl 33 #[.int .i64 0, .string ⟨#[]⟩] (0, 0) _ HZe.out Tryz.underlying33 rfl (HI2.out _ _) ?_)
        | (refine wpList_store_row rfl 33 _ _ rfl (w.heap.size + 1) #[.int .i64 0, .string ⟨#[]⟩] rfl rfl 33 _ HE.out (HI2.out _ _) rfl (one2 _ _) ?_))
    have HX := hide (setRow_heap _ (w.heap.size + 1) _ #[.int .i64 0, .string ⟨#[]⟩] _ _ HE.out)
    have HK := hide (keep_row W (w.heap.size + 1) #[.int .i64 0, .string ⟨#[]⟩])
    exact bodyPost_ret (res2 rfl _ _ (w.heap.size + 1) _ _ rfl HX.out) rfl ⟨rfl, (Keep.ofBelow (S := S) HB.out (Nat.le_refl _)).trans HK.out (fun i e => .inr (by have : i = w.heap.size + 1 := e; omega)), HP.out.row ((HN.out HZ.out).2 _ HB.out) (by omega) _⟩
end Wm
end Go.Proofs.YtoelgcagahmndaaGreat

/- PackOnce: the functions of its form. -/
namespace Go.Proofs.YtoelgcagahmndaaGreat
namespace Wm
open Go.RowKit Go.Deep

def numB (c : Int) : Obj := .cells #[.int .i64 c] 3 (0, 0)
def thB (n : Int) (st : ByteArray) : Obj := .cells #[.int .i64 n, .string st] 33 (0, 0)
theorem numB_cell {w : World} {b : Nat} {c : Int} (h : w.heap[b]? = some (numB c)) : w.cell? ⟨b, 0, none⟩ = some (.int .i64 c) ∧ w.frozen? ⟨b, 0, none⟩ = false := by
  refine ⟨by rw [cell_of_row _ _ _ _ _ _ h]; rfl, frozen_of_row w b 0 _ _ h⟩
theorem numB_set {w : World} {b : Nat} {c : Int} (h : w.heap[b]? = some (numB c)) (d : Int) : (w.setCell ⟨b, 0, none⟩ (.int .i64 d)).heap[b]? = some (numB d) := set_blk h 0 _
/-- no byte lies in it -/
def NoU (cs : Array Value) : Prop := ∀ (j : Nat) (x : Int), cs[j]? ≠ some (.int .u8 x)
theorem numB_no (c : Int) : NoU #[.int .i64 c] := fun j x => by
  match j with
  | 0 => simp
  | j + 1 => simp
theorem thB_no (n : Int) (st : ByteArray) : NoU #[.int .i64 n, .string st] := fun j x => by
  match j with
  | 0 => simp
  | 1 => simp
  | j + 2 => simp
theorem Rd.notB {w : World} {a : Option Addr} {n : Nat} {l : List Nat} (h : Rd w a n l) (hn : n ≠ 0) {b off : Nat} (ea : a = some ⟨b, off, none⟩) {cs : Array Value} {T : TypeId} {fr : Nat × Nat} (hb : w.heap[b]? = some (.cells cs T fr)) (hno : NoU cs) : False := by
  obtain ⟨m1, m2, m3, m4⟩ := h
  rcases m4 with m4 | ⟨b', off', ea', m4⟩
  · exact hn m4
  · rw [ea] at ea'
    injection ea' with ea'
    injection ea' with e1 e2
    subst e1 e2
    have := m4 0 (by omega)
    rw [cell_of_row _ _ _ _ _ _ hb] at this
    exact hno _ _ this
/-- a reader stays where what is written lies behind it, or holds no byte -/
theorem Rr.off {w w' : World} {q : Nat} {s : K.RS} (h : Rr w q s) {S : Nat → Prop} (hk : Keep S w w') (hS : ∀ k, S k → q < k ∨ ∃ cs T fr, w.heap[k]? = some (.cells cs T fr) ∧ NoU cs ∧ k ≠ q) : Rr w' q s := by
  obtain ⟨a, c, h1, h2, h3, h4, h5⟩ := h.ex
  refine ⟨⟨a, c, hk.blk h1 (fun e => ?_), h2.stayN hk (fun hn b off ea e => ?_), h3, h4, h5⟩, h.tak, h.top⟩
  · rcases hS q e with h | ⟨_, _, _, _, _, h⟩
    · omega
    · exact h rfl
  · rcases hS b e with h | ⟨cs, T, fr, hb, hno, _⟩
    · have := h5 b off ea; omega
    · exact Rd.notB h2 hn ea hb hno
theorem Qr.off {w w' : World} {q : Nat} {s : K.RS} (h : Qr w q s) {S : Nat → Prop} (hk : Keep S w w') (hS : ∀ k, S k → q < k ∨ ∃ cs T fr, w.heap[k]? = some (.cells cs T fr) ∧ NoU cs ∧ k ≠ q) : Qr w' q s := by
  obtain ⟨a, c, h1, h2, h3, h4, h5⟩ := h.ex
  refine ⟨⟨a, c, hk.blk h1 (fun e => ?_), h2.stayN hk (fun hn b off ea e => ?_), h3, h4, h5⟩, h.tak, h.top⟩
  · rcases hS q e with h | ⟨_, _, _, _, _, h⟩
    · omega
    · exact h rfl
  · rcases hS b e with h | ⟨cs, T, fr, hb, hno, _⟩
    · have := h5 b off ea; omega
    · exact Rd.notB h2 hn ea hb hno
/-- what the form's put does to the writer, the count and what was told -/
structure Put1 (p cb tb : Nat) (v : Value) (s' : K.WS) (n : Int) (st : ByteArray) (c : Int) (w w' : World) : Prop where
  wr : ∃ v', Wr w' p v' s' ∧ ∀ k, Wset p v' k → Wset p v k ∨ w.heap.size ≤ k
  cn : w'.heap[cb]? = some (numB c)
  tl : w'.heap[tb]? = some (thB n st)
  keep : Keep (fun k => Wset p v k ∨ k = cb ∨ k = tb) w w'
theorem ent_once1 (args : Array Value) (w : World) : (callFunc 28 args).run Tryz.prog w = .ok (.enter 28 args) w :=
  callFunc_enter Tryz.func28 rfl rfl args w
theorem ent_once2 (args : Array Value) (w : World) : (callFunc 29 args).run Tryz.prog w = .ok (.enter 29 args) w :=
  callFunc_enter Tryz.func29 rfl rfl args w
set_option maxRecDepth 100000 in
theorem once1 (p cb tb : Nat) (v : Value) (s : K.WS) (n : Int) (hn : n ≤ 9223372036854775807) (st : ByteArray) (hst : st.size ≤ 140737488351232) (c n0 : Int) (st0 : ByteArray) (hw : IntKind.i64.wrap (c + 1) = c + 1) (w : World) (h : Wr w p v s) (hc : w.heap[cb]? = some (numB c)) (ht : w.heap[tb]? = some (thB n0 st0)) :
    Calls Tryz.prog 28 #[.pointer (some ⟨p, 0, none⟩), .agg #[.int .i64 n, .string st], .pointer (some ⟨cb, 0, none⟩), .pointer (some ⟨tb, 0, none⟩)] w fun en w' => en = .returned (.tuple #[]) ∧ Put1 p cb tb v (layE n st s) n st (c + 1) w w' := by
  have hct : cb ≠ tb := fun e => by
    rw [e, ht] at hc
    injection hc with hc
    injection hc with _ hc
    exact absurd hc (by decide)
  have HB : Hid (Below w.heap.size w (w.alloc (.cells #[.int .i64 n, .string st] 33))) := (Below.refl _ _).alloc (Nat.le_refl _) _
  have HX := hide (heap_alloc_new w (.cells #[.int .i64 n, .string st] 33))
  have HC := hide (blkB hc HB.out)
  have HT := hide (blkB ht HB.out)
  have HW := hide h
  have HI2 : Hid (∀ a b : Value, (Tryz.prog.info? 33).map (·.size) = some (#[a, b] : Array Value).size) := fun a b => by rw [info_thing]; rfl
  have HNC : Hid (¬ Wset p v cb) := h.not (b := cb) hc (by decide) (by decide)
  have HNT : Hid (¬ Wset p v tb) := h.not (b := tb) ht (by decide) (by decide)
  have hcl := (Array.getElem?_eq_some_iff.1 hc).1
  have htl := (Array.getElem?_eq_some_iff.1 ht).1
  clear h hc ht
  go_enter Tryz.func28, Tryz.ntmps28
  go_upto_region 1 with fail
  change Code.wp _ _ _ _ (w.alloc (.cells #[.int .i64 n, .string st] 33))
  have HW1 := hide (HW.out.keep (S := fun _ => False) (Keep.ofBelow HB.out (Nat.le_refl _)) fun _ _ f => f)
  generalize w.alloc (.cells #[.int .i64 n, .string st] 33) = W at *
  generalize hg : w.heap.size = g at *
  have HG := hide hg
  clear hg
  obtain ⟨k0, f0⟩ := numB_cell HC.out
  go_upto_region 2 with fail
  clear k0 f0
  have hk1 := keep_cell W cb 0 (.int .i64 (c + 1))
  have hC1 := numB_set HC.out (c + 1)
  have hX1 := hk1.blk HX.out (by show ¬ _ = _; omega)
  have hT1 := hk1.blk HT.out (fun e => hct e.symm)
  have HC1 := hide hC1
  have HT1 := hide hT1
  have HX1 := hide hX1
  have HK1 := hide hk1
  clear hC1 hT1 hX1 hk1 HC HT HX
  generalize W.setCell ⟨cb, 0, none⟩ (.int .i64 (c + 1)) = W1 at *
  go_upto_region 3 with (first
    | (refine wpList_load_row rfl 33 _ rfl g rfl 33 #[.int .i64 n, .string st] (0, 0) _ HX1.out Tryz.underlying33 rfl (HI2.out _ _) ?_)
    | (refine wpList_store_row rfl 33 _ _ rfl tb #[.int .i64 n, .string st] rfl rfl 33 _ HT1.out (HI2.out _ _) rfl (one2 _ _) ?_))
  have hk2 := keep_row W1 tb #[.int .i64 n, .string st]
  have HT2 := hide (setRow_heap W1 tb _ #[.int .i64 n, .string st] _ _ HT1.out)
  have HC2 := hide (hk2.blk HC1.out (fun e => hct e))
  have HX2 := hide (hk2.blk HX1.out (by show ¬ _ = _; omega))
  have HK2 := hide hk2
  clear hk2 HT1 HC1 HX1
  generalize W1.setRow tb #[.int .i64 n, .string st] = W2 at *
  go_wp2_with (refine wpList_load_row rfl 33 _ rfl g rfl 33 #[.int .i64 n, .string st] (0, 0) _ HX2.out Tryz.underlying33 rfl (HI2.out _ _) ?_)
  go_at_call 9
  have hw2 : Wr W2 p v s := (HW1.out.keep HK1.out fun k hk e => HNC.out (e ▸ hk)).keep HK2.out fun k hk e => HNT.out (e ▸ hk)
  refine (lay_any (Wset p v) W2 p s n hn st hst W2 ⟨Keep.refl _ _, v, hw2, fun _ hk => .inl hk⟩).mono ?_
  rintro e w3 ⟨rfl, h3⟩
  have H3 := hide h3
  clear h3
  go_wp2
  go_end0
  have hkW : Keep (fun k => Wset p v k ∨ k = cb ∨ k = tb) w W2 := by
    have h1 := Keep.ofBelow (S := fun k => Wset p v k ∨ k = cb ∨ k = tb) HB.out (by rw [HG.out]; exact Nat.le_refl _)
    exact (h1.trans HK1.out fun i e => .inl (.inr (.inl e))).trans HK2.out fun i e => .inl (.inr (.inr e))
  obtain ⟨v', hv', hs'⟩ := H3.out.wr
  refine ⟨rfl, ⟨v', hv', fun k hk => (hs' k hk).imp id fun h => Nat.le_trans hkW.size h⟩, H3.out.keep.blk HC2.out HNC.out, H3.out.keep.blk HT2.out HNT.out, hkW.trans H3.out.keep fun i h => .inl (.inl h)⟩
/-- what the form's take does -/
structure Tk2 (r cb : Nat) (s' : K.RS) (c : Int) (w' : World) : Prop where
  rd : Rr w' r s'
  cn : w'.heap[cb]? = some (numB c)
theorem Tk2.firm {r cb : Nat} {s' : K.RS} {c : Int} {B : Nat} (hr : r < B) (hc : cb < B) : Firm B (Tk2 r cb s' c) := fun w1 w2 h hk =>
  ⟨h.rd.stay hk fun k hk h => by have : B ≤ k := h; omega, hk.blk h.cn fun h => by have : B ≤ cb := h; omega⟩
set_option maxRecDepth 100000 in
theorem once2 (r cb : Nat) (s : K.RS) (c : Int) (hw : IntKind.i64.wrap (c + 100) = c + 100) (w : World) (h : Rr w r s) (hc : w.heap[cb]? = some (numB c)) :
    Calls Tryz.prog 29 #[.pointer (some ⟨r, 0, none⟩), .pointer (some ⟨cb, 0, none⟩)] w fun en w' => en = .returned (.agg #[.int .i64 (getN s), .string (getS s)]) ∧ Keep (fun k => k = r ∨ k = cb) w w' ∧ Tk2 r cb (getE s) (c + 100) w' := by
  have hrc : r ≠ cb := fun e => by
    obtain ⟨a, c', h1, _⟩ := h.ex
    rw [e, hc] at h1
    injection h1 with h1
    injection h1 with _ h1
    exact absurd h1 (by decide)
  have hrl := h.lt
  have hcl := (Array.getElem?_eq_some_iff.1 hc).1
  have HB : Hid (Below w.heap.size w (w.alloc (.cells #[.int .i64 0, .string ⟨#[]⟩] 33))) := (Below.refl _ _).alloc (Nat.le_refl _) _
  have HX := hide (heap_alloc_new w (.cells #[.int .i64 0, .string ⟨#[]⟩] 33))
  have HC := hide (blkB hc HB.out)
  have HR := hide (h.below HB.out)
  have HI2 : Hid (∀ a b : Value, (Tryz.prog.info? 33).map (·.size) = some (#[a, b] : Array Value).size) := fun a b => by rw [info_thing]; rfl
  have HNb : Hid (∀ W : World, Rr W r s → W.heap[cb]? = some (numB c) → Rr (W.setCell ⟨cb, 0, none⟩ (.int .i64 (c + 100))) r s) := fun W h1 h2 => Rr.off h1 (keep_cell W cb 0 _) (fun k e => .inr ⟨_, _, _, e ▸ h2, numB_no c, fun e2 => hrc (e2 ▸ e)⟩)
  clear h hc
  go_enter Tryz.func29, Tryz.ntmps29
  go_upto_region 1 with fail
  change Code.wp _ _ _ _ (w.alloc (.cells #[.int .i64 0, .string ⟨#[]⟩] 33))
  generalize w.alloc (.cells #[.int .i64 0, .string ⟨#[]⟩] 33) = W at *
  generalize hg : w.heap.size = g at *
  have HG := hide hg
  clear hg
  obtain ⟨k0, f0⟩ := numB_cell HC.out
  go_upto_region 2 with fail
  clear k0 f0
  have HR1 := hide (HNb.out W HR.out HC.out)
  have hk1 := keep_cell W cb 0 (.int .i64 (c + 100))
  have HC1 := hide (numB_set HC.out (c + 100))
  have HX1 := hide (hk1.blk HX.out (by show ¬ _ = _; omega))
  have HK1 := hide hk1
  clear hk1 HC HX HR HNb
  generalize W.setCell ⟨cb, 0, none⟩ (.int .i64 (c + 100)) = W1 at *
  go_wp2_with fail
  refine (get_any r s _ HR1.out).mono ?_
  rintro e w2 ⟨rfl, hr2, hk2⟩
  have HR2 := hide hr2
  have HX2 := hide (hk2.blk HX1.out (by show ¬ _ = _; omega))
  have HC2 := hide (hk2.blk HC1.out (fun e => hrc e.symm))
  have HK2 := hide hk2
  clear hr2 hk2 HR1 HX1 HC1
  go_wp2_with (refine wpList_store_row rfl 33 _ _ rfl g #[.int .i64 (getN s), .string (getS s)] rfl rfl 33 _ HX2.out (HI2.out _ _) rfl (one2 _ _) ?_)
  have HX := hide (setRow_heap w2 g _ #[.int .i64 (getN s), .string (getS s)] _ _ HX2.out)
  have HK := hide (keep_row w2 g #[.int .i64 (getN s), .string (getS s)])
  refine bodyPost_ret (res2 rfl _ _ g _ _ rfl HX.out) rfl ⟨rfl, ?_, HR2.out.stay HK.out (fun k hk e => by have : k = g := e; omega), HK.out.blk HC2.out (by show ¬ _ = _; omega)⟩
  have h1 := Keep.ofBelow (S := fun k => k = r ∨ k = cb) HB.out (by rw [HG.out]; exact Nat.le_refl _)
  exact ((h1.trans HK1.out fun i e => .inl (.inr e)).trans HK2.out fun i e => .inl (.inl e)).trans HK.out fun i e => .inr (by have : i = g := e; rw [HG.out]; omega)
end Wm
end Go.Proofs.YtoelgcagahmndaaGreat
