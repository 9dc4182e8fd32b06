/- Codec: a form of operations whose take is a bound method value (written by cep_gen.py). -/
import Derived.Test.YtbjcckfhfbjchaaGreatCEo
namespace Go.Proofs.YtbjcckfhfbjchaaGreat
namespace Cd
open Go.RowKit Go.Deep

variable {bf : Nat × Nat}
def TakesM (w : World) (q : Nat) (fn : FuncId) (fx : Value) (s' : K.RS) (V : World → Value → Prop) (Sh : Value → Prop) : Prop :=
  Calls Tryz.prog fn #[fx, .pointer (some ⟨q, 0, none⟩)] w fun en w' => Keep (fun k => k = q) w w' ∧ ∃ v, en = .returned v ∧ Sh v ∧ Rr w' q s' ∧ (s'.fault = 0 → V w' v)
def TakesMG (D : Nat → Prop) (w : World) (fn : FuncId) (fx : Value) (g : K.RS → K.RS) (V : K.RS → World → Value → Prop) (Sh : Value → Prop) : Prop :=
  ∀ q s w1, Agree D w w1 → ¬ D q → Rr w1 q s → s.fault = 0 → TakesM w1 q fn fx (g s) (V s) Sh
set_option maxRecDepth 10000 in
set_option maxHeartbeats 2000000 in
theorem wholeOpM (fn1 fn2 : FuncId) (cap1 : Array Value) (fx : Value) (w : World) :
    Calls Tryz.prog 76 #[.agg #[.func (.func fn1) #[] cap1, .func (.func fn2) #[fx] #[]]] w fun en w' => en = .returned (.bool true) ∧ Below w.heap.size w w' := by
  have h1 := fun w fn cap => neq_func 62 w fn #[] cap _ _ _ Tryz.underlying62
  have h2 := fun w fn fi => neq_func 63 w fn fi #[] _ _ _ Tryz.underlying63
  go_enter Tryz.func76, Tryz.ntmps76
  go_wp2
  go_ret
  exact ⟨rfl, (Below.refl _ _).alloc (Nat.le_refl _) _⟩
set_option maxRecDepth 10000 in
set_option maxHeartbeats 2000000 in
theorem triedOpM (q : Nat) (fn1 fn2 : FuncId) (cap1 : Array Value) (fx : Value) (s' : K.RS) (V : World → Value → Prop) (hV : StableT 32 V) (w : World) (hq : q < w.heap.size)
    (ht : ∀ w1, Below w.heap.size w w1 → TakesM w1 q fn2 fx s' V ShOp) (he : ∀ args w, (callFunc fn2 args).run Tryz.prog w = .ok (.enter fn2 args) w) :
    Calls Tryz.prog 133 #[.agg #[.func (.func fn1) #[] cap1, .func (.func fn2) #[fx] #[]], .pointer (some ⟨q, 0, none⟩)] w fun en w' => Keep (fun k => k = q) w w' ∧ ∃ v, en = .returned v ∧ ShOp v ∧ Rr w' q s' ∧ (s'.fault = 0 → V w' v) := by
  have hmf : ∀ (fn : Fn) (first cap : Array Value) (w : World), (Instr.makeFunc fn first cap).run Tryz.prog w = .ok (.func fn first cap) w := fun _ _ _ _ => rfl
  have HT := hide ht
  have HV := hide hV
  have HQ := hide hq
  have HSI := hide sizeOp
  clear ht hV hq
  go_enter_defers Tryz.func133, Tryz.ntmps133
  go_wp2_with fail
  have hba := bel3 w (.cells #[.func (.func fn1) #[] cap1, .func (.func fn2) #[fx] #[]] 65) (.cells #[.pointer (some ⟨q, 0, none⟩)] 100) (.cells #[.int .i64 0, .string ⟨#[]⟩, .int .i64 0, .slice none 0 0, .string ⟨#[]⟩, .int .i64 0, .int .i64 0, .int .i64 0, .slice none 0 0, .int .i64 0, .int .u64 0, .int .i64 0] 32)
  obtain ⟨_, hrb, hre⟩ := blk3 w (.cells #[.func (.func fn1) #[] cap1, .func (.func fn2) #[fx] #[]] 65) (.cells #[.pointer (some ⟨q, 0, none⟩)] 100) (.cells #[.int .i64 0, .string ⟨#[]⟩, .int .i64 0, .slice none 0 0, .string ⟨#[]⟩, .int .i64 0, .int .i64 0, .int .i64 0, .slice none 0 0, .int .i64 0, .int .u64 0, .int .i64 0] 32)
  generalize ((w.alloc (.cells #[.func (.func fn1) #[] cap1, .func (.func fn2) #[fx] #[]] 65)).alloc (.cells #[.pointer (some ⟨q, 0, none⟩)] 100)).alloc (.cells #[.int .i64 0, .string ⟨#[]⟩, .int .i64 0, .slice none 0 0, .string ⟨#[]⟩, .int .i64 0, .int .i64 0, .int .i64 0, .slice none 0 0, .int .i64 0, .int .u64 0, .int .i64 0] 32) = wa at *
  have HKA := hide (Keep.ofBelow (S := fun k => k = q) hba (Nat.le_refl _))
  refine (HT.out wa hba).mono ?_
  clear hba
  rintro en w1 ⟨hk, v, rfl, ⟨ki, nm, dl, x1, x2, x3, ky, la, wo, tk, y1, y2, y3, ru, lu, ti, rfl⟩, hr, hv⟩
  have hrb1 := hk.blk hrb (fun h => by have := HQ.out; have h : _ = q := h; omega)
  have hre1 := hk.blk hre (fun h => by have := HQ.out; have h : _ = q := h; omega)
  have HRE := hide hre1
  have HK := hide (HKA.out.more hk)
  have HR := hide hr
  have HVV := hide hv
  have HRB := hide hrb1
  clear hk hr hv hrb hre hre1 hrb1
  have HI : Hid ((Tryz.prog.info? 32).map (·.size) = some (#[.int .i64 ki, .string nm, .int .i64 dl, .slice x1 x2 x3, .string ky, .int .i64 la, .int .i64 wo, .int .i64 tk, .slice y1 y2 y3, .int .i64 ru, .int .u64 lu, .int .i64 ti] : Array Value).size) := sizeOp
  have HO1 := hide (onesOp ki nm dl x1 x2 x3 ky la wo tk y1 y2 y3 ru lu ti)
  go_wp2_with (refine wpList_store_row rfl 32 _ _ rfl (w.heap.size + 2) #[.int .i64 ki, .string nm, .int .i64 dl, .slice x1 x2 x3, .string ky, .int .i64 la, .int .i64 wo, .int .i64 tk, .slice y1 y2 y3, .int .i64 ru, .int .u64 lu, .int .i64 ti] rfl rfl 32 _ HRE.out HI.out rfl HO1.out ?_)
  have hk2 := keep_row w1 (w.heap.size + 2) #[.int .i64 ki, .string nm, .int .i64 dl, .slice x1 x2 x3, .string ky, .int .i64 la, .int .i64 wo, .int .i64 tk, .slice y1 y2 y3, .int .i64 ru, .int .u64 lu, .int .i64 ti]
  have hx2 := setRow_heap w1 (w.heap.size + 2) _ #[.int .i64 ki, .string nm, .int .i64 dl, .slice x1 x2 x3, .string ky, .int .i64 la, .int .i64 wo, .int .i64 tk, .slice y1 y2 y3, .int .i64 ru, .int .u64 lu, .int .i64 ti] _ _ HRE.out
  have hc2 := hk2.blk HRB.out (by show ¬ _ = _; omega)
  have hr2 : Rr (w1.setRow (w.heap.size + 2) #[.int .i64 ki, .string nm, .int .i64 dl, .slice x1 x2 x3, .string ky, .int .i64 la, .int .i64 wo, .int .i64 tk, .slice y1 y2 y3, .int .i64 ru, .int .u64 lu, .int .i64 ti]) q s' := HR.out.stay hk2 fun j hj e => by have := HQ.out; have e : j = _ := e; omega
  have hv2 : s'.fault = 0 → V (w1.setRow (w.heap.size + 2) #[.int .i64 ki, .string nm, .int .i64 dl, .slice x1 x2 x3, .string ky, .int .i64 la, .int .i64 wo, .int .i64 tk, .slice y1 y2 y3, .int .i64 ru, .int .u64 lu, .int .i64 ti]) (.agg #[.int .i64 ki, .string nm, .int .i64 dl, .slice x1 x2 x3, .string ky, .int .i64 la, .int .i64 wo, .int .i64 tk, .slice y1 y2 y3, .int .i64 ru, .int .u64 lu, .int .i64 ti]) := fun hz => StableT.row HV.out (HVV.out hz) HRE.out _
  generalize w1.setRow (w.heap.size + 2) #[.int .i64 ki, .string nm, .int .i64 dl, .slice x1 x2 x3, .string ky, .int .i64 la, .int .i64 wo, .int .i64 tk, .slice y1 y2 y3, .int .i64 ru, .int .u64 lu, .int .i64 ti] = w2 at *
  have hc3 : w2.cell? ⟨w.heap.size + 1, 0, none⟩ = some (.pointer (some ⟨q, 0, none⟩)) := by rw [cell_of_row _ _ _ _ _ _ hc2]; rfl
  refine leaves_cons (f := 171) (args := #[.pointer (some ⟨w.heap.size + 1, 0, none⟩)]) (by simp) (by simp [go_sem]) ?_
  refine (idleOp q (w.heap.size + 1) _ hc3).mono ?_
  rintro e u' w'' ⟨rfl, rfl, rfl⟩
  have hx3 : w2.drew.heap[w.heap.size + 2]? = some (.cells #[.int .i64 ki, .string nm, .int .i64 dl, .slice x1 x2 x3, .string ky, .int .i64 la, .int .i64 wo, .int .i64 tk, .slice y1 y2 y3, .int .i64 ru, .int .u64 lu, .int .i64 ti] 32 (0, 0)) := hx2
  exact ⟨_, resOp rfl _ _ (w.heap.size + 2) _ rfl rfl hx3, (HK.out.trans hk2 fun i e => .inr (by have : i = w.heap.size + 2 := e; omega)).more (Keep.drew _ _), _, rfl, ⟨_, _, _, _, _, _, _, _, _, _, _, _, _, _, _, _, rfl⟩, hr2.below (Below.refl _ _).drew, fun hz => HV.out.stable _ _ _ (hv2 hz) (Below.refl _ _).drew⟩
set_option maxRecDepth 10000 in
set_option maxHeartbeats 2000000 in
theorem TakeOpM (q : Nat) (fn1 fn2 : FuncId) (cap1 : Array Value) (fx : Value) (s s' : K.RS) (V : World → Value → Prop) (hV : StableT 32 V) (w : World) (h : Rr w q s)
    (ht : s.fault = 0 → ∀ w1, Below w.heap.size w w1 → TakesM w1 q fn2 fx s' V ShOp) (hn : s.fault ≠ 0 → s' = s) (he : ∀ args w, (callFunc fn2 args).run Tryz.prog w = .ok (.enter fn2 args) w) :
    Calls Tryz.prog 66 #[.agg #[.func (.func fn1) #[] cap1, .func (.func fn2) #[fx] #[]], .pointer (some ⟨q, 0, none⟩)] w fun en w' => Keep (fun k => k = q) w w' ∧ ∃ v, en = .returned v ∧ ShOp v ∧ Rr w' q s' ∧ (s'.fault = 0 → V w' v) ∧ (s'.fault ≠ 0 → v = .agg #[.int .i64 0, .string ⟨#[]⟩, .int .i64 0, .slice none 0 0, .string ⟨#[]⟩, .int .i64 0, .int .i64 0, .int .i64 0, .slice none 0 0, .int .i64 0, .int .u64 0, .int .i64 0]) := by
  have HT := hide ht
  have HN := hide hn
  have HV := hide hV
  have HQ := hide h.lt
  have HIZ : Hid ((Tryz.prog.info? 32).map (·.size) = some (#[.int .i64 0, .string ⟨#[]⟩, .int .i64 0, .slice none 0 0, .string ⟨#[]⟩, .int .i64 0, .int .i64 0, .int .i64 0, .slice none 0 0, .int .i64 0, .int .u64 0, .int .i64 0] : Array Value).size) := sizeOp
  have HOZ : Hid ((#[.int .i64 0, .string ⟨#[]⟩, .int .i64 0, .slice none 0 0, .string ⟨#[]⟩, .int .i64 0, .int .i64 0, .int .i64 0, .slice none 0 0, .int .i64 0, .int .u64 0, .int .i64 0] : Array Value).all (·.oneCell') = true) := by show _ = _; simp [Value.oneCell']
  have HB := hide (bel3 w (.cells #[.func (.func fn1) #[] cap1, .func (.func fn2) #[fx] #[]] 65) (.cells #[.int .i64 0, .string ⟨#[]⟩, .int .i64 0, .slice none 0 0, .string ⟨#[]⟩, .int .i64 0, .int .i64 0, .int .i64 0, .slice none 0 0, .int .i64 0, .int .u64 0, .int .i64 0] 32) (.cells #[.int .i64 0, .string ⟨#[]⟩, .int .i64 0, .slice none 0 0, .string ⟨#[]⟩, .int .i64 0, .int .i64 0, .int .i64 0, .slice none 0 0, .int .i64 0, .int .u64 0, .int .i64 0] 32))
  obtain ⟨hF, hE, hZ⟩ := blk3 w (.cells #[.func (.func fn1) #[] cap1, .func (.func fn2) #[fx] #[]] 65) (.cells #[.int .i64 0, .string ⟨#[]⟩, .int .i64 0, .slice none 0 0, .string ⟨#[]⟩, .int .i64 0, .int .i64 0, .int .i64 0, .slice none 0 0, .int .i64 0, .int .u64 0, .int .i64 0] 32) (.cells #[.int .i64 0, .string ⟨#[]⟩, .int .i64 0, .slice none 0 0, .string ⟨#[]⟩, .int .i64 0, .int .i64 0, .int .i64 0, .slice none 0 0, .int .i64 0, .int .u64 0, .int .i64 0] 32)
  have HF := hide hF
  have HE := hide hE
  have HZe := hide hZ
  have HR := hide (h.below HB.out)
  clear ht hn hV h hF hE hZ
  by_cases hz : s.fault = 0
  · have HZ := hide hz
    obtain ⟨_, _, _, _, c2, _⟩ := HR.out.see
    rw [hz] at c2
    clear hz
    go_enter Tryz.func66, Tryz.ntmps66
    go_upto_region 2 with fail
    change Code.wp _ _ _ _ (((w.alloc (.cells #[.func (.func fn1) #[] cap1, .func (.func fn2) #[fx] #[]] 65)).alloc (.cells #[.int .i64 0, .string ⟨#[]⟩, .int .i64 0, .slice none 0 0, .string ⟨#[]⟩, .int .i64 0, .int .i64 0, .int .i64 0, .slice none 0 0, .int .i64 0, .int .u64 0, .int .i64 0] 32)).alloc (.cells #[.int .i64 0, .string ⟨#[]⟩, .int .i64 0, .slice none 0 0, .string ⟨#[]⟩, .int .i64 0, .int .i64 0, .int .i64 0, .slice none 0 0, .int .i64 0, .int .u64 0, .int .i64 0] 32))
    generalize ((w.alloc (.cells #[.func (.func fn1) #[] cap1, .func (.func fn2) #[fx] #[]] 65)).alloc (.cells #[.int .i64 0, .string ⟨#[]⟩, .int .i64 0, .slice none 0 0, .string ⟨#[]⟩, .int .i64 0, .int .i64 0, .int .i64 0, .slice none 0 0, .int .i64 0, .int .u64 0, .int .i64 0] 32)).alloc (.cells #[.int .i64 0, .string ⟨#[]⟩, .int .i64 0, .slice none 0 0, .string ⟨#[]⟩, .int .i64 0, .int .i64 0, .int .i64 0, .slice none 0 0, .int .i64 0, .int .u64 0, .int .i64 0] 32) = W at *
    have c2' : W.cell? ⟨q, 2, none⟩ = some (.int .i64 0) := c2
    clear c2
    obtain ⟨d0, d1⟩ := cells2 HF.out
    go_wp2_with fail
    refine (wholeOpM fn1 fn2 cap1 fx _).mono ?_
    rintro e w1 ⟨rfl, hb1⟩
    have HB1 := hide (HB.out.trans (hb1.mono HB.out.size))
    have HE1 := hide (blkB HE.out hb1)
    have HZ1 := hide (blkB HZe.out hb1)
    clear d0 d1 c2'
    obtain ⟨d0, d1⟩ := cells2 (blkB HF.out hb1)
    clear hb1
    go_wp2_with fail
    refine (triedOpM q fn1 fn2 cap1 fx s' V HV.out w1 (Nat.lt_of_lt_of_le HQ.out HB1.out.size) (fun w2 hb2 => HT.out HZ.out w2 (further HB1.out hb2)) he).mono ?_
    rintro e w2 ⟨hk2, v, rfl, ⟨ki, nm, dl, x1, x2, x3, ky, la, wo, tk, y1, y2, y3, ru, lu, ti, rfl⟩, hr2, hv2⟩
    have HK2 := hide ((Keep.ofBelow (S := fun k => k = q) HB1.out (Nat.le_refl _)).more hk2)
    have HE2 := hide (hk2.blk HE1.out (fun h => by have := HQ.out; have h : _ = q := h; omega))
    have HZ2 := hide (hk2.blk HZ1.out (fun h => by have := HQ.out; have h : _ = q := h; omega))
    have hsz := hk2.size
    have hsz1 := (Array.getElem?_eq_some_iff.1 HZ1.out).1
    have HSZ : Hid (w.heap.size + 2 < w2.heap.size) := by show _ < _; omega
    have HR2 := hide hr2
    have HV2 := hide hv2
    clear hk2 d0 d1 HE1 HZ1 hsz hsz1 HB1 hr2 hv2
    have HI : Hid ((Tryz.prog.info? 32).map (·.size) = some (#[.int .i64 ki, .string nm, .int .i64 dl, .slice x1 x2 x3, .string ky, .int .i64 la, .int .i64 wo, .int .i64 tk, .slice y1 y2 y3, .int .i64 ru, .int .u64 lu, .int .i64 ti] : Array Value).size) := sizeOp
    have HO1 := hide (onesOp ki nm dl x1 x2 x3 ky la wo tk y1 y2 y3 ru lu ti)
    have HA := hide (heap_alloc_new w2 (.cells #[.int .i64 0, .string ⟨#[]⟩, .int .i64 0, .slice none 0 0, .string ⟨#[]⟩, .int .i64 0, .int .i64 0, .int .i64 0, .slice none 0 0, .int .i64 0, .int .u64 0, .int .i64 0] 32))
    have HXs := hide (setRow_heap (w2.alloc (.cells #[.int .i64 0, .string ⟨#[]⟩, .int .i64 0, .slice none 0 0, .string ⟨#[]⟩, .int .i64 0, .int .i64 0, .int .i64 0, .slice none 0 0, .int .i64 0, .int .u64 0, .int .i64 0] 32)) w2.heap.size _ #[.int .i64 ki, .string nm, .int .i64 dl, .slice x1 x2 x3, .string ky, .int .i64 la, .int .i64 wo, .int .i64 tk, .slice y1 y2 y3, .int .i64 ru, .int .u64 lu, .int .i64 ti] _ _ HA.out)
    have HBs : Hid (Below w2.heap.size w2 ((w2.alloc (.cells #[.int .i64 0, .string ⟨#[]⟩, .int .i64 0, .slice none 0 0, .string ⟨#[]⟩, .int .i64 0, .int .i64 0, .int .i64 0, .slice none 0 0, .int .i64 0, .int .u64 0, .int .i64 0] 32)).setRow w2.heap.size #[.int .i64 ki, .string nm, .int .i64 dl, .slice x1 x2 x3, .string ky, .int .i64 la, .int .i64 wo, .int .i64 tk, .slice y1 y2 y3, .int .i64 ru, .int .u64 lu, .int .i64 ti])) := ((Below.refl _ _).alloc (Nat.le_refl _) _).trans ((keep_row _ _ _).below (by simp) fun k e => by rw [e]; exact Nat.le_refl _)
    go_upto_region 8 with (refine wpList_store_row rfl 32 _ _ rfl w2.heap.size #[.int .i64 ki, .string nm, .int .i64 dl, .slice x1 x2 x3, .string ky, .int .i64 la, .int .i64 wo, .int .i64 tk, .slice y1 y2 y3, .int .i64 ru, .int .u64 lu, .int .i64 ti] rfl rfl 32 _ HA.out HI.out rfl HO1.out ?_)
    change Code.wp _ _ _ _ ((w2.alloc (.cells #[.int .i64 0, .string ⟨#[]⟩, .int .i64 0, .slice none 0 0, .string ⟨#[]⟩, .int .i64 0, .int .i64 0, .int .i64 0, .slice none 0 0, .int .i64 0, .int .u64 0, .int .i64 0] 32)).setRow w2.heap.size #[.int .i64 ki, .string nm, .int .i64 dl, .slice x1 x2 x3, .string ky, .int .i64 la, .int .i64 wo, .int .i64 tk, .slice y1 y2 y3, .int .i64 ru, .int .u64 lu, .int .i64 ti])
    generalize (w2.alloc (.cells #[.int .i64 0, .string ⟨#[]⟩, .int .i64 0, .slice none 0 0, .string ⟨#[]⟩, .int .i64 0, .int .i64 0, .int .i64 0, .slice none 0 0, .int .i64 0, .int .u64 0, .int .i64 0] 32)).setRow w2.heap.size #[.int .i64 ki, .string nm, .int .i64 dl, .slice x1 x2 x3, .string ky, .int .i64 la, .int .i64 wo, .int .i64 tk, .slice y1 y2 y3, .int .i64 ru, .int .u64 lu, .int .i64 ti] = w3 at *
    have HR3 := hide (HR2.out.below HBs.out)
    have HV3 : Hid (s'.fault = 0 → V w3 (.agg #[.int .i64 ki, .string nm, .int .i64 dl, .slice x1 x2 x3, .string ky, .int .i64 la, .int .i64 wo, .int .i64 tk, .slice y1 y2 y3, .int .i64 ru, .int .u64 lu, .int .i64 ti])) := fun hz => HV.out.stable _ _ _ (HV2.out hz) HBs.out
    have HE3 := hide (blkB HE2.out HBs.out)
    have HZ3 := hide (blkB HZ2.out HBs.out)
    have HK3 := hide (HK2.out.more (Keep.ofBelow (S := fun k => k = q) HBs.out (Nat.le_refl _)))
    generalize w2.heap.size = xb at *
    clear HR2 HV2 HE2 HZ2 HK2 HBs HA
    obtain ⟨_, _, _, _, e2, _⟩ := HR3.out.see
    by_cases hz' : s'.fault = 0
    · have e2' : w3.cell? ⟨q, 2, none⟩ = some (.int .i64 0) := by rw [e2, hz']; rfl
      have HZ' := hide hz'
      clear e2 hz'
      go_wp2_with (first
        | (refine wpList_load_row rfl 32 _ rfl xb rfl 32 #[.int .i64 ki, .string nm, .int .i64 dl, .slice x1 x2 x3, .string ky, .int .i64 la, .int .i64 wo, .int .i64 tk, .slice y1 y2 y3, .int .i64 ru, .int .u64 lu, .int .i64 ti] (0, 0) _ HXs.out Tryz.underlying32 rfl HI.out ?_)
        | (refine wpList_store_row rfl 32 _ _ rfl (w.heap.size + 1) #[.int .i64 ki, .string nm, .int .i64 dl, .slice x1 x2 x3, .string ky, .int .i64 la, .int .i64 wo, .int .i64 tk, .slice y1 y2 y3, .int .i64 ru, .int .u64 lu, .int .i64 ti] rfl rfl 32 _ HE3.out HI.out rfl HO1.out ?_))
      have HX := hide (setRow_heap _ (w.heap.size + 1) _ #[.int .i64 ki, .string nm, .int .i64 dl, .slice x1 x2 x3, .string ky, .int .i64 la, .int .i64 wo, .int .i64 tk, .slice y1 y2 y3, .int .i64 ru, .int .u64 lu, .int .i64 ti] _ _ HE3.out)
      have HK := hide (keep_row w3 (w.heap.size + 1) #[.int .i64 ki, .string nm, .int .i64 dl, .slice x1 x2 x3, .string ky, .int .i64 la, .int .i64 wo, .int .i64 tk, .slice y1 y2 y3, .int .i64 ru, .int .u64 lu, .int .i64 ti])
      exact bodyPost_ret (resOp rfl _ _ (w.heap.size + 1) _ rfl rfl HX.out) rfl ⟨HK3.out.trans HK.out (fun i e => .inr (by have : i = w.heap.size + 1 := e; omega)), _, rfl, ⟨_, _, _, _, _, _, _, _, _, _, _, _, _, _, _, _, rfl⟩, HR3.out.stay HK.out (fun j hj e => by have := HQ.out; have e : j = _ := e; omega), fun hz => StableT.row HV.out (HV3.out hz) HE3.out _, fun hz => absurd HZ'.out hz⟩
    · have hzz : (((s'.fault : Nat) : Int) == 0) = false := by simpa using hz'
      have HZ' := hide hz'
      clear hz'
      go_wp2_with (first
        | (refine wpList_load_row rfl 32 _ rfl (w.heap.size + 2) rfl 32 #[.int .i64 0, .string ⟨#[]⟩, .int .i64 0, .slice none 0 0, .string ⟨#[]⟩, .int .i64 0, .int .i64 0, .int .i64 0, .slice none 0 0, .int .i64 0, .int .u64 0, .int .i64 0] (0, 0) _ HZ3.out Tryz.underlying32 rfl HIZ.out ?_)
        | (refine wpList_store_row rfl 32 _ _ rfl (w.heap.size + 1) #[.int .i64 0, .string ⟨#[]⟩, .int .i64 0, .slice none 0 0, .string ⟨#[]⟩, .int .i64 0, .int .i64 0, .int .i64 0, .slice none 0 0, .int .i64 0, .int .u64 0, .int .i64 0] rfl rfl 32 _ HE3.out HIZ.out rfl HOZ.out ?_))
      have HX := hide (setRow_heap _ (w.heap.size + 1) _ #[.int .i64 0, .string ⟨#[]⟩, .int .i64 0, .slice none 0 0, .string ⟨#[]⟩, .int .i64 0, .int .i64 0, .int .i64 0, .slice none 0 0, .int .i64 0, .int .u64 0, .int .i64 0] _ _ HE3.out)
      have HK := hide (keep_row w3 (w.heap.size + 1) #[.int .i64 0, .string ⟨#[]⟩, .int .i64 0, .slice none 0 0, .string ⟨#[]⟩, .int .i64 0, .int .i64 0, .int .i64 0, .slice none 0 0, .int .i64 0, .int .u64 0, .int .i64 0])
      exact bodyPost_ret (resOp rfl _ _ (w.heap.size + 1) _ rfl rfl HX.out) rfl ⟨HK3.out.trans HK.out (fun i e => .inr (by have : i = w.heap.size + 1 := e; omega)), _, rfl, ⟨_, _, _, _, _, _, _, _, _, _, _, _, _, _, _, _, rfl⟩, HR3.out.stay HK.out (fun j hj e => by have := HQ.out; have e : j = _ := e; omega), fun hz => absurd hz HZ'.out, fun _ => rfl⟩
  · have hzz : (((s.fault : Nat) : Int) == 0) = false := by simpa using hz
    have HZ := hide hz
    obtain ⟨_, _, _, _, c2, _⟩ := HR.out.see
    have hs := HN.out hz
    subst hs
    clear hz
    go_enter Tryz.func66, Tryz.ntmps66
    go_upto_region 2 with fail
    change Code.wp _ _ _ _ (((w.alloc (.cells #[.func (.func fn1) #[] cap1, .func (.func fn2) #[fx] #[]] 65)).alloc (.cells #[.int .i64 0, .string ⟨#[]⟩, .int .i64 0, .slice none 0 0, .string ⟨#[]⟩, .int .i64 0, .int .i64 0, .int .i64 0, .slice none 0 0, .int .i64 0, .int .u64 0, .int .i64 0] 32)).alloc (.cells #[.int .i64 0, .string ⟨#[]⟩, .int .i64 0, .slice none 0 0, .string ⟨#[]⟩, .int .i64 0, .int .i64 0, .int .i64 0, .slice none 0 0, .int .i64 0, .int .u64 0, .int .i64 0] 32))
    generalize ((w.alloc (.cells #[.func (.func fn1) #[] cap1, .func (.func fn2) #[fx] #[]] 65)).alloc (.cells #[.int .i64 0, .string ⟨#[]⟩, .int .i64 0, .slice none 0 0, .string ⟨#[]⟩, .int .i64 0, .int .i64 0, .int .i64 0, .slice none 0 0, .int .i64 0, .int .u64 0, .int .i64 0] 32)).alloc (.cells #[.int .i64 0, .string ⟨#[]⟩, .int .i64 0, .slice none 0 0, .string ⟨#[]⟩, .int .i64 0, .int .i64 0, .int .i64 0, .slice none 0 0, .int .i64 0, .int .u64 0, .int .i64 0] 32) = W at *
    go_wp2_with (first
        | (refine wpList_load_row rfl 32 _ rfl (w.heap.size + 2) rfl 32 #[.int .i64 0, .string ⟨#[]⟩, .int .i64 0, .slice none 0 0, .string ⟨#[]⟩, .int .i64 0, .int .i64 0, .int .i64 0, .slice none 0 0, .int .i64 0, .int .u64 0, .int .i64 0] (0, 0) _ HZe.out Tryz.underlying32 rfl HIZ.out ?_)
        | (refine wpList_store_row rfl 32 _ _ rfl (w.heap.size + 1) #[.int .i64 0, .string ⟨#[]⟩, .int .i64 0, .slice none 0 0, .string ⟨#[]⟩, .int .i64 0, .int .i64 0, .int .i64 0, .slice none 0 0, .int .i64 0, .int .u64 0, .int .i64 0] rfl rfl 32 _ HE.out HIZ.out rfl HOZ.out ?_))
    have HX := hide (setRow_heap _ (w.heap.size + 1) _ #[.int .i64 0, .string ⟨#[]⟩, .int .i64 0, .slice none 0 0, .string ⟨#[]⟩, .int .i64 0, .int .i64 0, .int .i64 0, .slice none 0 0, .int .i64 0, .int .u64 0, .int .i64 0] _ _ HE.out)
    have HK := hide (keep_row W (w.heap.size + 1) #[.int .i64 0, .string ⟨#[]⟩, .int .i64 0, .slice none 0 0, .string ⟨#[]⟩, .int .i64 0, .int .i64 0, .int .i64 0, .slice none 0 0, .int .i64 0, .int .u64 0, .int .i64 0])
    exact bodyPost_ret (resOp rfl _ _ (w.heap.size + 1) _ rfl rfl HX.out) rfl ⟨(Keep.ofBelow (S := fun k => k = q) HB.out (Nat.le_refl _)).trans HK.out (fun i e => .inr (by have : i = w.heap.size + 1 := e; omega)), _, rfl, ⟨_, _, _, _, _, _, _, _, _, _, _, _, _, _, _, _, rfl⟩, HR.out.stay HK.out (fun j hj e => by have := HQ.out; have e : j = _ := e; omega), fun hz => absurd hz HZ.out, fun _ => rfl⟩
set_option maxRecDepth 10000 in
set_option maxHeartbeats 2000000 in
theorem ReadOpM (fn1 fn2 : FuncId) (cap1 : Array Value) (fx : Value) (a : Option Addr) (n c : Nat) (l : List Nat) (g : K.RS → K.RS) (V : K.RS → World → Value → Prop) (hV : ∀ s, StableT 32 (V s)) (s' : K.RS) (hs' : takeR g (newR l) = s') (r : Nat) (hr : endR s' = r) (w : World) (h : Rd w a n l) (h0 : a = none → c = 0)
    (ht : TakesMG (Lo bf w) w fn2 fx g V ShOp) (he : ∀ args w, (callFunc fn2 args).run Tryz.prog w = .ok (.enter fn2 args) w) :
    Calls Tryz.prog 33 #[.agg #[.func (.func fn1) #[] cap1, .func (.func fn2) #[fx] #[]], .slice a n c] w fun en w' =>
      ∃ v, en = .returned (.tuple #[v, .int .i64 (r : Nat)]) ∧ ShOp v ∧ (r = 0 → V (newR l) w' v) ∧ (r ≠ 0 → v = .agg #[.int .i64 0, .string ⟨#[]⟩, .int .i64 0, .slice none 0 0, .string ⟨#[]⟩, .int .i64 0, .int .i64 0, .int .i64 0, .slice none 0 0, .int .i64 0, .int .u64 0, .int .i64 0]) ∧ Below w.heap.size w w' := by
  have HB : Hid (Below w.heap.size w ((w.alloc (.cells #[.func (.func fn1) #[] cap1, .func (.func fn2) #[fx] #[]] 65)).alloc (.cells #[.int .i64 0, .string ⟨#[]⟩, .int .i64 0, .slice none 0 0, .string ⟨#[]⟩, .int .i64 0, .int .i64 0, .int .i64 0, .slice none 0 0, .int .i64 0, .int .u64 0, .int .i64 0] 32))) := ((Below.refl _ _).alloc (Nat.le_refl _) _).alloc (by simp) _
  obtain ⟨hF, hE⟩ := blk2 w (.cells #[.func (.func fn1) #[] cap1, .func (.func fn2) #[fx] #[]] 65) (.cells #[.int .i64 0, .string ⟨#[]⟩, .int .i64 0, .slice none 0 0, .string ⟨#[]⟩, .int .i64 0, .int .i64 0, .int .i64 0, .slice none 0 0, .int .i64 0, .int .u64 0, .int .i64 0] 32)
  have hsz : ((w.alloc (.cells #[.func (.func fn1) #[] cap1, .func (.func fn2) #[fx] #[]] 65)).alloc (.cells #[.int .i64 0, .string ⟨#[]⟩, .int .i64 0, .slice none 0 0, .string ⟨#[]⟩, .int .i64 0, .int .i64 0, .int .i64 0, .slice none 0 0, .int .i64 0, .int .u64 0, .int .i64 0] 32)).heap.size = w.heap.size + 1 + 1 := by simp
  have HF := hide hF
  have HE := hide hE
  have HSZ := hide hsz
  have HT := hide ht
  have HV := hide hV
  have HR := hide (h.keep HB.out)
  have H0 := hide h0
  have HC := hide he
  have HS := hide hs'
  have HRR := hide hr
  have HIZ : Hid ((Tryz.prog.info? 32).map (·.size) = some (#[.int .i64 0, .string ⟨#[]⟩, .int .i64 0, .slice none 0 0, .string ⟨#[]⟩, .int .i64 0, .int .i64 0, .int .i64 0, .slice none 0 0, .int .i64 0, .int .u64 0, .int .i64 0] : Array Value).size) := sizeOp
  have HOZ : Hid ((#[.int .i64 0, .string ⟨#[]⟩, .int .i64 0, .slice none 0 0, .string ⟨#[]⟩, .int .i64 0, .int .i64 0, .int .i64 0, .slice none 0 0, .int .i64 0, .int .u64 0, .int .i64 0] : Array Value).all (·.oneCell') = true) := by show _ = _; simp [Value.oneCell']
  clear ht hV h h0 he hs' hr hF hE hsz
  go_enter Tryz.func33, Tryz.ntmps33
  go_upto_region 1 with fail
  change Code.wp _ _ _ _ ((w.alloc (.cells #[.func (.func fn1) #[] cap1, .func (.func fn2) #[fx] #[]] 65)).alloc (.cells #[.int .i64 0, .string ⟨#[]⟩, .int .i64 0, .slice none 0 0, .string ⟨#[]⟩, .int .i64 0, .int .i64 0, .int .i64 0, .slice none 0 0, .int .i64 0, .int .u64 0, .int .i64 0] 32))
  generalize (w.alloc (.cells #[.func (.func fn1) #[] cap1, .func (.func fn2) #[fx] #[]] 65)).alloc (.cells #[.int .i64 0, .string ⟨#[]⟩, .int .i64 0, .slice none 0 0, .string ⟨#[]⟩, .int .i64 0, .int .i64 0, .int .i64 0, .slice none 0 0, .int .i64 0, .int .u64 0, .int .i64 0] 32) = wa at *
  go_wp2_with fail
  refine (NewReader_any a n c l _ HR.out H0.out).mono ?_
  rintro e w1 ⟨q, rfl, hrr, hq, hb1⟩
  obtain ⟨d0, d1⟩ := cells2 (blkB HF.out hb1)
  have HE1 := hide (blkB HE.out hb1)
  have HB1 := hide (HB.out.trans (hb1.mono HB.out.size))
  have HQ : Hid (w.heap.size + 1 + 1 ≤ q) := by have := HSZ.out; show _ ≤ _; omega
  have HRD := hide hrr
  clear hb1 hq hrr
  have TK := hide (TakeOpM q fn1 fn2 cap1 fx (newR l) s' (V (newR l)) (HV.out _) w1 HRD.out (fun hz w2 hb2 => by
    rw [← HS.out, takeR, if_pos hz]
    exact HT.out q (newR l) w2 ((Agree.below (further HB1.out hb2)).mono fun k hk => hk.1) (fun hk => by have := HQ.out; have := hk.1; omega) (HRD.out.below hb2) hz) (fun hz => by rw [← HS.out, takeR, if_neg hz]) HC.out)
  go_upto_region 3 with (first
    | (refine wpList_store_row rfl 32 _ _ rfl w2.heap.size #[.int .i64 ki, .string nm, .int .i64 dl, .slice x1 x2 x3, .string ky, .int .i64 la, .int .i64 wo, .int .i64 tk, .slice y1 y2 y3, .int .i64 ru, .int .u64 lu, .int .i64 ti] rfl rfl 32 _ HA.out HI.out rfl HO1.out ?_)
    | (go_at_call 66; refine TK.out.mono ?_; rintro e w2 ⟨hk2, v, rfl, ⟨ki, nm, dl, x1, x2, x3, ky, la, wo, tk, y1, y2, y3, ru, lu, ti, rfl⟩, hr2, hv, hnv⟩; have HR2 := hide hr2; have HB2 := hide (HB1.out.trans (hk2.below (B := w.heap.size) (by have := HB1.out.size; omega) (fun i hi => by have := HQ.out; have : i = q := hi; omega))); have HE2 := hide (hk2.blk HE1.out (by have := HQ.out; show ¬ _ = _; omega)); have HVV := hide hv; have HNV := hide hnv; have HI : Hid ((Tryz.prog.info? 32).map (·.size) = some (#[.int .i64 ki, .string nm, .int .i64 dl, .slice x1 x2 x3, .string ky, .int .i64 la, .int .i64 wo, .int .i64 tk, .slice y1 y2 y3, .int .i64 ru, .int .u64 lu, .int .i64 ti] : Array Value).size) := sizeOp; have HO1 := hide (onesOp ki nm dl x1 x2 x3 ky la wo tk y1 y2 y3 ru lu ti); have HA := hide (heap_alloc_new w2 (.cells #[.int .i64 0, .string ⟨#[]⟩, .int .i64 0, .slice none 0 0, .string ⟨#[]⟩, .int .i64 0, .int .i64 0, .int .i64 0, .slice none 0 0, .int .i64 0, .int .u64 0, .int .i64 0] 32)); clear hk2 hr2 hv hnv d0 d1 TK HE1))
  have hx3 := setRow_heap (w2.alloc (.cells #[.int .i64 0, .string ⟨#[]⟩, .int .i64 0, .slice none 0 0, .string ⟨#[]⟩, .int .i64 0, .int .i64 0, .int .i64 0, .slice none 0 0, .int .i64 0, .int .u64 0, .int .i64 0] 32)) w2.heap.size _ #[.int .i64 ki, .string nm, .int .i64 dl, .slice x1 x2 x3, .string ky, .int .i64 la, .int .i64 wo, .int .i64 tk, .slice y1 y2 y3, .int .i64 ru, .int .u64 lu, .int .i64 ti] _ _ HA.out
  have hb3 : Below w2.heap.size w2 ((w2.alloc (.cells #[.int .i64 0, .string ⟨#[]⟩, .int .i64 0, .slice none 0 0, .string ⟨#[]⟩, .int .i64 0, .int .i64 0, .int .i64 0, .slice none 0 0, .int .i64 0, .int .u64 0, .int .i64 0] 32)).setRow w2.heap.size #[.int .i64 ki, .string nm, .int .i64 dl, .slice x1 x2 x3, .string ky, .int .i64 la, .int .i64 wo, .int .i64 tk, .slice y1 y2 y3, .int .i64 ru, .int .u64 lu, .int .i64 ti]) := ((Below.refl _ _).alloc (Nat.le_refl _) _).trans ((keep_row _ _ _).below (by simp) fun k e => by rw [e]; exact Nat.le_refl _)
  have HX3 := hide hx3
  have HR3 := hide (HR2.out.below hb3)
  have HB3 := hide (HB2.out.trans (hb3.mono HB2.out.size))
  have HE3 := hide (blkB HE2.out hb3)
  have HV3 : Hid (s'.fault = 0 → V (newR l) ((w2.alloc (.cells #[.int .i64 0, .string ⟨#[]⟩, .int .i64 0, .slice none 0 0, .string ⟨#[]⟩, .int .i64 0, .int .i64 0, .int .i64 0, .slice none 0 0, .int .i64 0, .int .u64 0, .int .i64 0] 32)).setRow w2.heap.size #[.int .i64 ki, .string nm, .int .i64 dl, .slice x1 x2 x3, .string ky, .int .i64 la, .int .i64 wo, .int .i64 tk, .slice y1 y2 y3, .int .i64 ru, .int .u64 lu, .int .i64 ti]) (.agg #[.int .i64 ki, .string nm, .int .i64 dl, .slice x1 x2 x3, .string ky, .int .i64 la, .int .i64 wo, .int .i64 tk, .slice y1 y2 y3, .int .i64 ru, .int .u64 lu, .int .i64 ti])) := fun hz => (HV.out _).stable _ _ _ (HVV.out hz) hb3
  clear hx3 hb3 HR2 HB2 HE2 HVV HA
  change Code.wp _ _ _ _ ((w2.alloc (.cells #[.int .i64 0, .string ⟨#[]⟩, .int .i64 0, .slice none 0 0, .string ⟨#[]⟩, .int .i64 0, .int .i64 0, .int .i64 0, .slice none 0 0, .int .i64 0, .int .u64 0, .int .i64 0] 32)).setRow w2.heap.size #[.int .i64 ki, .string nm, .int .i64 dl, .slice x1 x2 x3, .string ky, .int .i64 la, .int .i64 wo, .int .i64 tk, .slice y1 y2 y3, .int .i64 ru, .int .u64 lu, .int .i64 ti])
  generalize (w2.alloc (.cells #[.int .i64 0, .string ⟨#[]⟩, .int .i64 0, .slice none 0 0, .string ⟨#[]⟩, .int .i64 0, .int .i64 0, .int .i64 0, .slice none 0 0, .int .i64 0, .int .u64 0, .int .i64 0] 32)).setRow w2.heap.size #[.int .i64 ki, .string nm, .int .i64 dl, .slice x1 x2 x3, .string ky, .int .i64 la, .int .i64 wo, .int .i64 tk, .slice y1 y2 y3, .int .i64 ru, .int .u64 lu, .int .i64 ti] = w3 at *
  generalize w2.heap.size = xb at *
  go_wp2_with fail
  refine (End_any q s' _ HR3.out).mono ?_
  rintro e w4 ⟨rfl, hb4⟩
  rw [HRR.out]
  have HB4 := hide (HB3.out.trans (hb4.mono HB3.out.size))
  have HX4 := hide (blkB HX3.out hb4)
  have HE4 := hide (blkB HE3.out hb4)
  have HV4 : Hid (s'.fault = 0 → V (newR l) w4 (.agg #[.int .i64 ki, .string nm, .int .i64 dl, .slice x1 x2 x3, .string ky, .int .i64 la, .int .i64 wo, .int .i64 tk, .slice y1 y2 y3, .int .i64 ru, .int .u64 lu, .int .i64 ti])) := fun hz => (HV.out _).stable _ _ _ (HV3.out hz) hb4
  clear hb4 HB3 HX3 HE3 HV3 HR3
  by_cases hz : r = 0
  · subst hz
    go_wp2_with (first
      | (refine wpList_load_row rfl 32 _ rfl xb rfl 32 #[.int .i64 ki, .string nm, .int .i64 dl, .slice x1 x2 x3, .string ky, .int .i64 la, .int .i64 wo, .int .i64 tk, .slice y1 y2 y3, .int .i64 ru, .int .u64 lu, .int .i64 ti] (0, 0) _ HX4.out Tryz.underlying32 rfl HI.out ?_)
      | (refine wpList_store_row rfl 32 _ _ rfl (w.heap.size + 1) #[.int .i64 ki, .string nm, .int .i64 dl, .slice x1 x2 x3, .string ky, .int .i64 la, .int .i64 wo, .int .i64 tk, .slice y1 y2 y3, .int .i64 ru, .int .u64 lu, .int .i64 ti] rfl rfl 32 _ HE4.out HI.out rfl HO1.out ?_))
    have HX := hide (setRow_heap _ (w.heap.size + 1) _ #[.int .i64 ki, .string nm, .int .i64 dl, .slice x1 x2 x3, .string ky, .int .i64 la, .int .i64 wo, .int .i64 tk, .slice y1 y2 y3, .int .i64 ru, .int .u64 lu, .int .i64 ti] _ _ HE4.out)
    have HK := hide (keep_row w4 (w.heap.size + 1) #[.int .i64 ki, .string nm, .int .i64 dl, .slice x1 x2 x3, .string ky, .int .i64 la, .int .i64 wo, .int .i64 tk, .slice y1 y2 y3, .int .i64 ru, .int .u64 lu, .int .i64 ti])
    exact bodyPost_ret (restOp rfl _ _ (w.heap.size + 1) _ rfl rfl HX.out) rfl ⟨_, rfl, ⟨_, _, _, _, _, _, _, _, _, _, _, _, _, _, _, _, rfl⟩, StableT.row (HV.out _) (HV4.out (endR_ok HRR.out)) HE4.out _, HB4.out.trans (HK.out.below (by have := HB4.out.size; omega) fun i e => by have e : i = _ := e; omega)⟩
  · have hzz : ((r : Int) == 0) = false := by simpa using hz
    have HZ := hide hz
    clear hz
    have HA5 := hide (heap_alloc_new w4 (.cells #[.int .i64 0, .string ⟨#[]⟩, .int .i64 0, .slice none 0 0, .string ⟨#[]⟩, .int .i64 0, .int .i64 0, .int .i64 0, .slice none 0 0, .int .i64 0, .int .u64 0, .int .i64 0] 32))
    have hbA : Below w4.heap.size w4 (w4.alloc (.cells #[.int .i64 0, .string ⟨#[]⟩, .int .i64 0, .slice none 0 0, .string ⟨#[]⟩, .int .i64 0, .int .i64 0, .int .i64 0, .slice none 0 0, .int .i64 0, .int .u64 0, .int .i64 0] 32)) := (Below.refl _ _).alloc (Nat.le_refl _) _
    have HE5 := hide (blkB HE4.out hbA)
    have HB5 := hide (HB4.out.trans (hbA.mono HB4.out.size))
    clear hbA
    go_wp2_with (first
      | (refine wpList_load_row rfl 32 _ rfl w4.heap.size rfl 32 #[.int .i64 0, .string ⟨#[]⟩, .int .i64 0, .slice none 0 0, .string ⟨#[]⟩, .int .i64 0, .int .i64 0, .int .i64 0, .slice none 0 0, .int .i64 0, .int .u64 0, .int .i64 0] (0, 0) _ HA5.out Tryz.underlying32 rfl HIZ.out ?_)
      | (refine wpList_store_row rfl 32 _ _ rfl (w.heap.size + 1) #[.int .i64 0, .string ⟨#[]⟩, .int .i64 0, .slice none 0 0, .string ⟨#[]⟩, .int .i64 0, .int .i64 0, .int .i64 0, .slice none 0 0, .int .i64 0, .int .u64 0, .int .i64 0] rfl rfl 32 _ HE5.out HIZ.out rfl HOZ.out ?_))
    have HX := hide (setRow_heap _ (w.heap.size + 1) _ #[.int .i64 0, .string ⟨#[]⟩, .int .i64 0, .slice none 0 0, .string ⟨#[]⟩, .int .i64 0, .int .i64 0, .int .i64 0, .slice none 0 0, .int .i64 0, .int .u64 0, .int .i64 0] _ _ HE5.out)
    have HK := hide (keep_row (w4.alloc (.cells #[.int .i64 0, .string ⟨#[]⟩, .int .i64 0, .slice none 0 0, .string ⟨#[]⟩, .int .i64 0, .int .i64 0, .int .i64 0, .slice none 0 0, .int .i64 0, .int .u64 0, .int .i64 0] 32)) (w.heap.size + 1) #[.int .i64 0, .string ⟨#[]⟩, .int .i64 0, .slice none 0 0, .string ⟨#[]⟩, .int .i64 0, .int .i64 0, .int .i64 0, .slice none 0 0, .int .i64 0, .int .u64 0, .int .i64 0])
    exact bodyPost_ret (restOp rfl _ _ (w.heap.size + 1) _ rfl rfl HX.out) rfl ⟨_, rfl, ⟨_, _, _, _, _, _, _, _, _, _, _, _, _, _, _, _, rfl⟩, fun h => absurd h HZ.out, fun _ => rfl, HB5.out.trans (HK.out.below (by have := HB5.out.size; omega) fun i e => by have e : i = _ := e; omega)⟩
theorem MakeOpM (fn1 fn2 : FuncId) (cap1 : Array Value) (fx : Value) (w : World) :
    Calls Tryz.prog 49 #[.func (.func fn1) #[] cap1, .func (.func fn2) #[fx] #[]] w fun en w' => en = .returned (.agg #[.func (.func fn1) #[] cap1, .func (.func fn2) #[fx] #[]]) ∧ Below w.heap.size w w' := by
  go_enter Tryz.func49, Tryz.ntmps49
  go_wp2
  simp [bodyPost, results, Tryz.results49, go_sem]
  exact (Below.refl _ _).alloc (Nat.le_refl _) _
end Cd
end Go.Proofs.YtbjcckfhfbjchaaGreat
