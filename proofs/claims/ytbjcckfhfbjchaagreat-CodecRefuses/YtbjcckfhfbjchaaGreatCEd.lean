import Derived.Test.YtbjcckfhfbjchaaGreatCEb
import Derived.Deep.RegionHeld3
/- Codec: Plans, a plan put that may be, a plan taken that may be. -/
namespace Go.Proofs.YtbjcckfhfbjchaaGreat
namespace Cd
open Go.RowKit Go.Deep

variable {F : Nat} {bf : Nat × Nat}
/-- the form of plans, in memory -/
structure QF (F : Nat) (w : World) (b : Nat) : Prop where
  ex : ∃ b1 b2 b3, w.heap[b]? = some (.cells (pF b1 b2 b3) 73 (0, 0)) ∧ PF F w b1 b2 b3
  hb : F ≤ b
theorem QF.keep {w w' : World} {b : Nat} (h : QF F w b) (kk : Keep (fun _ => False) w w') : QF F w' b := by
  obtain ⟨b1, b2, b3, h1, h2⟩ := h.ex
  exact ⟨⟨b1, b2, b3, kk.blk h1 (fun f => f), h2.keep kk⟩, h.hb⟩
theorem QF.mono {F' : Nat} {w : World} {b : Nat} (h : QF F w b) (hF : F' ≤ F) : QF F' w b := by
  obtain ⟨b1, b2, b3, h1, h2⟩ := h.ex
  exact ⟨⟨b1, b2, b3, h1, h2.mono hF⟩, Nat.le_trans hF h.hb⟩
theorem QF.off {w w' : World} {b g : Nat} {t : TypeId} (h : QF F w b) (hg : w.heap[g]? = some (.cells #[.nilFunc, .nilFunc] t (0, 0))) (kk : Keep (fun k => k = g) w w') : QF F w' b := by
  obtain ⟨b1, b2, b3, h1, h2⟩ := h.ex
  exact ⟨⟨b1, b2, b3, kk.blk h1 (nil_blk hg h1 (by intro e; cases e)), h2.off hg kk⟩, h.hb⟩
def qF (b : Nat) : Array Value := #[.func (.func 71) #[] #[.pointer (some ⟨b, 0, none⟩)], .func (.func 73) #[] #[.pointer (some ⟨b, 0, none⟩)]]
theorem sizeFP : (Tryz.prog.info? 73).map (·.size) = some 2 := by kernel_rfl
set_option maxRecDepth 10000 in
set_option maxHeartbeats 4000000 in
theorem Plans_any (w : World) :
    Calls Tryz.prog 36 #[] w fun en w' => ∃ b, en = .returned (.agg (qF b)) ∧ QF w.heap.size w' b ∧ Below w.heap.size w w' := by
  have hmf : ∀ (fn : Fn) (first cap : Array Value) (w : World), (Instr.makeFunc fn first cap).run Tryz.prog w = .ok (.func fn first cap) w := fun _ _ _ _ => rfl
  go_enter Tryz.func36, Tryz.ntmps36
  go_upto_region 1 with fail
  have hb0 : Below w.heap.size w (w.alloc (.cells #[.nilFunc, .nilFunc] 73)) := (Below.refl _ _).alloc (Nat.le_refl _) _
  have hx0 := heap_alloc_new w (.cells #[.nilFunc, .nilFunc] 73)
  generalize w.alloc (.cells #[.nilFunc, .nilFunc] 73) = w0 at *
  have hz0 := blk_lt hx0
  have HX0 := hide hx0
  clear hx0
  go_wp2_with fail
  refine (planFields_any _).mono ?_
  rintro e w1 ⟨b1, b2, b3, rfl, hp, hb1⟩
  have HP := hide (hp.mono hb0.size)
  have HB1 := hide hb1
  clear hp hb1
  obtain ⟨y1, y4, y7⟩ := st1 w1 73 #[.nilFunc, .nilFunc] (pF b1 b2 b3)
  have Y1 := hide y1
  have Y4 := hide y4
  have Y7 := hide y7
  clear y1 y4 y7
  have hO1 : Hid ((pF b1 b2 b3).all (·.oneCell') = true) := oneF _ _ rfl rfl
  go_upto_region 2 with (refine wpList_store_row rfl 73 _ _ rfl w1.heap.size (pF b1 b2 b3) rfl rfl 73 _ Y1.out sizeFP rfl hO1.out ?_)
  have hQ : QF w.heap.size _ w1.heap.size := ⟨⟨b1, b2, b3, Y4.out, HP.out.keep (below_keep Y7.out (Nat.le_refl _))⟩, Nat.le_trans hb0.size HB1.out.size⟩
  have HQ := hide hQ
  have BB := hide (HB1.out.trans (Y7.out.mono HB1.out.size))
  clear Y1 Y4 Y7 HP HB1 hO1 hQ
  change Code.wp _ _ _ _ ((w1.alloc (.cells #[.nilFunc, .nilFunc] 73)).setRow w1.heap.size (pF b1 b2 b3))
  generalize (w1.alloc (.cells #[.nilFunc, .nilFunc] 73)).setRow w1.heap.size (pF b1 b2 b3) = w2 at *
  generalize w1.heap.size = q1 at *
  go_wp2_with fail
  refine (MakePn _ _ _ _ _).mono ?_
  rintro e w11 ⟨rfl, hb11⟩
  have HN11 := hide (HQ.out.keep (below_keep hb11 (Nat.le_refl _)))
  have BB11 := hide (BB.out.trans (hb11.mono BB.out.size))
  have hx := (BB11.out.block w.heap.size hz0).trans HX0.out
  have HX := hide hx
  have f0 := cell_blk hx 0 rfl
  have f1 := cell_blk hx 1 rfl
  have z0 := frozen_blk hx 0
  have z1 := frozen_blk hx 1
  clear hb11 hx HQ BB HX0
  go_wp2_with fail
  have hks := set2_keep w11 w.heap.size (.func (.func 71) #[] #[.pointer (some ⟨q1, 0, none⟩)]) (.func (.func 73) #[] #[.pointer (some ⟨q1, 0, none⟩)])
  refine bodyPost_ret (results_cell_row rfl _ _ w.heap.size 73 (qF q1) (0, 0) _ rfl (set2_blk HX.out) Tryz.underlying73 rfl (by kernel_rfl)) rfl ?_
  exact ⟨q1, rfl, HN11.out.off HX.out hks, (hb0.trans (BB11.out.mono hb0.size)).trans (hks.below (by have := BB11.out.size; have := hb0.size; omega) fun i e => by have e : i = _ := e; omega)⟩
theorem rdz_ag {wf W : World} (hw : bf.1 ≤ wf.heap.size) (ha : Agree (Lo bf wf) wf W) {s : Option Addr × Nat × Nat} {z : List Int} (h : Gr.RdZ bf.1 wf s z) : Gr.RdZ W.heap.size W s z :=
  ⟨h.1, h.2.1, h.2.2.imp id fun ⟨g, off, e, hg, hc⟩ => ⟨g, off, e, ha.lt ⟨Nat.lt_of_lt_of_le hg hw, .inl hg⟩, fun j x hx => ha.cell (hc j x hx) ⟨Nat.lt_of_lt_of_le hg hw, .inl hg⟩⟩⟩
theorem rdp_ag {wf W : World} (hw : bf.1 ≤ wf.heap.size) (ha : Agree (Lo bf wf) wf W) {s : Option Addr × Nat × Nat} {xs : List Gr.No} (h : Gr.RdP bf.1 wf s xs) : Gr.RdP W.heap.size W s xs :=
  ⟨h.1, h.2.1, h.2.2.1.imp id fun ⟨g, off, e, hg, hc⟩ => ⟨g, off, e, ha.lt ⟨Nat.lt_of_lt_of_le hg hw, .inl hg⟩, fun i x hx j u hu => ha.cell (hc i x hx j u hu) ⟨Nat.lt_of_lt_of_le hg hw, .inl hg⟩⟩, fun x hx => ⟨rdz_ag hw ha (h.2.2.2 x hx).1, rdz_ag hw ha (h.2.2.2 x hx).2⟩⟩
/-- a plan's field put, with a block beside the writer -/
theorem fputPn {wf w0 W : World} {S : Nat → Prop} {p bx : Nat} {fn1 fn2 : FuncId} {cap1 cap2 : Array Value} {nm : ByteArray} {dl : Int} {x1 : Option Addr} {x2 x3 : Nat} {f : K.WS → K.WS} {s : K.WS} {cs : Array Value} {t : TypeId} (ha : Agree (Lo bf wf) wf w0) (hd : ∀ k, Lo bf wf k → ¬ S k) (h : WAt S w0 p s W) (hp : PutsG (Lo bf wf) wf fn1 cap1 (.agg #[.string nm, .int .i64 dl, .slice x1 x2 x3]) f)
    (he : ∀ args w, (callFunc fn1 args).run Tryz.prog w = .ok (.enter fn1 args) w) (hb : W.heap[bx]? = some (.cells cs t (0, 0))) (h1 : t ≠ 128) (h2 : t ≠ 5) :
    Calls Tryz.prog 53 #[.agg #[.func (.func fn1) #[] cap1, .func (.func fn2) #[] cap2], .pointer (some ⟨p, 0, none⟩), .agg #[.string nm, .int .i64 dl, .slice x1 x2 x3]] W fun en w' => en = .returned (.tuple #[]) ∧ WAt S w0 p (putW f s) w' ∧ w'.heap[bx]? = some (.cells cs t (0, 0)) := by
  obtain ⟨v, hv, hw2, hs⟩ := h.rebase
  refine (PutPn (Wset p v) W p fn1 fn2 cap1 cap2 nm dl x1 x2 x3 f s _ hw2 (hp p _ W (ha.keep h.keep hd) (disjoint_step ha hd hs)) he).mono ?_
  rintro e w' ⟨rfl, h3⟩
  exact ⟨rfl, h.step hs h3, h3.keep.blk hb (hv.not hb h1 h2)⟩
set_option maxRecDepth 10000 in
set_option maxHeartbeats 2000000 in
theorem putPlans (wf w0 : World) (b : Nat) (hF : QF bf.2 wf b) (nm : ByteArray) (dl : Int) (x1 : Option Addr) (x2 x3 : Nat) (xs : List Gr.No) (hw : bf.1 ≤ wf.heap.size) (h1 : Gr.RdP bf.1 wf (x1, x2, x3) xs) (hs : Gr.Sz nm xs) (hok : (Gr.chk nm dl xs).2 = 0 → POk nm dl xs) (p : Nat) (S : Nat → Prop) (ha : Agree (Lo bf wf) wf w0) (hd : ∀ k, Lo bf wf k → ¬ S k) (W : World) (s : K.WS) (h : WAt S w0 p s W) (hz : s.fault = 0) :
    Calls Tryz.prog 71 #[.pointer (some ⟨p, 0, none⟩), .agg #[.string nm, .int .i64 dl, .slice x1 x2 x3], .pointer (some ⟨b, 0, none⟩)] W fun en w' => en = .returned (.tuple #[]) ∧ WAt S w0 p (chkW may planW (pv nm dl xs) s) w' := by
  obtain ⟨b1, b2, b3, hbl, hP⟩ := hF.ex
  have HA := hide ha
  have HD := hide hd
  have hba := (Below.refl W.heap.size W).alloc (Nat.le_refl _) (.cells #[.string nm, .int .i64 dl, .slice x1 x2 x3] 30)
  have HW0 := hide (h.below hba)
  have hx0 := heap_alloc_new W (.cells #[.string nm, .int .i64 dl, .slice x1 x2 x3] 30)
  have HX0 := hide hx0
  have MB := hide (mayBe_any nm dl (x1, x2, x3) xs _ (rdp_ag hw (HA.out.keep HW0.out.keep HD.out) h1) hs)
  have PP := hide (fun hk : (Gr.chk nm dl xs).2 = 0 => putsPlan wf b1 b2 b3 hP nm dl x1 x2 x3 xs hw h1 (hok hk))
  have HBL : Hid (∀ W, Agree (Lo bf wf) wf W → W.cell? ⟨b, 0, none⟩ = some (.func (.func 57) #[] (capP b1 b2 b3)) ∧ W.cell? ⟨b, 1, none⟩ = some (.func (.func 60) #[] (capP b1 b2 b3))) := fun W ha => lo_cells ha hbl hF.hb
  have HM : Hid (may (pv nm dl xs) = decide ((Gr.chk nm dl xs).2 = 0)) := may_pv nm dl xs
  have HZ := hide hz
  have HCW : Hid (chkW may planW (pv nm dl xs) s = if may (pv nm dl xs) = true then planW (pv nm dl xs) s else s.fail 22) := rfl
  generalize chkW may planW (pv nm dl xs) s = sE at *
  have d0 := cell_blk hx0 0 (v := .string nm) rfl
  have d1 := cell_blk hx0 1 (v := .int .i64 dl) rfl
  have d2 := cell_blk hx0 2 (v := .slice x1 x2 x3) rfl
  clear hw h ha hd hba hbl hP h1 hs hok hz hF hx0
  go_enter Tryz.func71, Tryz.ntmps71
  go_upto_region 1 with fail
  generalize W.alloc (.cells #[.string nm, .int .i64 dl, .slice x1 x2 x3] 30) = W0 at *
  generalize W.heap.size = bx at *
  obtain ⟨bb, hbb⟩ : ∃ bb, decide ((Gr.chk nm dl xs).2 = 0) = bb := ⟨_, rfl⟩
  have MB2 := MB.out
  rw [hbb] at MB2 HM
  have MBh := hide MB2
  have HBB := hide hbb
  clear MB MB2 hbb
  cases bb with
  | false =>
    have HE : Hid (s.fail 22 = sE) := by show _ = _; rw [HCW.out, HM.out]; rfl
    go_wp2_with (go_at_call 72; refine MBh.out.mono ?_; rintro e W1 ⟨rfl, k1⟩; have HW1 := hide (HW0.out.below (k1.below (Nat.le_refl _) (fun _ f => f.elim))); clear k1 d0 d1 d2 MBh)
    refine (Fail_any S w0 p s _ HW1.out).mono ?_
    rintro e W2 ⟨rfl, h2⟩
    rw [HE.out] at h2
    go_wp2
    first | go_end0 | refine bodyPost_ret (results_none rfl _ _ _) rfl ?_
    exact ⟨rfl, h2⟩
  | true =>
    have HE : Hid (planW (pv nm dl xs) s = sE) := by show _ = _; rw [HCW.out, HM.out]; rfl
    have PPh := hide (PP.out (of_decide_eq_true HBB.out))
    clear PP
    go_upto_region 3 with (go_at_call 72; refine MBh.out.mono ?_; rintro e W1 ⟨rfl, k1⟩; have HW1 := hide (HW0.out.below (k1.below (Nat.le_refl _) (fun _ f => f.elim))); have HX1 := hide (k1.blk HX0.out (fun f => f)); clear k1 d0 d1 d2 MBh)
    obtain ⟨c0, c1⟩ := HBL.out W1 (HA.out.keep HW1.out.keep HD.out)
    have d0 := cell_blk HX1.out 0 (v := .string nm) rfl
    have d1 := cell_blk HX1.out 1 (v := .int .i64 dl) rfl
    have d2 := cell_blk HX1.out 2 (v := .slice x1 x2 x3) rfl
    have C0 := hide (fputPn (fn2 := 60) (cap2 := capP b1 b2 b3) HA.out HD.out HW1.out PPh.out ent_putPlan HX1.out (by decide) (by decide))
    clear PPh
    go_wp2_with (go_at_call 53; refine C0.out.mono ?_; rintro e W2 ⟨rfl, h, hx⟩; have HW2 := hide h; clear h hx c0 c1 d0 d1 d2 C0)
    go_end0
    refine ⟨rfl, ?_⟩
    have := HW2.out
    rw [putW_zero HZ.out, HE.out] at this
    exact this
theorem ent_putPlans (args : Array Value) (w : World) : (callFunc 71 args).run Tryz.prog w = .ok (.enter 71 args) w :=
  callFunc_enter Tryz.func71 (by kernel_rfl) (by kernel_rfl) args w
theorem putsPlans (wf : World) (b : Nat) (hF : QF bf.2 wf b) (nm : ByteArray) (dl : Int) (x1 : Option Addr) (x2 x3 : Nat) (xs : List Gr.No) (hw : bf.1 ≤ wf.heap.size) (h1 : Gr.RdP bf.1 wf (x1, x2, x3) xs) (hs : Gr.Sz nm xs) (hok : (Gr.chk nm dl xs).2 = 0 → POk nm dl xs) :
    PutsG (Lo bf wf) wf 71 #[.pointer (some ⟨b, 0, none⟩)] (.agg #[.string nm, .int .i64 dl, .slice x1 x2 x3]) (chkW may planW (pv nm dl xs)) :=
  fun p S w1 ha hd w2 s h hz => putPlans wf w1 b hF nm dl x1 x2 x3 xs hw h1 hs hok p S ha hd w2 s h hz
theorem rr_byt {w : World} {q : Nat} {s : K.RS} (h : Rr w q s) : Byt s := by
  obtain ⟨a, c, _, hr, _⟩ := h.ex
  exact hr.2.2.1
/-- no plan without nodes may be -/
theorem chk_nil (nm : ByteArray) (dl : Int) : (Gr.chk nm dl []).2 ≠ 0 := fun h => by
  have h1 := (Gr.chk_ok h).2.2.1
  simp at h1
theorem fail_at {s : K.RS} (h : s.fault ≠ 0) (e : Nat) : s.fail e = s := by
  unfold K.RS.fail
  rw [if_neg h]
set_option maxRecDepth 10000 in
set_option maxHeartbeats 4000000 in
theorem takePlans (wf w0 : World) (b : Nat) (hF : QF bf.2 wf b) (q : Nat) (s : K.RS) (ha : Agree (Lo bf wf) wf w0) (hq : ¬ Lo bf wf q) (h : Rr w0 q s) (hz : s.fault = 0) :
    TakesF w0 q 73 #[.pointer (some ⟨b, 0, none⟩)] (chkR may planR planVal s) (planV s) ShPn := by
  obtain ⟨b1, b2, b3, hbl, hP⟩ := hF.ex
  have hk := planVal_k (s := s) (rr_byt h)
  have HPK := hide hk
  have HQ0 := hide h.lt
  obtain ⟨c0, c1⟩ := lo_cells ((ha.keep (Keep.alloc (fun _ => False) w0 (.cells #[.string ⟨#[]⟩, .int .i64 0, .slice none 0 0] 30)) (fun _ _ f => f))) hbl hF.hb
  have hba := (Below.refl w0.heap.size w0).alloc (Nat.le_refl _) (.cells #[.string ⟨#[]⟩, .int .i64 0, .slice none 0 0] 30)
  have HE0 := hide (heap_alloc_new w0 (.cells #[.string ⟨#[]⟩, .int .i64 0, .slice none 0 0] 30))
  have HR0 := hide (h.below hba)
  have HK0 := hide (Keep.ofBelow (S := fun k => k = q) hba (Nat.le_refl _))
  have HZ := hide hz
  have TKf := fun w1 (hb : Below (w0.alloc (.cells #[.string ⟨#[]⟩, .int .i64 0, .slice none 0 0] 30)).heap.size (w0.alloc (.cells #[.string ⟨#[]⟩, .int .i64 0, .slice none 0 0] 30)) w1) => takesPlan wf b1 b2 b3 hP q s w1 (ha.keep (HK0.out.trans (T := fun _ => False) (Keep.ofBelow hb (Nat.le_refl _)) fun _ f => f.elim) fun j hj e => hq (e ▸ hj)) hq (HR0.out.below hb) hz
  have TK := hide (TakePn q 57 60 (capP b1 b2 b3) (capP b1 b2 b3) s (planR s) (planV s) (by
    intro w1 w2 v S hv hk hS
    obtain ⟨a, n, c, e, hn⟩ := hv
    exact ⟨a, n, c, e, stable_Ns (T := 30) (by decide) (by decide) _ _ _ _ _ hn hk hS⟩) _ HR0.out (fun _ w1 hb => TKf w1 hb) (fun h => absurd hz h) ent_takePlan)
  have HCR : Hid (chkR may planR planVal s = if (planR s).fault = 0 ∧ may (planVal s) = false then (planR s).fail 22 else planR s) := rfl
  generalize chkR may planR planVal s = sE at *
  generalize hs1 : planR s = s1 at *
  clear h ha hq hba hbl hP hz hF hk hs1 TKf
  unfold TakesF
  show Calls Tryz.prog 73 #[.pointer (some ⟨q, 0, none⟩), .pointer (some ⟨b, 0, none⟩)] w0 _
  go_enter Tryz.func73, Tryz.ntmps73
  go_upto_region 1 with fail
  generalize w0.alloc (.cells #[.string ⟨#[]⟩, .int .i64 0, .slice none 0 0] 30) = W0 at *
  generalize hbz : w0.heap.size = bz at *
  have HBZ := hide hbz
  clear hbz
  go_upto_region 2 with (first
    | (refine wpList_store_row rfl 30 _ _ rfl W1.heap.size #[.string nm, .int .i64 dl, .slice x1 x2 x3] rfl rfl 30 _ HA1.out HI.out rfl HO1.out ?_)
    | (go_at_call 70; refine TK.out.mono ?_; rintro e W1 ⟨hk1, v, rfl, ⟨nm, dl, x1, x2, x3, rfl⟩, hr1, hv1, hn1⟩; have HK1 := hide (HK0.out.more hk1); have HE1 := hide (hk1.blk HE0.out (ne_rdP HR0.out HE0.out)); have HR1 := hide hr1; have HV1 := hide hv1; have HN1 := hide hn1; have HI : Hid ((Tryz.prog.info? 30).map (·.size) = some (#[.string nm, .int .i64 dl, .slice x1 x2 x3] : Array Value).size) := sizePn; have HO1 := hide (onesPn nm dl x1 x2 x3); have HA1 := hide (heap_alloc_new W1 (.cells #[.string ⟨#[]⟩, .int .i64 0, .slice none 0 0] 30)); clear hk1 hr1 hv1 hn1 c0 c1 TK HK0 HE0 HR0))
  have hx2 := setRow_heap (W1.alloc (.cells #[.string ⟨#[]⟩, .int .i64 0, .slice none 0 0] 30)) W1.heap.size _ #[.string nm, .int .i64 dl, .slice x1 x2 x3] _ _ HA1.out
  have hb2 : Below W1.heap.size W1 ((W1.alloc (.cells #[.string ⟨#[]⟩, .int .i64 0, .slice none 0 0] 30)).setRow W1.heap.size #[.string nm, .int .i64 dl, .slice x1 x2 x3]) := ((Below.refl _ _).alloc (Nat.le_refl _) _).trans ((keep_row _ _ _).below (by simp) fun k e => by rw [e]; exact Nat.le_refl _)
  have HX2 := hide hx2
  have HR2 := hide (HR1.out.below hb2)
  have HK2 := hide (HK1.out.trans (T := fun _ => False) (Keep.ofBelow hb2 (Nat.le_refl _)) fun _ f => f.elim)
  have HE2 := hide (blkB HE1.out hb2)
  have HV2 : Hid (s1.fault = 0 → planV s ((W1.alloc (.cells #[.string ⟨#[]⟩, .int .i64 0, .slice none 0 0] 30)).setRow W1.heap.size #[.string nm, .int .i64 dl, .slice x1 x2 x3]) (.agg #[.string nm, .int .i64 dl, .slice x1 x2 x3])) := fun hz => by
    obtain ⟨a, n, c, e, hn⟩ := HV1.out hz
    exact ⟨a, n, c, e, (stable_Ns (T := 30) (by decide) (by decide) _).stable _ _ _ hn hb2⟩
  clear hx2 hb2 HR1 HK1 HE1 HV1 HA1
  change Code.wp _ _ _ _ ((W1.alloc (.cells #[.string ⟨#[]⟩, .int .i64 0, .slice none 0 0] 30)).setRow W1.heap.size #[.string nm, .int .i64 dl, .slice x1 x2 x3])
  generalize (W1.alloc (.cells #[.string ⟨#[]⟩, .int .i64 0, .slice none 0 0] 30)).setRow W1.heap.size #[.string nm, .int .i64 dl, .slice x1 x2 x3] = W2 at *
  generalize W1.heap.size = xb at *
  have hmb : Calls Tryz.prog 72 #[.agg #[.string nm, .int .i64 dl, .slice x1 x2 x3]] W2 fun e w' => e = .returned (.bool (decide (s1.fault = 0 ∧ may (planVal s) = true))) ∧ Keep (fun _ => False) W2 w' := by
    by_cases hf : s1.fault = 0
    · obtain ⟨a, n, c, xs, e, hrd, her, _⟩ := PlV.rd (HV2.out hf) HPK.out
      have hsz := sz_of HPK.out her
      have hm := may_rd her
      rw [e]
      refine (mayBe_any _ _ (a, n, c) xs W2 hrd hsz).mono ?_
      rintro e w' ⟨rfl, k⟩
      refine ⟨?_, k⟩
      rw [hm]
      by_cases h0 : (Gr.chk (str (planVal s).1.1) (planVal s).1.2 xs).2 = 0
      · simp [h0, hf]
      · simp [h0]
    · have e := HN1.out hf
      injection e with e
      rw [e]
      refine (mayBe_any ⟨#[]⟩ 0 (none, 0, 0) [] W2 ⟨rfl, by decide, .inl rfl, fun x hx => by cases hx⟩ ⟨by decide, fun x hx => by cases hx⟩).mono ?_
      rintro e w' ⟨rfl, k⟩
      refine ⟨?_, k⟩
      have := chk_nil ⟨#[]⟩ 0
      simp [this, hf]
  have d0 := cell_blk HX2.out 0 (v := .string nm) rfl
  have d1 := cell_blk HX2.out 1 (v := .int .i64 dl) rfl
  have d2 := cell_blk HX2.out 2 (v := .slice x1 x2 x3) rfl
  obtain ⟨bb, hbb⟩ : ∃ bb, decide (s1.fault = 0 ∧ may (planVal s) = true) = bb := ⟨_, rfl⟩
  rw [hbb] at hmb
  have MB := hide hmb
  have HBB := hide hbb
  have HSt : Hid (∀ w1 w2 v S, planV s w1 v → Keep S w1 w2 → (∀ k, S k → ∃ cs t, w1.heap[k]? = some (.cells cs t (0, 0)) ∧ (t = 136 ∨ t = 30)) → planV s w2 v) := by
    intro w1 w2 v S hv hk hS
    obtain ⟨a, n, c, e, hn⟩ := hv
    exact ⟨a, n, c, e, stable_Ns (T := 30) (by decide) (by decide) _ _ _ _ _ hn hk hS⟩
  clear hmb hbb
  cases bb with
  | true =>
    have hfm := of_decide_eq_true HBB.out
    have HE : Hid (s1 = sE) := by show _ = _; rw [HCR.out, if_neg (by rw [hfm.2]; simp)]
    have HF0 := hide hfm.1
    clear hfm
    go_upto_region 4 with (go_at_call 72; refine MB.out.mono ?_; rintro e W3 ⟨rfl, k3⟩; have HX3 := hide (k3.blk HX2.out (fun f => f)); have HE3 := hide (k3.blk HE2.out (fun f => f)); have HR3 := hide (HR2.out.below (k3.below (Nat.le_refl _) (fun _ f => f.elim))); have HK3 := hide (HK2.out.trans k3 fun _ f => f.elim); have HV3 : Hid (planV s W3 (.agg #[.string nm, .int .i64 dl, .slice x1 x2 x3])) := HSt.out _ _ _ _ (HV2.out HF0.out) k3 (fun _ f => f.elim); clear k3 d0 d1 d2 MB)
    go_wp2_with (first
      | (refine wpList_load_row rfl 30 _ rfl xb rfl 30 #[.string nm, .int .i64 dl, .slice x1 x2 x3] (0, 0) _ HX3.out Tryz.underlying30 rfl HI.out ?_)
      | (refine wpList_store_row rfl 30 _ _ rfl bz #[.string nm, .int .i64 dl, .slice x1 x2 x3] rfl rfl 30 _ HE3.out HI.out rfl HO1.out ?_))
    have HX := hide (setRow_heap _ bz _ #[.string nm, .int .i64 dl, .slice x1 x2 x3] _ _ HE3.out)
    have HK := hide (keep_row W3 bz #[.string nm, .int .i64 dl, .slice x1 x2 x3])
    rw [← HE.out]
    exact bodyPost_ret (resPn rfl _ _ bz _ rfl rfl HX.out) rfl ⟨HK3.out.trans HK.out (fun i e => .inr (by have := HBZ.out; have e : i = _ := e; omega)), _, rfl, ⟨_, _, _, _, _, rfl⟩, HR3.out.stay HK.out (fun j hj e => by have := HQ0.out; have := HBZ.out; have e : j = _ := e; omega), fun _ => HSt.out _ _ _ _ HV3.out HK.out (fun j e => ⟨_, _, e ▸ HE3.out, .inr rfl⟩)⟩
  | false =>
    have hfm := of_decide_eq_false HBB.out
    have HE : Hid (s1.fail 22 = sE) := by
      show _ = _
      rw [HCR.out]
      by_cases hf : s1.fault = 0
      · have hm : may (planVal s) = false := by
          cases h : may (planVal s) with
          | false => rfl
          | true => exact absurd ⟨hf, h⟩ hfm
        rw [if_pos ⟨hf, hm⟩]
      · rw [if_neg (fun h => hf h.1), fail_at hf]
    have HFE : Hid (sE.fault ≠ 0) := by
      show _ ≠ _
      rw [← HE.out]
      unfold K.RS.fail
      split
      · show (22 : Nat) ≠ 0
        decide
      · assumption
    clear hfm
    go_wp2_with (go_at_call 72; refine MB.out.mono ?_; rintro e W3 ⟨rfl, k3⟩; have HX3 := hide (k3.blk HX2.out (fun f => f)); have HE3 := hide (k3.blk HE2.out (fun f => f)); have HR3 := hide (HR2.out.below (k3.below (Nat.le_refl _) (fun _ f => f.elim))); have HK3 := hide (HK2.out.trans k3 fun _ f => f.elim); clear k3 d0 d1 d2 MB)
    refine (rFail_any q s1 _ HR3.out).mono ?_
    rintro e W4 ⟨rfl, hr4, k4⟩
    rw [HE.out] at hr4
    have HX4 := hide (k4.blk HX3.out (ne_rdP HR3.out HX3.out))
    have HE4 := hide (k4.blk HE3.out (ne_rdP HR3.out HE3.out))
    have HR4 := hide hr4
    have HK4 := hide (HK3.out.more k4)
    clear hr4 k4
    go_wp2_with (first
      | (refine wpList_load_row rfl 30 _ rfl xb rfl 30 #[.string nm, .int .i64 dl, .slice x1 x2 x3] (0, 0) _ HX4.out Tryz.underlying30 rfl HI.out ?_)
      | (refine wpList_store_row rfl 30 _ _ rfl bz #[.string nm, .int .i64 dl, .slice x1 x2 x3] rfl rfl 30 _ HE4.out HI.out rfl HO1.out ?_))
    have HX := hide (setRow_heap _ bz _ #[.string nm, .int .i64 dl, .slice x1 x2 x3] _ _ HE4.out)
    have HK := hide (keep_row W4 bz #[.string nm, .int .i64 dl, .slice x1 x2 x3])
    exact bodyPost_ret (resPn rfl _ _ bz _ rfl rfl HX.out) rfl ⟨HK4.out.trans HK.out (fun i e => .inr (by have := HBZ.out; have e : i = _ := e; omega)), _, rfl, ⟨_, _, _, _, _, rfl⟩, HR4.out.stay HK.out (fun j hj e => by have := HQ0.out; have := HBZ.out; have e : j = _ := e; omega), fun hz => absurd hz HFE.out⟩
theorem ent_takePlans (args : Array Value) (w : World) : (callFunc 73 args).run Tryz.prog w = .ok (.enter 73 args) w :=
  callFunc_enter Tryz.func73 (by kernel_rfl) (by kernel_rfl) args w
theorem takesPlans (wf : World) (b : Nat) (hF : QF bf.2 wf b) : TakesFG (Lo bf wf) wf 73 #[.pointer (some ⟨b, 0, none⟩)] (chkR may planR planVal) planV ShPn :=
  fun q s w1 ha hq h hz => takePlans wf w1 b hF q s ha hq h hz
end Cd
end Go.Proofs.YtbjcckfhfbjchaaGreat

/- Codec: PlanBytes, ReadPlan. -/
namespace Go.Proofs.YtbjcckfhfbjchaaGreat
namespace Cd
open Go.RowKit Go.Deep

theorem stable_plan (s : K.RS) : StableT 30 (planV s) := by
  intro w1 w2 v S hv hk hS
  obtain ⟨a, n, c, e, hn⟩ := hv
  exact ⟨a, n, c, e, stable_Ns (T := 30) (by decide) (by decide) _ _ _ _ _ hn hk hS⟩
/-- what ReadPlan comes to -/
noncomputable def planE (l : List Nat) : Nat := endR (takeR (chkR may planR planVal) (newR l))
set_option maxRecDepth 10000 in
set_option maxHeartbeats 2000000 in
theorem ReadPlan_any (a : Option Addr) (n c : Nat) (l : List Nat) (w : World) (h : Rd w a n l) (h0 : a = none → c = 0) :
    Calls Tryz.prog 15 #[.slice a n c] w fun en w' => ∃ v, en = .returned (.tuple #[v, .int .i64 ((if planE l = 0 then 0 else 120 : Nat) : Nat)]) ∧ ShPn v ∧ (planE l = 0 → planV (newR l) w' v) ∧ (planE l ≠ 0 → v = .agg #[.string ⟨#[]⟩, .int .i64 0, .slice none 0 0]) ∧ Below w.heap.size w w' := by
  have hb0 : Below w.heap.size w (w.alloc (.cells #[.string ⟨#[]⟩, .int .i64 0, .slice none 0 0] 30)) := (Below.refl _ _).alloc (Nat.le_refl _) _
  have hx0 := heap_alloc_new w (.cells #[.string ⟨#[]⟩, .int .i64 0, .slice none 0 0] 30)
  have HE0 := hide hx0
  have HB0 := hide hb0
  have HR0 := hide (h.keep hb0)
  have H0 := hide h0
  have HIZ : Hid ((Tryz.prog.info? 30).map (·.size) = some (#[.string ⟨#[]⟩, .int .i64 0, .slice none 0 0] : Array Value).size) := sizePn
  have HOZ : Hid ((#[.string ⟨#[]⟩, .int .i64 0, .slice none 0 0] : Array Value).all (·.oneCell') = true) := by show _ = _; simp [Value.oneCell']
  obtain ⟨r, hr⟩ : ∃ r, planE l = r := ⟨_, rfl⟩
  rw [hr]
  have HRR : Hid (endR (takeR (chkR may planR planVal) (newR l)) = r) := hr
  clear h h0 hb0 hx0 hr
  go_enter Tryz.func15, Tryz.ntmps15
  go_upto_region 1 with fail
  generalize w.alloc (.cells #[.string ⟨#[]⟩, .int .i64 0, .slice none 0 0] 30) = w0 at *
  go_wp2_with fail
  refine (Plans_any _).mono ?_
  rintro e w1 ⟨b, rfl, hq, hb1⟩
  have HE1 := hide (blkB HE0.out hb1)
  have HB1 := hide (HB0.out.trans (hb1.mono HB0.out.size))
  have RP := hide (ReadPn 71 73 #[.pointer (some ⟨b, 0, none⟩)] #[.pointer (some ⟨b, 0, none⟩)] a n c l (chkR may planR planVal) planV stable_plan _ rfl r HRR.out w1 (HR0.out.keep hb1) H0.out (takesPlans (bf := (0, 0)) w1 b (hq.mono (Nat.zero_le _))) ent_takePlans)
  clear hb1 hq HE0 HR0
  go_upto_region 2 with (first
    | (refine wpList_store_row rfl 30 _ _ rfl w2.heap.size #[.string nm, .int .i64 dl, .slice x1 x2 x3] rfl rfl 30 _ HA2.out HI.out rfl HO1.out ?_)
    | (go_at_call 35; refine RP.out.mono ?_; rintro e w2 ⟨v, rfl, ⟨nm, dl, x1, x2, x3, rfl⟩, hv, hn, hb2⟩; have HE2 := hide (blkB HE1.out hb2); have HB2 := hide (HB1.out.trans (hb2.mono HB1.out.size)); have HV2 := hide hv; have HN2 := hide hn; have HI : Hid ((Tryz.prog.info? 30).map (·.size) = some (#[.string nm, .int .i64 dl, .slice x1 x2 x3] : Array Value).size) := sizePn; have HO1 := hide (onesPn nm dl x1 x2 x3); have HA2 := hide (heap_alloc_new w2 (.cells #[.string ⟨#[]⟩, .int .i64 0, .slice none 0 0] 30)); clear hv hn hb2 RP HE1))
  have hx3 := setRow_heap (w2.alloc (.cells #[.string ⟨#[]⟩, .int .i64 0, .slice none 0 0] 30)) w2.heap.size _ #[.string nm, .int .i64 dl, .slice x1 x2 x3] _ _ HA2.out
  have hb3 : Below w2.heap.size w2 ((w2.alloc (.cells #[.string ⟨#[]⟩, .int .i64 0, .slice none 0 0] 30)).setRow w2.heap.size #[.string nm, .int .i64 dl, .slice x1 x2 x3]) := ((Below.refl _ _).alloc (Nat.le_refl _) _).trans ((keep_row _ _ _).below (by simp) fun k e => by rw [e]; exact Nat.le_refl _)
  have HX3 := hide hx3
  have HB3 := hide (HB2.out.trans (hb3.mono HB2.out.size))
  have HE3 := hide (blkB HE2.out hb3)
  have HV3 : Hid (r = 0 → planV (newR l) ((w2.alloc (.cells #[.string ⟨#[]⟩, .int .i64 0, .slice none 0 0] 30)).setRow w2.heap.size #[.string nm, .int .i64 dl, .slice x1 x2 x3]) (.agg #[.string nm, .int .i64 dl, .slice x1 x2 x3])) := fun hz => (stable_plan _).stable _ _ _ (HV2.out hz) hb3
  clear hx3 hb3 HB2 HE2 HV2 HA2
  change Code.wp _ _ _ _ ((w2.alloc (.cells #[.string ⟨#[]⟩, .int .i64 0, .slice none 0 0] 30)).setRow w2.heap.size #[.string nm, .int .i64 dl, .slice x1 x2 x3])
  generalize (w2.alloc (.cells #[.string ⟨#[]⟩, .int .i64 0, .slice none 0 0] 30)).setRow w2.heap.size #[.string nm, .int .i64 dl, .slice x1 x2 x3] = w3 at *
  generalize w2.heap.size = xb at *
  by_cases hz : r = 0
  · subst hz
    go_wp2_with (first
      | (refine wpList_load_row rfl 30 _ rfl xb rfl 30 #[.string nm, .int .i64 dl, .slice x1 x2 x3] (0, 0) _ HX3.out Tryz.underlying30 rfl HI.out ?_)
      | (refine wpList_store_row rfl 30 _ _ rfl w.heap.size #[.string nm, .int .i64 dl, .slice x1 x2 x3] rfl rfl 30 _ HE3.out HI.out rfl HO1.out ?_))
    have HX := hide (setRow_heap _ w.heap.size _ #[.string nm, .int .i64 dl, .slice x1 x2 x3] _ _ HE3.out)
    have HK := hide (keep_row w3 w.heap.size #[.string nm, .int .i64 dl, .slice x1 x2 x3])
    exact bodyPost_ret (restPn rfl _ _ w.heap.size _ rfl rfl HX.out) rfl ⟨_, rfl, ⟨_, _, _, _, _, rfl⟩, StableT.row (stable_plan _) (HV3.out (by trivial)) HE3.out _, HB3.out.trans (HK.out.below (by have := HB3.out.size; omega) fun i e => by have e : i = _ := e; omega)⟩
  · have hzz : ((r : Int) == 0) = false := by simpa using hz
    have HZ := hide hz
    have HN3 := hide (HN2.out hz)
    clear hz
    go_wp2_with (refine wpList_store_row rfl 30 _ _ rfl w.heap.size #[.string ⟨#[]⟩, .int .i64 0, .slice none 0 0] rfl rfl 30 _ HE3.out HIZ.out rfl HOZ.out ?_)
    have HX := hide (setRow_heap _ w.heap.size _ #[.string ⟨#[]⟩, .int .i64 0, .slice none 0 0] _ _ HE3.out)
    have HK := hide (keep_row w3 w.heap.size #[.string ⟨#[]⟩, .int .i64 0, .slice none 0 0])
    exact bodyPost_ret (restPn rfl _ _ w.heap.size _ rfl rfl HX.out) rfl ⟨_, rfl, ⟨_, _, _, _, _, rfl⟩, rfl, HB3.out.trans (HK.out.below (by have := HB3.out.size; omega) fun i e => by have e : i = _ := e; omega)⟩
theorem fine_nil : Fine [] := ⟨(fun d hd => by cases hd), by simp⟩
/-- what PlanBytes comes to -/
noncomputable def planS (nm : ByteArray) (dl : Int) (xs : List Gr.No) : K.WS := planW (pv nm dl xs) ⟨[], room 8192, 0⟩
noncomputable def planB (nm : ByteArray) (dl : Int) (xs : List Gr.No) : List Nat := if (Gr.chk nm dl xs).2 = 0 then told (planS nm dl xs) else []
noncomputable def planC (nm : ByteArray) (dl : Int) (xs : List Gr.No) : Nat := if (Gr.chk nm dl xs).2 = 0 then (planS nm dl xs).fault else (Gr.chk nm dl xs).2
set_option maxRecDepth 10000 in
set_option maxHeartbeats 2000000 in
theorem PlanBytes_any (nm : ByteArray) (dl : Int) (x1 : Option Addr) (x2 x3 : Nat) (xs : List Gr.No) (w : World) (h1 : Gr.RdP w.heap.size w (x1, x2, x3) xs) (hs : Gr.Sz nm xs) (hok : (Gr.chk nm dl xs).2 = 0 → POk nm dl xs) :
    Calls Tryz.prog 12 #[.agg #[.string nm, .int .i64 dl, .slice x1 x2 x3]] w fun en w' => ∃ v, en = .returned (.tuple #[v, .int .i64 (planC nm dl xs : Nat)]) ∧ w'.ownsRow w.heap.size 5 1 v (planB nm dl xs).length (B8 (planB nm dl xs)) ∧ Below w.heap.size w w' ∧ Fine (planB nm dl xs) := by
  have kA := Keep.alloc (fun _ => False) w (.cells #[.string nm, .int .i64 dl, .slice x1 x2 x3] 30)
  have hb := heap_alloc_new w (.cells #[.string nm, .int .i64 dl, .slice x1 x2 x3] 30)
  have hbw : Below w.heap.size w (w.alloc (.cells #[.string nm, .int .i64 dl, .slice x1 x2 x3] 30)) := (Below.refl _ _).alloc (Nat.le_refl _) _
  have hrd := (h1.keep kA (fun _ f => f.elim)).mono kA.size
  have CK := hide (Gr.check_any nm dl (x1, x2, x3) xs _ (w.alloc (.cells #[.string nm, .int .i64 dl, .slice x1 x2 x3] 30)) hrd (Nat.le_refl _) hs)
  have HRD := hide hrd
  have HX0 := hide hb
  have HB0 := hide hbw
  have HOK := hide hok
  have HPB : Hid (planB nm dl xs = if (Gr.chk nm dl xs).2 = 0 then told (planS nm dl xs) else []) := rfl
  have HPC : Hid (planC nm dl xs = if (Gr.chk nm dl xs).2 = 0 then (planS nm dl xs).fault else (Gr.chk nm dl xs).2) := rfl
  have HPS : Hid (planW (pv nm dl xs) ⟨[], room 8192, 0⟩ = planS nm dl xs) := rfl
  generalize planB nm dl xs = PB at *
  generalize planC nm dl xs = PC at *
  generalize planS nm dl xs = s2 at *
  have d0 := cell_blk hb 0 (v := .string nm) rfl
  have d1 := cell_blk hb 1 (v := .int .i64 dl) rfl
  have d2 := cell_blk hb 2 (v := .slice x1 x2 x3) rfl
  obtain ⟨k, hk⟩ : ∃ k, (Gr.chk nm dl xs).2 = k := ⟨_, rfl⟩
  have CK2 := CK.out
  rw [hk] at CK2 HPB HPC HOK
  have CKh := hide CK2
  clear h1 hs hok kA hb hbw hrd CK CK2 hk
  go_enter Tryz.func12, Tryz.ntmps12
  go_upto_region 1 with fail
  generalize w.alloc (.cells #[.string nm, .int .i64 dl, .slice x1 x2 x3] 30) = w0 at *
  go_upto_region 2 with (go_at_call 27; refine CKh.out.mono ?_; rintro e w1 ⟨rfl, k1⟩; have HX1 := hide (k1.blk HX0.out (fun f => f)); have HB1 := hide (HB0.out.trans (k1.below HB0.out.size (fun _ f => f.elim))); have HRD1 := hide ((HRD.out.keep k1 (fun _ f => f.elim)).mono k1.size); clear k1 d0 d1 d2 CKh HX0 HRD HB0)
  by_cases hz : k = 0
  · subst hz
    have HE1 : Hid (told s2 = PB) := by show _ = _; rw [HPB.out, if_pos rfl]
    have HE2 : Hid (s2.fault = PC) := by show _ = _; rw [HPC.out, if_pos rfl]
    go_upto_region 4 with fail
    have d0 := cell_blk HX1.out 0 (v := .string nm) rfl
    have d1 := cell_blk HX1.out 1 (v := .int .i64 dl) rfl
    have d2 := cell_blk HX1.out 2 (v := .slice x1 x2 x3) rfl
    have HPF := hide (planFields_any w1.drew)
    have HXd : Hid (w1.drew.heap[w.heap.size]? = some (.cells #[.string nm, .int .i64 dl, .slice x1 x2 x3] 30 (0, 0))) := HX1.out
    have HRDd := hide ((HRD1.out.keep (Keep.drew (fun _ => False) w1) (fun _ f => f.elim)).mono (Nat.le_refl _))
    have HBd := hide (HB1.out.trans (((Below.refl w1.heap.size w1).drew).mono HB1.out.size))
    have HBY : Hid (∀ W b1 b2 b3, Below w1.drew.heap.size w1.drew W → PF 0 W b1 b2 b3 → Calls Tryz.prog 28 #[.agg (pF b1 b2 b3), .agg #[.string nm, .int .i64 dl, .slice x1 x2 x3], .int .i64 8192] W fun en w' => ∃ v, en = .returned (.tuple #[v, .int .i64 (s2.fault : Nat)]) ∧ w'.ownsRow W.heap.size 5 1 v (told s2).length (B8 (told s2)) ∧ Below W.heap.size W w' ∧ Fine (told s2)) := fun W b1 b2 b3 hb hp =>
      BytesPn 57 60 (capP b1 b2 b3) (capP b1 b2 b3) nm dl x1 x2 x3 (planW (pv nm dl xs)) 8192 s2 HPS.out W (putsPlan (bf := (W.heap.size, 0)) W b1 b2 b3 hp nm dl x1 x2 x3 xs (Nat.le_refl _) ((HRDd.out.keep (below_keep hb (Nat.le_refl _)) (fun _ f => f.elim)).mono hb.size) (HOK.out rfl)) ent_putPlan
    go_region_held3 (fun wx => wx.cell? ⟨w.heap.size, 0, none⟩ = some (.string nm) ∧ wx.cell? ⟨w.heap.size, 1, none⟩ = some (.int .i64 dl) ∧ wx.cell? ⟨w.heap.size, 2, none⟩ = some (.slice x1 x2 x3)) (first | (exact ⟨d0, d1, d2⟩) | (exact HS2.out) | (exact HS3.out) | go_keep) (first
      | (go_at_call 28; refine BY.out.mono ?_; rintro e w3 ⟨v, rfl, ho, hb3, hfn⟩; have HS3 : Hid (w3.cell? ⟨w.heap.size, 0, none⟩ = some (.string nm) ∧ w3.cell? ⟨w.heap.size, 1, none⟩ = some (.int .i64 dl) ∧ w3.cell? ⟨w.heap.size, 2, none⟩ = some (.slice x1 x2 x3)) := ⟨cell_blk (blkB HX2.out hb3) 0 rfl, cell_blk (blkB HX2.out hb3) 1 rfl, cell_blk (blkB HX2.out hb3) 2 rfl⟩; have HO := hide (ownsRow_base ho HB2.out.size); have HB3 := hide (HB2.out.trans (hb3.mono HB2.out.size)); have HFN := hide hfn; clear ho hb3 hfn BY)
      | (go_at_call 29; refine HPF.out.mono ?_; rintro e w2 ⟨b1, b2, b3, rfl, hp, hb2⟩; have HX2 := hide (blkB HXd.out hb2); have HS2 : Hid (w2.cell? ⟨w.heap.size, 0, none⟩ = some (.string nm) ∧ w2.cell? ⟨w.heap.size, 1, none⟩ = some (.int .i64 dl) ∧ w2.cell? ⟨w.heap.size, 2, none⟩ = some (.slice x1 x2 x3)) := ⟨cell_blk HX2.out 0 rfl, cell_blk HX2.out 1 rfl, cell_blk HX2.out 2 rfl⟩; have HB2 := hide (HBd.out.trans (hb2.mono HBd.out.size)); have BY := hide (HBY.out w2 b1 b2 b3 hb2 (hp.mono (Nat.zero_le _))); clear hp hb2))
    all_goals go_wp2
    all_goals go_ret2
    all_goals (rw [← HE1.out, ← HE2.out]; exact ⟨_, rfl, HO.out, HB3.out, HFN.out⟩)
  · have hzz : ((k : Int) == 0) = false := by simpa using hz
    have HE1 : Hid (([] : List Nat) = PB) := by show _ = _; rw [HPB.out, if_neg hz]
    have HE2 : Hid (k = PC) := by show _ = _; rw [HPC.out, if_neg hz]
    clear hz
    go_wp2
    go_ret2
    rw [← HE1.out, ← HE2.out]
    exact ⟨_, rfl, World.ownsRow_nil _ _ _ _, HB1.out, fine_nil⟩
end Cd
end Go.Proofs.YtbjcckfhfbjchaaGreat
