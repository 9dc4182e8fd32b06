import Derived.Test.YtbjcckfhfbjchaaGreatCEp
import Derived.Deep.RegionHeld3
/- Codec: Ops, ReadOp, OpBytes (written by ceq_gen.py). -/
namespace Go.Proofs.YtbjcckfhfbjchaaGreat
namespace Cd
open Go.RowKit Go.Deep

variable {bf : Nat × Nat}
def opsF (b bk bw : Nat) : Array Value := #[.func (.func 68) #[] #[.pointer (some ⟨b, 0, none⟩)], .func (.func 66) #[.agg (oF bk bw)] #[]]
theorem stable_Ov (d : Ov) : StableT 32 (OvV d) := by
  rintro w1 w2 v S ⟨ki, nm, dl, x1, x2, x3, ky, la, wo, tk, y1, y2, y3, ru, lu, ti, e, h⟩ hk hS
  exact ⟨_, _, _, _, _, _, _, _, _, _, _, _, _, _, _, _, e, h.keep (T := 32) (by decide) (by decide) (by decide) hk hS⟩
theorem ent_takeM (args : Array Value) (w : World) : (callFunc 66 args).run Tryz.prog w = .ok (.enter 66 args) w :=
  callFunc_enter Tryz.func66 (by kernel_rfl) (by kernel_rfl) args w
theorem takesOps (wf : World) (bk bw : Nat) (hF : OF bf.2 wf bk bw) : TakesMG (Lo bf wf) wf 66 (.agg (oF bk bw)) opR (fun s => OvV (opVal s)) ShOp := by
  intro q s w1 ha hq h hz
  refine (TakeOp q _ _ _ _ s (opR s) (OvV (opVal s)) (stable_Ov _) w1 h (fun _ w2 hb => takesOp wf bk bw hF q s w2 (ha.keep (Keep.ofBelow (S := fun _ => False) hb (Nat.le_refl _)) (fun _ _ h => h)) hq (h.below hb) hz) (fun hn => absurd hz hn) ent_takeOp).mono ?_
  rintro e w' ⟨hk, v, he, hs, hr, hv, _⟩
  exact ⟨hk, v, he, hs, hr, hv⟩
set_option maxRecDepth 10000 in
set_option maxHeartbeats 4000000 in
theorem Ops_any (w : World) :
    Calls Tryz.prog 34 #[] w fun en w' => ∃ b bk bw, en = .returned (.agg (opsF b bk bw)) ∧ OF w.heap.size w' bk bw ∧ w'.heap[b]? = some (.cells (oF bk bw) 65 (0, 0)) ∧ w.heap.size ≤ b ∧ Below w.heap.size w w' := by
  have hmf : ∀ (fn : Fn) (first cap : Array Value) (w : World), (Instr.makeFunc fn first cap).run Tryz.prog w = .ok (.func fn first cap) w := fun _ _ _ _ => rfl
  go_enter Tryz.func34, Tryz.ntmps34
  go_upto_region 1 with fail
  have hb0 : Below w.heap.size w (w.alloc (.cells #[.nilFunc, .nilFunc] 65)) := (Below.refl _ _).alloc (Nat.le_refl _) _
  have hx0 := heap_alloc_new w (.cells #[.nilFunc, .nilFunc] 65)
  generalize w.alloc (.cells #[.nilFunc, .nilFunc] 65) = w0 at *
  have hz0 := blk_lt hx0
  have HX0 := hide hx0
  clear hx0
  go_wp2_with fail
  refine (opFields_any _).mono ?_
  rintro e w1 ⟨bk, bw, rfl, hp, hb1⟩
  have HP := hide (hp.mono hb0.size)
  have HB1 := hide hb1
  clear hp hb1
  obtain ⟨y1, y4, y7⟩ := st1 w1 65 #[.nilFunc, .nilFunc] (oF bk bw)
  have Y1 := hide y1
  have Y4 := hide y4
  have Y7 := hide y7
  clear y1 y4 y7
  have hO1 : Hid ((oF bk bw).all (·.oneCell') = true) := oneF _ _ rfl rfl
  go_upto_region 2 with (refine wpList_store_row rfl 65 _ _ rfl w1.heap.size (oF bk bw) rfl rfl 65 _ Y1.out sizeFO rfl hO1.out ?_)
  have HQ := hide (HP.out.keep (below_keep Y7.out (Nat.le_refl _)))
  have BB := hide (HB1.out.trans (Y7.out.mono HB1.out.size))
  have HS1 := hide (Nat.le_trans hb0.size HB1.out.size)
  clear Y1 Y7 HP HB1 hO1
  change Code.wp _ _ _ _ ((w1.alloc (.cells #[.nilFunc, .nilFunc] 65)).setRow w1.heap.size (oF bk bw))
  generalize (w1.alloc (.cells #[.nilFunc, .nilFunc] 65)).setRow w1.heap.size (oF bk bw) = w2 at *
  generalize w1.heap.size = q1 at *
  go_wp2_with (refine wpList_load_row rfl 65 _ rfl q1 rfl 65 (oF bk bw) (0, 0) _ Y4.out Tryz.underlying65 rfl sizeFO ?_)
  refine (MakeOpM _ _ _ _ _).mono ?_
  rintro e w11 ⟨rfl, hb11⟩
  have HN11 := hide (HQ.out.keep (below_keep hb11 (Nat.le_refl _)))
  have HY11 := hide (blkB Y4.out hb11)
  have BB11 := hide (BB.out.trans (hb11.mono BB.out.size))
  have hx := (BB11.out.block w.heap.size hz0).trans HX0.out
  have HX := hide hx
  have f0 := cell_blk hx 0 rfl
  have f1 := cell_blk hx 1 rfl
  have z0 := frozen_blk hx 0
  have z1 := frozen_blk hx 1
  clear hb11 hx HQ BB HX0 Y4
  go_wp2_with fail
  have hks := set2_keep w11 w.heap.size (.func (.func 68) #[] #[.pointer (some ⟨q1, 0, none⟩)]) (.func (.func 66) #[.agg (oF bk bw)] #[])
  refine bodyPost_ret (results_cell_row rfl _ _ w.heap.size 65 (opsF q1 bk bw) (0, 0) _ rfl (set2_blk HX.out) Tryz.underlying65 rfl (by kernel_rfl)) rfl ?_
  exact ⟨q1, bk, bw, rfl, HN11.out.off HX.out hks, hks.blk HY11.out (nil_blk HX.out HY11.out (by intro e; cases e)), HS1.out, (hb0.trans (BB11.out.mono hb0.size)).trans (hks.below (by have := BB11.out.size; have := hb0.size; omega) fun i e => by have e : i = _ := e; omega)⟩
/-- what ReadOp comes to -/
noncomputable def opE (l : List Nat) : Nat := endR (takeR opR (newR l))
set_option maxRecDepth 10000 in
set_option maxHeartbeats 2000000 in
theorem codecReadOp_any (a : Option Addr) (n c : Nat) (l : List Nat) (w : World) (h : Rd w a n l) (h0 : a = none → c = 0) :
    Calls Tryz.prog 14 #[.slice a n c] w fun en w' => ∃ v, en = .returned (.tuple #[v, .int .i64 ((if opE l = 0 then 0 else 121 : Nat) : Nat)]) ∧ ShOp v ∧ (opE l = 0 → OvV (opVal (newR l)) w' v) ∧ (opE l ≠ 0 → v = .agg #[.int .i64 0, .string ⟨#[]⟩, .int .i64 0, .slice none 0 0, .string ⟨#[]⟩, .int .i64 0, .int .i64 0, .int .i64 0, .slice none 0 0, .int .i64 0, .int .u64 0, .int .i64 0]) ∧ Below w.heap.size w w' := by
  have hb0 : Below w.heap.size w (w.alloc (.cells #[.int .i64 0, .string ⟨#[]⟩, .int .i64 0, .slice none 0 0, .string ⟨#[]⟩, .int .i64 0, .int .i64 0, .int .i64 0, .slice none 0 0, .int .i64 0, .int .u64 0, .int .i64 0] 32)) := (Below.refl _ _).alloc (Nat.le_refl _) _
  have hx0 := heap_alloc_new w (.cells #[.int .i64 0, .string ⟨#[]⟩, .int .i64 0, .slice none 0 0, .string ⟨#[]⟩, .int .i64 0, .int .i64 0, .int .i64 0, .slice none 0 0, .int .i64 0, .int .u64 0, .int .i64 0] 32)
  have HE0 := hide hx0
  have HB0 := hide hb0
  have HR0 := hide (h.keep hb0)
  have H0 := hide h0
  have HIZ : Hid ((Tryz.prog.info? 32).map (·.size) = some (#[.int .i64 0, .string ⟨#[]⟩, .int .i64 0, .slice none 0 0, .string ⟨#[]⟩, .int .i64 0, .int .i64 0, .int .i64 0, .slice none 0 0, .int .i64 0, .int .u64 0, .int .i64 0] : Array Value).size) := sizeOp
  have HOZ : Hid ((#[.int .i64 0, .string ⟨#[]⟩, .int .i64 0, .slice none 0 0, .string ⟨#[]⟩, .int .i64 0, .int .i64 0, .int .i64 0, .slice none 0 0, .int .i64 0, .int .u64 0, .int .i64 0] : Array Value).all (·.oneCell') = true) := by show _ = _; simp [Value.oneCell']
  obtain ⟨r, hr⟩ : ∃ r, opE l = r := ⟨_, rfl⟩
  rw [hr]
  have HRR : Hid (endR (takeR opR (newR l)) = r) := hr
  clear h h0 hb0 hx0 hr
  go_enter Tryz.func14, Tryz.ntmps14
  go_upto_region 1 with fail
  generalize w.alloc (.cells #[.int .i64 0, .string ⟨#[]⟩, .int .i64 0, .slice none 0 0, .string ⟨#[]⟩, .int .i64 0, .int .i64 0, .int .i64 0, .slice none 0 0, .int .i64 0, .int .u64 0, .int .i64 0] 32) = w0 at *
  go_wp2_with fail
  refine (Ops_any _).mono ?_
  rintro e w1 ⟨b, bk, bw, rfl, hq, _, _, hb1⟩
  have HE1 := hide (blkB HE0.out hb1)
  have HB1 := hide (HB0.out.trans (hb1.mono HB0.out.size))
  have RP := hide (ReadOpM 68 66 #[.pointer (some ⟨b, 0, none⟩)] (.agg (oF bk bw)) a n c l opR (fun s => OvV (opVal s)) (fun s => stable_Ov _) _ rfl r HRR.out w1 (HR0.out.keep hb1) H0.out (takesOps (bf := (0, 0)) w1 bk bw (hq.mono (Nat.zero_le _))) ent_takeM)
  clear hb1 hq HE0 HR0
  go_upto_region 2 with (first
    | (refine wpList_store_row rfl 32 _ _ rfl w2.heap.size #[.int .i64 ki, .string nm, .int .i64 dl, .slice x1 x2 x3, .string ky, .int .i64 la, .int .i64 wo, .int .i64 tk, .slice y1 y2 y3, .int .i64 ru, .int .u64 lu, .int .i64 ti] rfl rfl 32 _ HA2.out HI.out rfl HO1.out ?_)
    | (go_at_call 33; refine RP.out.mono ?_; rintro e w2 ⟨v, rfl, ⟨ki, nm, dl, x1, x2, x3, ky, la, wo, tk, y1, y2, y3, ru, lu, ti, rfl⟩, hv, hn, hb2⟩; have HE2 := hide (blkB HE1.out hb2); have HB2 := hide (HB1.out.trans (hb2.mono HB1.out.size)); have HV2 := hide hv; have HN2 := hide hn; have HI : Hid ((Tryz.prog.info? 32).map (·.size) = some (#[.int .i64 ki, .string nm, .int .i64 dl, .slice x1 x2 x3, .string ky, .int .i64 la, .int .i64 wo, .int .i64 tk, .slice y1 y2 y3, .int .i64 ru, .int .u64 lu, .int .i64 ti] : Array Value).size) := sizeOp; have HO1 := hide (onesOp ki nm dl x1 x2 x3 ky la wo tk y1 y2 y3 ru lu ti); have HA2 := hide (heap_alloc_new w2 (.cells #[.int .i64 0, .string ⟨#[]⟩, .int .i64 0, .slice none 0 0, .string ⟨#[]⟩, .int .i64 0, .int .i64 0, .int .i64 0, .slice none 0 0, .int .i64 0, .int .u64 0, .int .i64 0] 32)); clear hv hn hb2 RP HE1))
  have hx3 := setRow_heap (w2.alloc (.cells #[.int .i64 0, .string ⟨#[]⟩, .int .i64 0, .slice none 0 0, .string ⟨#[]⟩, .int .i64 0, .int .i64 0, .int .i64 0, .slice none 0 0, .int .i64 0, .int .u64 0, .int .i64 0] 32)) w2.heap.size _ #[.int .i64 ki, .string nm, .int .i64 dl, .slice x1 x2 x3, .string ky, .int .i64 la, .int .i64 wo, .int .i64 tk, .slice y1 y2 y3, .int .i64 ru, .int .u64 lu, .int .i64 ti] _ _ HA2.out
  have hb3 : Below w2.heap.size w2 ((w2.alloc (.cells #[.int .i64 0, .string ⟨#[]⟩, .int .i64 0, .slice none 0 0, .string ⟨#[]⟩, .int .i64 0, .int .i64 0, .int .i64 0, .slice none 0 0, .int .i64 0, .int .u64 0, .int .i64 0] 32)).setRow w2.heap.size #[.int .i64 ki, .string nm, .int .i64 dl, .slice x1 x2 x3, .string ky, .int .i64 la, .int .i64 wo, .int .i64 tk, .slice y1 y2 y3, .int .i64 ru, .int .u64 lu, .int .i64 ti]) := ((Below.refl _ _).alloc (Nat.le_refl _) _).trans ((keep_row _ _ _).below (by simp) fun k e => by rw [e]; exact Nat.le_refl _)
  have HX3 := hide hx3
  have HB3 := hide (HB2.out.trans (hb3.mono HB2.out.size))
  have HE3 := hide (blkB HE2.out hb3)
  have HV3 : Hid (r = 0 → OvV (opVal (newR l)) ((w2.alloc (.cells #[.int .i64 0, .string ⟨#[]⟩, .int .i64 0, .slice none 0 0, .string ⟨#[]⟩, .int .i64 0, .int .i64 0, .int .i64 0, .slice none 0 0, .int .i64 0, .int .u64 0, .int .i64 0] 32)).setRow w2.heap.size #[.int .i64 ki, .string nm, .int .i64 dl, .slice x1 x2 x3, .string ky, .int .i64 la, .int .i64 wo, .int .i64 tk, .slice y1 y2 y3, .int .i64 ru, .int .u64 lu, .int .i64 ti]) (.agg #[.int .i64 ki, .string nm, .int .i64 dl, .slice x1 x2 x3, .string ky, .int .i64 la, .int .i64 wo, .int .i64 tk, .slice y1 y2 y3, .int .i64 ru, .int .u64 lu, .int .i64 ti])) := fun hz => (stable_Ov _).stable _ _ _ (HV2.out hz) hb3
  clear hx3 hb3 HB2 HE2 HV2 HA2
  change Code.wp _ _ _ _ ((w2.alloc (.cells #[.int .i64 0, .string ⟨#[]⟩, .int .i64 0, .slice none 0 0, .string ⟨#[]⟩, .int .i64 0, .int .i64 0, .int .i64 0, .slice none 0 0, .int .i64 0, .int .u64 0, .int .i64 0] 32)).setRow w2.heap.size #[.int .i64 ki, .string nm, .int .i64 dl, .slice x1 x2 x3, .string ky, .int .i64 la, .int .i64 wo, .int .i64 tk, .slice y1 y2 y3, .int .i64 ru, .int .u64 lu, .int .i64 ti])
  generalize (w2.alloc (.cells #[.int .i64 0, .string ⟨#[]⟩, .int .i64 0, .slice none 0 0, .string ⟨#[]⟩, .int .i64 0, .int .i64 0, .int .i64 0, .slice none 0 0, .int .i64 0, .int .u64 0, .int .i64 0] 32)).setRow w2.heap.size #[.int .i64 ki, .string nm, .int .i64 dl, .slice x1 x2 x3, .string ky, .int .i64 la, .int .i64 wo, .int .i64 tk, .slice y1 y2 y3, .int .i64 ru, .int .u64 lu, .int .i64 ti] = w3 at *
  generalize w2.heap.size = xb at *
  by_cases hz : r = 0
  · subst hz
    go_wp2_with (first
      | (refine wpList_load_row rfl 32 _ rfl xb rfl 32 #[.int .i64 ki, .string nm, .int .i64 dl, .slice x1 x2 x3, .string ky, .int .i64 la, .int .i64 wo, .int .i64 tk, .slice y1 y2 y3, .int .i64 ru, .int .u64 lu, .int .i64 ti] (0, 0) _ HX3.out Tryz.underlying32 rfl HI.out ?_)
      | (refine wpList_store_row rfl 32 _ _ rfl w.heap.size #[.int .i64 ki, .string nm, .int .i64 dl, .slice x1 x2 x3, .string ky, .int .i64 la, .int .i64 wo, .int .i64 tk, .slice y1 y2 y3, .int .i64 ru, .int .u64 lu, .int .i64 ti] rfl rfl 32 _ HE3.out HI.out rfl HO1.out ?_))
    have HX := hide (setRow_heap _ w.heap.size _ #[.int .i64 ki, .string nm, .int .i64 dl, .slice x1 x2 x3, .string ky, .int .i64 la, .int .i64 wo, .int .i64 tk, .slice y1 y2 y3, .int .i64 ru, .int .u64 lu, .int .i64 ti] _ _ HE3.out)
    have HK := hide (keep_row w3 w.heap.size #[.int .i64 ki, .string nm, .int .i64 dl, .slice x1 x2 x3, .string ky, .int .i64 la, .int .i64 wo, .int .i64 tk, .slice y1 y2 y3, .int .i64 ru, .int .u64 lu, .int .i64 ti])
    exact bodyPost_ret (restOp rfl _ _ w.heap.size _ rfl rfl HX.out) rfl ⟨_, rfl, ⟨_, _, _, _, _, _, _, _, _, _, _, _, _, _, _, _, rfl⟩, StableT.row (stable_Ov _) (HV3.out (by trivial)) HE3.out _, HB3.out.trans (HK.out.below (by have := HB3.out.size; omega) fun i e => by have e : i = _ := e; omega)⟩
  · have hzz : ((r : Int) == 0) = false := by simpa using hz
    have HZ := hide hz
    have HN3 := hide (HN2.out hz)
    clear hz
    go_wp2_with (refine wpList_store_row rfl 32 _ _ rfl w.heap.size #[.int .i64 0, .string ⟨#[]⟩, .int .i64 0, .slice none 0 0, .string ⟨#[]⟩, .int .i64 0, .int .i64 0, .int .i64 0, .slice none 0 0, .int .i64 0, .int .u64 0, .int .i64 0] rfl rfl 32 _ HE3.out HIZ.out rfl HOZ.out ?_)
    have HX := hide (setRow_heap _ w.heap.size _ #[.int .i64 0, .string ⟨#[]⟩, .int .i64 0, .slice none 0 0, .string ⟨#[]⟩, .int .i64 0, .int .i64 0, .int .i64 0, .slice none 0 0, .int .i64 0, .int .u64 0, .int .i64 0] _ _ HE3.out)
    have HK := hide (keep_row w3 w.heap.size #[.int .i64 0, .string ⟨#[]⟩, .int .i64 0, .slice none 0 0, .string ⟨#[]⟩, .int .i64 0, .int .i64 0, .int .i64 0, .slice none 0 0, .int .i64 0, .int .u64 0, .int .i64 0])
    exact bodyPost_ret (restOp rfl _ _ w.heap.size _ rfl rfl HX.out) rfl ⟨_, rfl, ⟨_, _, _, _, _, _, _, _, _, _, _, _, _, _, _, _, rfl⟩, rfl, HB3.out.trans (HK.out.below (by have := HB3.out.size; omega) fun i e => by have e : i = _ := e; omega)⟩
/-- what OpBytes comes to -/
def opS (d : Ov) : K.WS := opW d ⟨[], room 8192, 0⟩
noncomputable def opB (k : Nat) (d : Ov) : List Nat := if k = 0 then told (opS d) else []
noncomputable def opC (k : Nat) (d : Ov) : Nat := if k = 0 then (opS d).fault else k
theorem opChk_zero {nm : ByteArray} {dl : Int} {x2 : Nat} {ky : ByteArray} {la wo tk : Int} {y2 : Nat} {ru lu ti : Int} {d : Ov} {xs : List Gr.No} (h : opChk nm dl x2 ky la wo tk y2 ru lu ti d xs = 0) (hk : d.ki = 1) : (Gr.chk nm dl xs).2 = 0 := by
  unfold opChk at h
  rw [if_pos hk] at h
  split at h
  · omega
  · exact h
set_option maxRecDepth 10000 in
set_option maxHeartbeats 2000000 in
theorem OpBytes_any (ki : Int) (nm : ByteArray) (dl : Int) (x1 : Option Addr) (x2 x3 : Nat) (ky : ByteArray) (la : Int) (wo : Int) (tk : Int) (y1 : Option Addr) (y2 y3 : Nat) (ru : Int) (lu : Int) (ti : Int) (d : Ov) (xs : List Gr.No) (w : World) (hd : OpD w.heap.size w ki nm dl x1 x2 x3 ky la wo tk y1 y2 y3 ru lu ti d xs) (hki : ki ≤ 9223372036854775807) (hs : Gr.Sz nm xs) (hok : (Gr.chk nm dl xs).2 = 0 → POk nm dl xs) :
    Calls Tryz.prog 11 #[.agg #[.int .i64 ki, .string nm, .int .i64 dl, .slice x1 x2 x3, .string ky, .int .i64 la, .int .i64 wo, .int .i64 tk, .slice y1 y2 y3, .int .i64 ru, .int .u64 lu, .int .i64 ti]] w fun en w' => ∃ v, en = .returned (.tuple #[v, .int .i64 (opC (opChk nm dl x2 ky la wo tk y2 ru lu ti d xs) d : Nat)]) ∧ w'.ownsRow w.heap.size 5 1 v (opB (opChk nm dl x2 ky la wo tk y2 ru lu ti d xs) d).length (B8 (opB (opChk nm dl x2 ky la wo tk y2 ru lu ti d xs) d)) ∧ Below w.heap.size w w' ∧ Fine (opB (opChk nm dl x2 ky la wo tk y2 ru lu ti d xs) d) := by
  have hbw : Below w.heap.size w (w.alloc (.cells #[.int .i64 ki, .string nm, .int .i64 dl, .slice x1 x2 x3, .string ky, .int .i64 la, .int .i64 wo, .int .i64 tk, .slice y1 y2 y3, .int .i64 ru, .int .u64 lu, .int .i64 ti] 32)) := (Below.refl _ _).alloc (Nat.le_refl _) _
  have HX0 := hide (heap_alloc_new w (.cells #[.int .i64 ki, .string nm, .int .i64 dl, .slice x1 x2 x3, .string ky, .int .i64 la, .int .i64 wo, .int .i64 tk, .slice y1 y2 y3, .int .i64 ru, .int .u64 lu, .int .i64 ti] 32))
  have HB0 := hide hbw
  have HOD := hide hd
  have HI : Hid ((Tryz.prog.info? 32).map (·.size) = some (#[.int .i64 ki, .string nm, .int .i64 dl, .slice x1 x2 x3, .string ky, .int .i64 la, .int .i64 wo, .int .i64 tk, .slice y1 y2 y3, .int .i64 ru, .int .u64 lu, .int .i64 ti] : Array Value).size) := sizeOp
  have CK := hide (Check_any ki nm dl x1 x2 x3 ky la wo tk y1 y2 y3 ru lu ti d xs _ (opD_up hd hbw) hs)
  obtain ⟨k, hk⟩ : ∃ k, opChk nm dl x2 ky la wo tk y2 ru lu ti d xs = k := ⟨_, rfl⟩
  have HPO : Hid (k = 0 → ki = 1 → POk nm dl xs) := fun h0 h1 => hok (opChk_zero (hk.trans h0) (hd.eki.trans h1))
  have HKI := hide hki
  rw [hk] at CK ⊢
  have HPB : Hid (opB k d = if k = 0 then told (opS d) else []) := rfl
  have HPC : Hid (opC k d = if k = 0 then (opS d).fault else k) := rfl
  have HPS : Hid (opW d ⟨[], room 8192, 0⟩ = opS d) := rfl
  generalize opB k d = PB at *
  generalize opC k d = PC at *
  generalize opS d = s2 at *
  clear hk hd hki hs hok hbw
  go_enter Tryz.func11, Tryz.ntmps11
  go_upto_region 1 with fail
  generalize w.alloc (.cells #[.int .i64 ki, .string nm, .int .i64 dl, .slice x1 x2 x3, .string ky, .int .i64 la, .int .i64 wo, .int .i64 tk, .slice y1 y2 y3, .int .i64 ru, .int .u64 lu, .int .i64 ti] 32) = w0 at *
  go_upto_region 2 with (first
    | (refine wpList_load_row rfl 32 _ rfl w.heap.size rfl 32 #[.int .i64 ki, .string nm, .int .i64 dl, .slice x1 x2 x3, .string ky, .int .i64 la, .int .i64 wo, .int .i64 tk, .slice y1 y2 y3, .int .i64 ru, .int .u64 lu, .int .i64 ti] (0, 0) _ HX0.out Tryz.underlying32 rfl HI.out ?_)
    | (go_at_call 13; refine CK.out.mono ?_; rintro e w1 ⟨rfl, hb1⟩; have HX1 := hide (blkB HX0.out hb1); have HB1 := hide (HB0.out.trans (hb1.mono HB0.out.size)); clear hb1 CK HX0 HB0))
  by_cases hz : k = 0
  · subst hz
    have HE1 : Hid (told s2 = PB) := by show _ = _; rw [HPB.out, if_pos rfl]
    have HE2 : Hid (s2.fault = PC) := by show _ = _; rw [HPC.out, if_pos rfl]
    go_upto_region 4 with fail
    have d0 := cell_blk HX1.out 0 (v := .int .i64 ki) rfl
    have d1 := cell_blk HX1.out 1 (v := .string nm) rfl
    have d2 := cell_blk HX1.out 2 (v := .int .i64 dl) rfl
    have d3 := cell_blk HX1.out 3 (v := .slice x1 x2 x3) rfl
    have d4 := cell_blk HX1.out 4 (v := .string ky) rfl
    have d5 := cell_blk HX1.out 5 (v := .int .i64 la) rfl
    have d6 := cell_blk HX1.out 6 (v := .int .i64 wo) rfl
    have d7 := cell_blk HX1.out 7 (v := .int .i64 tk) rfl
    have d8 := cell_blk HX1.out 8 (v := .slice y1 y2 y3) rfl
    have d9 := cell_blk HX1.out 9 (v := .int .i64 ru) rfl
    have d10 := cell_blk HX1.out 10 (v := .int .u64 lu) rfl
    have d11 := cell_blk HX1.out 11 (v := .int .i64 ti) rfl
    have HPF := hide (opFields_any w1.drew)
    have HXd : Hid (w1.drew.heap[w.heap.size]? = some (.cells #[.int .i64 ki, .string nm, .int .i64 dl, .slice x1 x2 x3, .string ky, .int .i64 la, .int .i64 wo, .int .i64 tk, .slice y1 y2 y3, .int .i64 ru, .int .u64 lu, .int .i64 ti] 32 (0, 0))) := HX1.out
    have HBd := hide (HB1.out.trans (((Below.refl w1.heap.size w1).drew).mono HB1.out.size))
    have HBY : Hid (∀ W bk bw, Below w1.drew.heap.size w1.drew W → OF 0 W bk bw → Calls Tryz.prog 25 #[.agg (oF bk bw), .agg #[.int .i64 ki, .string nm, .int .i64 dl, .slice x1 x2 x3, .string ky, .int .i64 la, .int .i64 wo, .int .i64 tk, .slice y1 y2 y3, .int .i64 ru, .int .u64 lu, .int .i64 ti], .int .i64 8192] W fun en w' => ∃ v, en = .returned (.tuple #[v, .int .i64 (s2.fault : Nat)]) ∧ w'.ownsRow W.heap.size 5 1 v (told s2).length (B8 (told s2)) ∧ Below W.heap.size W w' ∧ Fine (told s2)) := fun W bk bw hb hp =>
      BytesOp 45 47 #[.pointer (some ⟨bk, 0, none⟩), .pointer (some ⟨bw, 0, none⟩)] #[.pointer (some ⟨bk, 0, none⟩), .pointer (some ⟨bw, 0, none⟩)] ki nm dl x1 x2 x3 ky la wo tk y1 y2 y3 ru lu ti (opW d) 8192 s2 HPS.out W (putsOp (bf := (W.heap.size, 0)) W bk bw hp ki nm dl x1 x2 x3 ky la wo tk y1 y2 y3 ru lu ti d xs (Nat.le_refl _) (opD_up HOD.out (HBd.out.trans (hb.mono HBd.out.size))) HKI.out (HPO.out rfl)) ent_putOp
    go_region_held3 (fun wx => wx.cell? ⟨w.heap.size, 0, none⟩ = some (.int .i64 ki) ∧ wx.cell? ⟨w.heap.size, 1, none⟩ = some (.string nm) ∧ wx.cell? ⟨w.heap.size, 2, none⟩ = some (.int .i64 dl) ∧ wx.cell? ⟨w.heap.size, 3, none⟩ = some (.slice x1 x2 x3) ∧ wx.cell? ⟨w.heap.size, 4, none⟩ = some (.string ky) ∧ wx.cell? ⟨w.heap.size, 5, none⟩ = some (.int .i64 la) ∧ wx.cell? ⟨w.heap.size, 6, none⟩ = some (.int .i64 wo) ∧ wx.cell? ⟨w.heap.size, 7, none⟩ = some (.int .i64 tk) ∧ wx.cell? ⟨w.heap.size, 8, none⟩ = some (.slice y1 y2 y3) ∧ wx.cell? ⟨w.heap.size, 9, none⟩ = some (.int .i64 ru) ∧ wx.cell? ⟨w.heap.size, 10, none⟩ = some (.int .u64 lu) ∧ wx.cell? ⟨w.heap.size, 11, none⟩ = some (.int .i64 ti)) (first | (exact ⟨d0, d1, d2, d3, d4, d5, d6, d7, d8, d9, d10, d11⟩) | (exact HS2.out) | (exact HS3.out) | go_keep) (first
      | (go_at_call 25; refine BY.out.mono ?_; rintro e w3 ⟨v, rfl, ho, hb3, hfn⟩; have HS3 : Hid (w3.cell? ⟨w.heap.size, 0, none⟩ = some (.int .i64 ki) ∧ w3.cell? ⟨w.heap.size, 1, none⟩ = some (.string nm) ∧ w3.cell? ⟨w.heap.size, 2, none⟩ = some (.int .i64 dl) ∧ w3.cell? ⟨w.heap.size, 3, none⟩ = some (.slice x1 x2 x3) ∧ w3.cell? ⟨w.heap.size, 4, none⟩ = some (.string ky) ∧ w3.cell? ⟨w.heap.size, 5, none⟩ = some (.int .i64 la) ∧ w3.cell? ⟨w.heap.size, 6, none⟩ = some (.int .i64 wo) ∧ w3.cell? ⟨w.heap.size, 7, none⟩ = some (.int .i64 tk) ∧ w3.cell? ⟨w.heap.size, 8, none⟩ = some (.slice y1 y2 y3) ∧ w3.cell? ⟨w.heap.size, 9, none⟩ = some (.int .i64 ru) ∧ w3.cell? ⟨w.heap.size, 10, none⟩ = some (.int .u64 lu) ∧ w3.cell? ⟨w.heap.size, 11, none⟩ = some (.int .i64 ti)) := ⟨cell_blk (blkB HX2.out hb3) 0 rfl, cell_blk (blkB HX2.out hb3) 1 rfl, cell_blk (blkB HX2.out hb3) 2 rfl, cell_blk (blkB HX2.out hb3) 3 rfl, cell_blk (blkB HX2.out hb3) 4 rfl, cell_blk (blkB HX2.out hb3) 5 rfl, cell_blk (blkB HX2.out hb3) 6 rfl, cell_blk (blkB HX2.out hb3) 7 rfl, cell_blk (blkB HX2.out hb3) 8 rfl, cell_blk (blkB HX2.out hb3) 9 rfl, cell_blk (blkB HX2.out hb3) 10 rfl, cell_blk (blkB HX2.out hb3) 11 rfl⟩; have HO := hide (ownsRow_base ho HB2.out.size); have HB3 := hide (HB2.out.trans (hb3.mono HB2.out.size)); have HFN := hide hfn; clear ho hb3 hfn BY)
      | (go_at_call 26; refine HPF.out.mono ?_; rintro e w2 ⟨bk, bw, rfl, hp, hb2⟩; have HX2 := hide (blkB HXd.out hb2); have HS2 : Hid (w2.cell? ⟨w.heap.size, 0, none⟩ = some (.int .i64 ki) ∧ w2.cell? ⟨w.heap.size, 1, none⟩ = some (.string nm) ∧ w2.cell? ⟨w.heap.size, 2, none⟩ = some (.int .i64 dl) ∧ w2.cell? ⟨w.heap.size, 3, none⟩ = some (.slice x1 x2 x3) ∧ w2.cell? ⟨w.heap.size, 4, none⟩ = some (.string ky) ∧ w2.cell? ⟨w.heap.size, 5, none⟩ = some (.int .i64 la) ∧ w2.cell? ⟨w.heap.size, 6, none⟩ = some (.int .i64 wo) ∧ w2.cell? ⟨w.heap.size, 7, none⟩ = some (.int .i64 tk) ∧ w2.cell? ⟨w.heap.size, 8, none⟩ = some (.slice y1 y2 y3) ∧ w2.cell? ⟨w.heap.size, 9, none⟩ = some (.int .i64 ru) ∧ w2.cell? ⟨w.heap.size, 10, none⟩ = some (.int .u64 lu) ∧ w2.cell? ⟨w.heap.size, 11, none⟩ = some (.int .i64 ti)) := ⟨cell_blk HX2.out 0 rfl, cell_blk HX2.out 1 rfl, cell_blk HX2.out 2 rfl, cell_blk HX2.out 3 rfl, cell_blk HX2.out 4 rfl, cell_blk HX2.out 5 rfl, cell_blk HX2.out 6 rfl, cell_blk HX2.out 7 rfl, cell_blk HX2.out 8 rfl, cell_blk HX2.out 9 rfl, cell_blk HX2.out 10 rfl, cell_blk HX2.out 11 rfl⟩; have HB2 := hide (HBd.out.trans (hb2.mono HBd.out.size)); have BY := hide (HBY.out w2 bk bw hb2 (hp.mono (Nat.zero_le _))); clear hp hb2))
    all_goals go_wp2
    all_goals go_ret2
    all_goals (rw [← HE1.out, ← HE2.out]; exact ⟨_, rfl, HO.out, HB3.out, HFN.out⟩)
  · have hzz : ((k : Int) == 0) = false := by simpa using hz
    have HE1 : Hid (([] : List Nat) = PB) := by show _ = _; rw [HPB.out, if_neg hz]
    have HE2 : Hid (k = PC) := by show _ = _; rw [HPC.out, if_neg hz]
    clear hz
    go_wp2
    go_ret2
    rw [← HE1.out, ← HE2.out]
    exact ⟨_, rfl, World.ownsRow_nil _ _ _ _, HB1.out, fine_nil⟩
end Cd
end Go.Proofs.YtbjcckfhfbjchaaGreat

/- Codec: the document's sameInts, sameNode. -/
namespace Go.Proofs.YtbjcckfhfbjchaaGreat
namespace Cd
open Go.RowKit Go.Deep

theorem take_snoc' {α : Type} : ∀ (z : List α) (i : Nat) (x : α), z[i]? = some x → z.take (i + 1) = z.take i ++ [x]
  | z, i, x, h => by rw [List.take_add_one, h]; rfl
set_option maxHeartbeats 1000000 in
theorem ints12_any (s t : Option Addr × Nat × Nat) (z y : List Int) (B C : Nat) (w : World) (hz : Gr.RdZ B w s z) (hy : Gr.RdZ C w t y) :
    Calls Tryz.prog 75 #[.slice s.1 s.2.1 s.2.2, .slice t.1 t.2.1 t.2.2] w fun e w' => e = .returned (.bool (decide (z = y))) ∧ Keep (fun _ => False) w w' := by
  obtain ⟨a, n, c⟩ := s
  obtain ⟨a', n', c'⟩ := t
  have HN : Hid (n = z.length) := hz.1
  have HM : Hid (n' = y.length) := hy.1
  have hn2 : n ≤ 17592186044416 := hz.2.1
  have HZ := hide hz
  have HY := hide hy
  clear hz hy
  generalize hr : decide (z = y) = r
  have HR := hide hr
  clear hr
  by_cases hl : n = n'
  · subst hl
    go_enter Tryz.func75, Tryz.ntmps75
    go_wp2_with fail
    go_loopw [5] (fun iv wr => ∃ i : Nat, iv = .int .i64 (i : Nat) ∧ i ≤ n ∧ Hid (z.take i = y.take i ∧ Keep (fun _ => False) w wr)) (fun iv _ => n - (intOf iv).toNat)
    case atStart => exact ⟨0, rfl, Nat.zero_le _, rfl, Keep.refl _ _⟩
    case round =>
      obtain ⟨i, rfl, hi, HD⟩ := hrel
      by_cases hlt : i < n
      · obtain ⟨g, off, x, ha, hg, hx, hc⟩ := (HZ.out.new HD.out.2).at hlt
        obtain ⟨g', off', x', ha', hg', hx', hc'⟩ := (HY.out.new HD.out.2).at hlt
        have ha : a = some ⟨g, off, none⟩ := ha
        have ha' : a' = some ⟨g', off', none⟩ := ha'
        subst ha
        subst ha'
        have HX := hide hx
        have HX' := hide hx'
        clear hx hx' HZ HY
        by_cases e : x = x'
        · subst e
          go_wp2_with fail
          go_region
          go_wp2
          go_roundw
          · refine ⟨i + 1, rfl, by omega, ?_, HD.out.2.more (Keep.drew _ _)⟩
            rw [take_snoc' _ _ _ HX.out, take_snoc' _ _ _ HX'.out, HD.out.1]
          · show n - ((i : Int) + 1).toNat < n - (i : Int).toNat
            omega
        · obtain rfl : r = false := by
            rw [← HR.out]
            refine decide_eq_false fun h => e ?_
            have := HX.out
            rw [h, HX'.out] at this
            exact (Option.some.inj this).symm
          have hne : (x != x') = true := by simpa using e
          go_wp2_with fail
          go_region
          go_wp2
          go_ret
          exact ⟨rfl, HD.out.2.more (Keep.drew _ _)⟩
      · obtain rfl : i = n := by omega
        obtain rfl : r = true := by
          rw [← HR.out]
          refine decide_eq_true ?_
          have := HD.out.1
          rwa [List.take_of_length_le (by have := HN.out; omega), List.take_of_length_le (by have := HM.out; omega)] at this
        go_wp2_with fail
        go_ret
        exact ⟨rfl, HD.out.2⟩
  · obtain rfl : r = false := by
      rw [← HR.out]
      refine decide_eq_false fun h => hl ?_
      rw [HN.out, HM.out, h]
    have hl' : ¬ ((n : Int) = n') := by omega
    go_enter Tryz.func75, Tryz.ntmps75
    go_wp2_with fail
    go_ret
    exact ⟨rfl, Keep.refl _ _⟩
end Cd
end Go.Proofs.YtbjcckfhfbjchaaGreat

/- Codec: the laws' sameInts (CEr's walk at the laws' function). -/
namespace Go.Proofs.YtbjcckfhfbjchaaGreat
namespace Cd
open Go.RowKit Go.Deep

set_option maxHeartbeats 1000000 in
theorem lints12_any (s t : Option Addr × Nat × Nat) (z y : List Int) (B C : Nat) (w : World) (hz : Gr.RdZ B w s z) (hy : Gr.RdZ C w t y) :
    Calls Tryz.prog 37 #[.slice s.1 s.2.1 s.2.2, .slice t.1 t.2.1 t.2.2] w fun e w' => e = .returned (.bool (decide (z = y))) ∧ Keep (fun _ => False) w w' := by
  obtain ⟨a, n, c⟩ := s
  obtain ⟨a', n', c'⟩ := t
  have HN : Hid (n = z.length) := hz.1
  have HM : Hid (n' = y.length) := hy.1
  have hn2 : n ≤ 17592186044416 := hz.2.1
  have HZ := hide hz
  have HY := hide hy
  clear hz hy
  generalize hr : decide (z = y) = r
  have HR := hide hr
  clear hr
  by_cases hl : n = n'
  · subst hl
    go_enter Tryz.func37, Tryz.ntmps37
    go_wp2_with fail
    go_loopw [5] (fun iv wr => ∃ i : Nat, iv = .int .i64 (i : Nat) ∧ i ≤ n ∧ Hid (z.take i = y.take i ∧ Keep (fun _ => False) w wr)) (fun iv _ => n - (intOf iv).toNat)
    case atStart => exact ⟨0, rfl, Nat.zero_le _, rfl, Keep.refl _ _⟩
    case round =>
      obtain ⟨i, rfl, hi, HD⟩ := hrel
      by_cases hlt : i < n
      · obtain ⟨g, off, x, ha, hg, hx, hc⟩ := (HZ.out.new HD.out.2).at hlt
        obtain ⟨g', off', x', ha', hg', hx', hc'⟩ := (HY.out.new HD.out.2).at hlt
        have ha : a = some ⟨g, off, none⟩ := ha
        have ha' : a' = some ⟨g', off', none⟩ := ha'
        subst ha
        subst ha'
        have HX := hide hx
        have HX' := hide hx'
        clear hx hx' HZ HY
        by_cases e : x = x'
        · subst e
          go_wp2_with fail
          go_region
          go_wp2
          go_roundw
          · refine ⟨i + 1, rfl, by omega, ?_, HD.out.2.more (Keep.drew _ _)⟩
            rw [take_snoc' _ _ _ HX.out, take_snoc' _ _ _ HX'.out, HD.out.1]
          · show n - ((i : Int) + 1).toNat < n - (i : Int).toNat
            omega
        · obtain rfl : r = false := by
            rw [← HR.out]
            refine decide_eq_false fun h => e ?_
            have := HX.out
            rw [h, HX'.out] at this
            exact (Option.some.inj this).symm
          have hne : (x != x') = true := by simpa using e
          go_wp2_with fail
          go_region
          go_wp2
          go_ret
          exact ⟨rfl, HD.out.2.more (Keep.drew _ _)⟩
      · obtain rfl : i = n := by omega
        obtain rfl : r = true := by
          rw [← HR.out]
          refine decide_eq_true ?_
          have := HD.out.1
          rwa [List.take_of_length_le (by have := HN.out; omega), List.take_of_length_le (by have := HM.out; omega)] at this
        go_wp2_with fail
        go_ret
        exact ⟨rfl, HD.out.2⟩
  · obtain rfl : r = false := by
      rw [← HR.out]
      refine decide_eq_false fun h => hl ?_
      rw [HN.out, HM.out, h]
    have hl' : ¬ ((n : Int) = n') := by omega
    go_enter Tryz.func37, Tryz.ntmps37
    go_wp2_with fail
    go_ret
    exact ⟨rfl, Keep.refl _ _⟩
end Cd
end Go.Proofs.YtbjcckfhfbjchaaGreat
