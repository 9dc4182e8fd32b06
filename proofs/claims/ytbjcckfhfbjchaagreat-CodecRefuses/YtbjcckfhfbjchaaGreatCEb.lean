/- Codec: pack.Bytes and pack.Read of forms of structs (written by ceb_gen.py). -/
import Derived.Test.YtbjcckfhfbjchaaGreatCEa
namespace Go.Proofs.YtbjcckfhfbjchaaGreat
namespace Cd
open Go.RowKit Go.Deep

variable {bf : Nat × Nat}

set_option maxRecDepth 10000 in
set_option maxHeartbeats 1000000 in
theorem BytesPn (fn1 fn2 : FuncId) (cap1 cap2 : Array Value) (nm : ByteArray) (dl : Int) (x1 : Option Addr) (x2 x3 : Nat) (f : K.WS → K.WS) (most : Int) (s2 : K.WS) (hs2 : f ⟨[], room most, 0⟩ = s2) (w : World) (hp : PutsG (Lo bf w) w fn1 cap1 (.agg #[.string nm, .int .i64 dl, .slice x1 x2 x3]) f)
    (he : ∀ args w, (callFunc fn1 args).run Tryz.prog w = .ok (.enter fn1 args) w) :
    Calls Tryz.prog 28 #[.agg #[.func (.func fn1) #[] cap1, .func (.func fn2) #[] cap2], .agg #[.string nm, .int .i64 dl, .slice x1 x2 x3], .int .i64 most] w fun en w' =>
      ∃ v, en = .returned (.tuple #[v, .int .i64 (s2.fault : Nat)]) ∧ w'.ownsRow w.heap.size 5 1 v (told s2).length (B8 (told s2)) ∧ Below w.heap.size w w' ∧ Fine (told s2) := by
  have HB : Hid (Below w.heap.size w ((w.alloc (.cells #[.func (.func fn1) #[] cap1, .func (.func fn2) #[] cap2] 73)).alloc (.cells #[.string nm, .int .i64 dl, .slice x1 x2 x3] 30))) := ((Below.refl _ _).alloc (Nat.le_refl _) _).alloc (by simp) _
  obtain ⟨hF, hX⟩ := blk2 w (.cells #[.func (.func fn1) #[] cap1, .func (.func fn2) #[] cap2] 73) (.cells #[.string nm, .int .i64 dl, .slice x1 x2 x3] 30)
  have hsz : ((w.alloc (.cells #[.func (.func fn1) #[] cap1, .func (.func fn2) #[] cap2] 73)).alloc (.cells #[.string nm, .int .i64 dl, .slice x1 x2 x3] 30)).heap.size = w.heap.size + 1 + 1 := by simp
  have HF := hide hF
  have HX := hide hX
  have HP := hide hp
  have HE := hide he
  have HS2 := hide hs2
  have HSZ := hide hsz
  have HI : Hid ((Tryz.prog.info? 30).map (·.size) = some (#[.string nm, .int .i64 dl, .slice x1 x2 x3] : Array Value).size) := sizePn
  clear hp he hs2 hF hX hsz
  go_enter Tryz.func28, Tryz.ntmps28
  go_upto_region 1 with fail
  change Code.wp _ _ _ _ ((w.alloc (.cells #[.func (.func fn1) #[] cap1, .func (.func fn2) #[] cap2] 73)).alloc (.cells #[.string nm, .int .i64 dl, .slice x1 x2 x3] 30))
  generalize (w.alloc (.cells #[.func (.func fn1) #[] cap1, .func (.func fn2) #[] cap2] 73)).alloc (.cells #[.string nm, .int .i64 dl, .slice x1 x2 x3] 30) = wa at *
  go_wp2_with fail
  refine (NewWriter_any most _).mono ?_
  rintro e w1 ⟨rfl, h1⟩
  have HH := hide h1
  have hblk := h1.keep.blk HF.out (by have := HSZ.out; show ¬ _ ≤ _; omega)
  obtain ⟨c0, c1⟩ := cells2 hblk
  have HX1 := hide (h1.keep.blk HX.out (by have := HSZ.out; show ¬ _ ≤ _; omega))
  clear h1 hblk
  generalize hbb : wa.heap.size = B at *
  have HBB := hide hbb
  clear hbb
  have HPU := hide (PutPn (fun k => B ≤ k) wa B fn1 fn2 cap1 cap2 nm dl x1 x2 x3 f ⟨[], room most, 0⟩ _ HH.out (HP.out _ _ _ ((Agree.below HB.out).mono fun k hk => hk.1) (fun k hk => by show ¬ B ≤ k; have := HSZ.out; have : k < w.heap.size := hk.1; omega)) HE.out)
  go_upto_region 3 with (first
    | (refine wpList_load_row rfl 30 _ rfl (w.heap.size + 1) rfl 30 #[.string nm, .int .i64 dl, .slice x1 x2 x3] (0, 0) _ HX1.out Tryz.underlying30 rfl HI.out ?_)
    | (go_at_call 53; refine HPU.out.mono ?_; rintro e w2 ⟨rfl, h2⟩))
  rw [putW_zero rfl, HS2.out] at h2
  have H2 := hide h2
  clear h2 c0 c1 HPU
  go_wp2_with fail
  refine (Done_any _ wa B _ _ H2.out).mono ?_
  rintro e w3 ⟨v, rfl, ho, hb, hfn⟩
  have hb2 : Below w.heap.size w w2 := HB.out.trans (H2.out.keep.below (by have := HSZ.out; have := HBB.out; omega) (fun i hi => by have : B ≤ i := hi; have := HSZ.out; omega))
  have HO := hide (ownsRow_base ho hb2.size)
  have HBL := hide (further hb2 hb)
  have HFN := hide hfn
  clear ho hb hb2 hfn
  go_wp2
  go_ret2
  exact ⟨v, rfl, HO.out, HBL.out, HFN.out⟩
theorem restPn {fn : Func} {p u : Tmp} (hh : fn.results = #[.cell p 30, .tmp u]) (tmps : Array Value) (w : World) (g : Nat) (cs : Array Value) (hs : cs.size = 3) (hp : tmps.getD p undef = .pointer (some ⟨g, 0, none⟩)) (hg : w.heap[g]? = some (.cells cs 30 (0, 0))) :
    (results fn tmps).run Tryz.prog w = .ok (.tuple #[.agg cs, tmps.getD u undef]) w := by
  have hp' : tmps[p]?.getD undef = .pointer (some ⟨g, 0, none⟩) := by simpa using hp
  simp [results, hh, hp', asAddr, run_loadVar_row w g 30 30 cs (0, 0) _ hg Tryz.underlying30 rfl (by rw [sizePn, hs])]
set_option maxRecDepth 10000 in
set_option maxHeartbeats 2000000 in
theorem ReadPn (fn1 fn2 : FuncId) (cap1 cap2 : Array Value) (a : Option Addr) (n c : Nat) (l : List Nat) (g : K.RS → K.RS) (V : K.RS → World → Value → Prop) (hV : ∀ s, StableT 30 (V s)) (s' : K.RS) (hs' : takeR g (newR l) = s') (r : Nat) (hr : endR s' = r) (w : World) (h : Rd w a n l) (h0 : a = none → c = 0)
    (ht : TakesFG (Lo bf w) w fn2 cap2 g V ShPn) (he : ∀ args w, (callFunc fn2 args).run Tryz.prog w = .ok (.enter fn2 args) w) :
    Calls Tryz.prog 35 #[.agg #[.func (.func fn1) #[] cap1, .func (.func fn2) #[] cap2], .slice a n c] w fun en w' =>
      ∃ v, en = .returned (.tuple #[v, .int .i64 (r : Nat)]) ∧ ShPn v ∧ (r = 0 → V (newR l) w' v) ∧ (r ≠ 0 → v = .agg #[.string ⟨#[]⟩, .int .i64 0, .slice none 0 0]) ∧ Below w.heap.size w w' := by
  have HB : Hid (Below w.heap.size w ((w.alloc (.cells #[.func (.func fn1) #[] cap1, .func (.func fn2) #[] cap2] 73)).alloc (.cells #[.string ⟨#[]⟩, .int .i64 0, .slice none 0 0] 30))) := ((Below.refl _ _).alloc (Nat.le_refl _) _).alloc (by simp) _
  obtain ⟨hF, hE⟩ := blk2 w (.cells #[.func (.func fn1) #[] cap1, .func (.func fn2) #[] cap2] 73) (.cells #[.string ⟨#[]⟩, .int .i64 0, .slice none 0 0] 30)
  have hsz : ((w.alloc (.cells #[.func (.func fn1) #[] cap1, .func (.func fn2) #[] cap2] 73)).alloc (.cells #[.string ⟨#[]⟩, .int .i64 0, .slice none 0 0] 30)).heap.size = w.heap.size + 1 + 1 := by simp
  have HF := hide hF
  have HE := hide hE
  have HSZ := hide hsz
  have HT := hide ht
  have HV := hide hV
  have HR := hide (h.keep HB.out)
  have H0 := hide h0
  have HC := hide he
  have HS := hide hs'
  have HRR := hide hr
  have HIZ : Hid ((Tryz.prog.info? 30).map (·.size) = some (#[.string ⟨#[]⟩, .int .i64 0, .slice none 0 0] : Array Value).size) := sizePn
  have HOZ : Hid ((#[.string ⟨#[]⟩, .int .i64 0, .slice none 0 0] : Array Value).all (·.oneCell') = true) := by show _ = _; simp [Value.oneCell']
  clear ht hV h h0 he hs' hr hF hE hsz
  go_enter Tryz.func35, Tryz.ntmps35
  go_upto_region 1 with fail
  change Code.wp _ _ _ _ ((w.alloc (.cells #[.func (.func fn1) #[] cap1, .func (.func fn2) #[] cap2] 73)).alloc (.cells #[.string ⟨#[]⟩, .int .i64 0, .slice none 0 0] 30))
  generalize (w.alloc (.cells #[.func (.func fn1) #[] cap1, .func (.func fn2) #[] cap2] 73)).alloc (.cells #[.string ⟨#[]⟩, .int .i64 0, .slice none 0 0] 30) = wa at *
  go_wp2_with fail
  refine (NewReader_any a n c l _ HR.out H0.out).mono ?_
  rintro e w1 ⟨q, rfl, hrr, hq, hb1⟩
  obtain ⟨d0, d1⟩ := cells2 (blkB HF.out hb1)
  have HE1 := hide (blkB HE.out hb1)
  have HB1 := hide (HB.out.trans (hb1.mono HB.out.size))
  have HQ : Hid (w.heap.size + 1 + 1 ≤ q) := by have := HSZ.out; show _ ≤ _; omega
  have HRD := hide hrr
  clear hb1 hq hrr
  have TK := hide (TakePn q fn1 fn2 cap1 cap2 (newR l) s' (V (newR l)) (HV.out _) w1 HRD.out (fun hz w2 hb2 => by
    rw [← HS.out, takeR, if_pos hz]
    exact HT.out q (newR l) w2 ((Agree.below (further HB1.out hb2)).mono fun k hk => hk.1) (fun hk => by have := HQ.out; have := hk.1; omega) (HRD.out.below hb2) hz) (fun hz => by rw [← HS.out, takeR, if_neg hz]) HC.out)
  go_upto_region 3 with (first
    | (refine wpList_store_row rfl 30 _ _ rfl w2.heap.size #[.string nm, .int .i64 dl, .slice x1 x2 x3] rfl rfl 30 _ HA.out HI.out rfl HO1.out ?_)
    | (go_at_call 70; refine TK.out.mono ?_; rintro e w2 ⟨hk2, v, rfl, ⟨nm, dl, x1, x2, x3, rfl⟩, hr2, hv, hnv⟩; have HR2 := hide hr2; have HB2 := hide (HB1.out.trans (hk2.below (B := w.heap.size) (by have := HB1.out.size; omega) (fun i hi => by have := HQ.out; have : i = q := hi; omega))); have HE2 := hide (hk2.blk HE1.out (by have := HQ.out; show ¬ _ = _; omega)); have HVV := hide hv; have HNV := hide hnv; have HI : Hid ((Tryz.prog.info? 30).map (·.size) = some (#[.string nm, .int .i64 dl, .slice x1 x2 x3] : Array Value).size) := sizePn; have HO1 := hide (onesPn nm dl x1 x2 x3); have HA := hide (heap_alloc_new w2 (.cells #[.string ⟨#[]⟩, .int .i64 0, .slice none 0 0] 30)); clear hk2 hr2 hv hnv d0 d1 TK HE1))
  have hx3 := setRow_heap (w2.alloc (.cells #[.string ⟨#[]⟩, .int .i64 0, .slice none 0 0] 30)) w2.heap.size _ #[.string nm, .int .i64 dl, .slice x1 x2 x3] _ _ HA.out
  have hb3 : Below w2.heap.size w2 ((w2.alloc (.cells #[.string ⟨#[]⟩, .int .i64 0, .slice none 0 0] 30)).setRow w2.heap.size #[.string nm, .int .i64 dl, .slice x1 x2 x3]) := ((Below.refl _ _).alloc (Nat.le_refl _) _).trans ((keep_row _ _ _).below (by simp) fun k e => by rw [e]; exact Nat.le_refl _)
  have HX3 := hide hx3
  have HR3 := hide (HR2.out.below hb3)
  have HB3 := hide (HB2.out.trans (hb3.mono HB2.out.size))
  have HE3 := hide (blkB HE2.out hb3)
  have HV3 : Hid (s'.fault = 0 → V (newR l) ((w2.alloc (.cells #[.string ⟨#[]⟩, .int .i64 0, .slice none 0 0] 30)).setRow w2.heap.size #[.string nm, .int .i64 dl, .slice x1 x2 x3]) (.agg #[.string nm, .int .i64 dl, .slice x1 x2 x3])) := fun hz => (HV.out _).stable _ _ _ (HVV.out hz) hb3
  clear hx3 hb3 HR2 HB2 HE2 HVV HA
  change Code.wp _ _ _ _ ((w2.alloc (.cells #[.string ⟨#[]⟩, .int .i64 0, .slice none 0 0] 30)).setRow w2.heap.size #[.string nm, .int .i64 dl, .slice x1 x2 x3])
  generalize (w2.alloc (.cells #[.string ⟨#[]⟩, .int .i64 0, .slice none 0 0] 30)).setRow w2.heap.size #[.string nm, .int .i64 dl, .slice x1 x2 x3] = w3 at *
  generalize w2.heap.size = xb at *
  go_wp2_with fail
  refine (End_any q s' _ HR3.out).mono ?_
  rintro e w4 ⟨rfl, hb4⟩
  rw [HRR.out]
  have HB4 := hide (HB3.out.trans (hb4.mono HB3.out.size))
  have HX4 := hide (blkB HX3.out hb4)
  have HE4 := hide (blkB HE3.out hb4)
  have HV4 : Hid (s'.fault = 0 → V (newR l) w4 (.agg #[.string nm, .int .i64 dl, .slice x1 x2 x3])) := fun hz => (HV.out _).stable _ _ _ (HV3.out hz) hb4
  clear hb4 HB3 HX3 HE3 HV3 HR3
  by_cases hz : r = 0
  · subst hz
    go_wp2_with (first
      | (refine wpList_load_row rfl 30 _ rfl xb rfl 30 #[.string nm, .int .i64 dl, .slice x1 x2 x3] (0, 0) _ HX4.out Tryz.underlying30 rfl HI.out ?_)
      | (refine wpList_store_row rfl 30 _ _ rfl (w.heap.size + 1) #[.string nm, .int .i64 dl, .slice x1 x2 x3] rfl rfl 30 _ HE4.out HI.out rfl HO1.out ?_))
    have HX := hide (setRow_heap _ (w.heap.size + 1) _ #[.string nm, .int .i64 dl, .slice x1 x2 x3] _ _ HE4.out)
    have HK := hide (keep_row w4 (w.heap.size + 1) #[.string nm, .int .i64 dl, .slice x1 x2 x3])
    exact bodyPost_ret (restPn rfl _ _ (w.heap.size + 1) _ rfl rfl HX.out) rfl ⟨_, rfl, ⟨_, _, _, _, _, rfl⟩, StableT.row (HV.out _) (HV4.out (endR_ok HRR.out)) HE4.out _, HB4.out.trans (HK.out.below (by have := HB4.out.size; omega) fun i e => by have e : i = _ := e; omega)⟩
  · have hzz : ((r : Int) == 0) = false := by simpa using hz
    have HZ := hide hz
    clear hz
    have HA5 := hide (heap_alloc_new w4 (.cells #[.string ⟨#[]⟩, .int .i64 0, .slice none 0 0] 30))
    have hbA : Below w4.heap.size w4 (w4.alloc (.cells #[.string ⟨#[]⟩, .int .i64 0, .slice none 0 0] 30)) := (Below.refl _ _).alloc (Nat.le_refl _) _
    have HE5 := hide (blkB HE4.out hbA)
    have HB5 := hide (HB4.out.trans (hbA.mono HB4.out.size))
    clear hbA
    go_wp2_with (first
      | (refine wpList_load_row rfl 30 _ rfl w4.heap.size rfl 30 #[.string ⟨#[]⟩, .int .i64 0, .slice none 0 0] (0, 0) _ HA5.out Tryz.underlying30 rfl HIZ.out ?_)
      | (refine wpList_store_row rfl 30 _ _ rfl (w.heap.size + 1) #[.string ⟨#[]⟩, .int .i64 0, .slice none 0 0] rfl rfl 30 _ HE5.out HIZ.out rfl HOZ.out ?_))
    have HX := hide (setRow_heap _ (w.heap.size + 1) _ #[.string ⟨#[]⟩, .int .i64 0, .slice none 0 0] _ _ HE5.out)
    have HK := hide (keep_row (w4.alloc (.cells #[.string ⟨#[]⟩, .int .i64 0, .slice none 0 0] 30)) (w.heap.size + 1) #[.string ⟨#[]⟩, .int .i64 0, .slice none 0 0])
    exact bodyPost_ret (restPn rfl _ _ (w.heap.size + 1) _ rfl rfl HX.out) rfl ⟨_, rfl, ⟨_, _, _, _, _, rfl⟩, fun h => absurd h HZ.out, fun _ => rfl, HB5.out.trans (HK.out.below (by have := HB5.out.size; omega) fun i e => by have e : i = _ := e; omega)⟩

set_option maxRecDepth 10000 in
set_option maxHeartbeats 1000000 in
theorem BytesOp (fn1 fn2 : FuncId) (cap1 cap2 : Array Value) (ki : Int) (nm : ByteArray) (dl : Int) (x1 : Option Addr) (x2 x3 : Nat) (ky : ByteArray) (la : Int) (wo : Int) (tk : Int) (y1 : Option Addr) (y2 y3 : Nat) (ru : Int) (lu : Int) (ti : Int) (f : K.WS → K.WS) (most : Int) (s2 : K.WS) (hs2 : f ⟨[], room most, 0⟩ = s2) (w : World) (hp : PutsG (Lo bf w) w fn1 cap1 (.agg #[.int .i64 ki, .string nm, .int .i64 dl, .slice x1 x2 x3, .string ky, .int .i64 la, .int .i64 wo, .int .i64 tk, .slice y1 y2 y3, .int .i64 ru, .int .u64 lu, .int .i64 ti]) f)
    (he : ∀ args w, (callFunc fn1 args).run Tryz.prog w = .ok (.enter fn1 args) w) :
    Calls Tryz.prog 25 #[.agg #[.func (.func fn1) #[] cap1, .func (.func fn2) #[] cap2], .agg #[.int .i64 ki, .string nm, .int .i64 dl, .slice x1 x2 x3, .string ky, .int .i64 la, .int .i64 wo, .int .i64 tk, .slice y1 y2 y3, .int .i64 ru, .int .u64 lu, .int .i64 ti], .int .i64 most] w fun en w' =>
      ∃ v, en = .returned (.tuple #[v, .int .i64 (s2.fault : Nat)]) ∧ w'.ownsRow w.heap.size 5 1 v (told s2).length (B8 (told s2)) ∧ Below w.heap.size w w' ∧ Fine (told s2) := by
  have HB : Hid (Below w.heap.size w ((w.alloc (.cells #[.func (.func fn1) #[] cap1, .func (.func fn2) #[] cap2] 65)).alloc (.cells #[.int .i64 ki, .string nm, .int .i64 dl, .slice x1 x2 x3, .string ky, .int .i64 la, .int .i64 wo, .int .i64 tk, .slice y1 y2 y3, .int .i64 ru, .int .u64 lu, .int .i64 ti] 32))) := ((Below.refl _ _).alloc (Nat.le_refl _) _).alloc (by simp) _
  obtain ⟨hF, hX⟩ := blk2 w (.cells #[.func (.func fn1) #[] cap1, .func (.func fn2) #[] cap2] 65) (.cells #[.int .i64 ki, .string nm, .int .i64 dl, .slice x1 x2 x3, .string ky, .int .i64 la, .int .i64 wo, .int .i64 tk, .slice y1 y2 y3, .int .i64 ru, .int .u64 lu, .int .i64 ti] 32)
  have hsz : ((w.alloc (.cells #[.func (.func fn1) #[] cap1, .func (.func fn2) #[] cap2] 65)).alloc (.cells #[.int .i64 ki, .string nm, .int .i64 dl, .slice x1 x2 x3, .string ky, .int .i64 la, .int .i64 wo, .int .i64 tk, .slice y1 y2 y3, .int .i64 ru, .int .u64 lu, .int .i64 ti] 32)).heap.size = w.heap.size + 1 + 1 := by simp
  have HF := hide hF
  have HX := hide hX
  have HP := hide hp
  have HE := hide he
  have HS2 := hide hs2
  have HSZ := hide hsz
  have HI : Hid ((Tryz.prog.info? 32).map (·.size) = some (#[.int .i64 ki, .string nm, .int .i64 dl, .slice x1 x2 x3, .string ky, .int .i64 la, .int .i64 wo, .int .i64 tk, .slice y1 y2 y3, .int .i64 ru, .int .u64 lu, .int .i64 ti] : Array Value).size) := sizeOp
  clear hp he hs2 hF hX hsz
  go_enter Tryz.func25, Tryz.ntmps25
  go_upto_region 1 with fail
  change Code.wp _ _ _ _ ((w.alloc (.cells #[.func (.func fn1) #[] cap1, .func (.func fn2) #[] cap2] 65)).alloc (.cells #[.int .i64 ki, .string nm, .int .i64 dl, .slice x1 x2 x3, .string ky, .int .i64 la, .int .i64 wo, .int .i64 tk, .slice y1 y2 y3, .int .i64 ru, .int .u64 lu, .int .i64 ti] 32))
  generalize (w.alloc (.cells #[.func (.func fn1) #[] cap1, .func (.func fn2) #[] cap2] 65)).alloc (.cells #[.int .i64 ki, .string nm, .int .i64 dl, .slice x1 x2 x3, .string ky, .int .i64 la, .int .i64 wo, .int .i64 tk, .slice y1 y2 y3, .int .i64 ru, .int .u64 lu, .int .i64 ti] 32) = wa at *
  go_wp2_with fail
  refine (NewWriter_any most _).mono ?_
  rintro e w1 ⟨rfl, h1⟩
  have HH := hide h1
  have hblk := h1.keep.blk HF.out (by have := HSZ.out; show ¬ _ ≤ _; omega)
  obtain ⟨c0, c1⟩ := cells2 hblk
  have HX1 := hide (h1.keep.blk HX.out (by have := HSZ.out; show ¬ _ ≤ _; omega))
  clear h1 hblk
  generalize hbb : wa.heap.size = B at *
  have HBB := hide hbb
  clear hbb
  have HPU := hide (PutOp (fun k => B ≤ k) wa B fn1 fn2 cap1 cap2 ki nm dl x1 x2 x3 ky la wo tk y1 y2 y3 ru lu ti f ⟨[], room most, 0⟩ _ HH.out (HP.out _ _ _ ((Agree.below HB.out).mono fun k hk => hk.1) (fun k hk => by show ¬ B ≤ k; have := HSZ.out; have : k < w.heap.size := hk.1; omega)) HE.out)
  go_upto_region 3 with (first
    | (refine wpList_load_row rfl 32 _ rfl (w.heap.size + 1) rfl 32 #[.int .i64 ki, .string nm, .int .i64 dl, .slice x1 x2 x3, .string ky, .int .i64 la, .int .i64 wo, .int .i64 tk, .slice y1 y2 y3, .int .i64 ru, .int .u64 lu, .int .i64 ti] (0, 0) _ HX1.out Tryz.underlying32 rfl HI.out ?_)
    | (go_at_call 41; refine HPU.out.mono ?_; rintro e w2 ⟨rfl, h2⟩))
  rw [putW_zero rfl, HS2.out] at h2
  have H2 := hide h2
  clear h2 c0 c1 HPU
  go_wp2_with fail
  refine (Done_any _ wa B _ _ H2.out).mono ?_
  rintro e w3 ⟨v, rfl, ho, hb, hfn⟩
  have hb2 : Below w.heap.size w w2 := HB.out.trans (H2.out.keep.below (by have := HSZ.out; have := HBB.out; omega) (fun i hi => by have : B ≤ i := hi; have := HSZ.out; omega))
  have HO := hide (ownsRow_base ho hb2.size)
  have HBL := hide (further hb2 hb)
  have HFN := hide hfn
  clear ho hb hb2 hfn
  go_wp2
  go_ret2
  exact ⟨v, rfl, HO.out, HBL.out, HFN.out⟩
theorem restOp {fn : Func} {p u : Tmp} (hh : fn.results = #[.cell p 32, .tmp u]) (tmps : Array Value) (w : World) (g : Nat) (cs : Array Value) (hs : cs.size = 12) (hp : tmps.getD p undef = .pointer (some ⟨g, 0, none⟩)) (hg : w.heap[g]? = some (.cells cs 32 (0, 0))) :
    (results fn tmps).run Tryz.prog w = .ok (.tuple #[.agg cs, tmps.getD u undef]) w := by
  have hp' : tmps[p]?.getD undef = .pointer (some ⟨g, 0, none⟩) := by simpa using hp
  simp [results, hh, hp', asAddr, run_loadVar_row w g 32 32 cs (0, 0) _ hg Tryz.underlying32 rfl (by rw [sizeOp, hs])]
set_option maxRecDepth 10000 in
set_option maxHeartbeats 2000000 in
theorem ReadOp (fn1 fn2 : FuncId) (cap1 cap2 : Array Value) (a : Option Addr) (n c : Nat) (l : List Nat) (g : K.RS → K.RS) (V : K.RS → World → Value → Prop) (hV : ∀ s, StableT 32 (V s)) (s' : K.RS) (hs' : takeR g (newR l) = s') (r : Nat) (hr : endR s' = r) (w : World) (h : Rd w a n l) (h0 : a = none → c = 0)
    (ht : TakesFG (Lo bf w) w fn2 cap2 g V ShOp) (he : ∀ args w, (callFunc fn2 args).run Tryz.prog w = .ok (.enter fn2 args) w) :
    Calls Tryz.prog 33 #[.agg #[.func (.func fn1) #[] cap1, .func (.func fn2) #[] cap2], .slice a n c] w fun en w' =>
      ∃ v, en = .returned (.tuple #[v, .int .i64 (r : Nat)]) ∧ ShOp v ∧ (r = 0 → V (newR l) w' v) ∧ (r ≠ 0 → v = .agg #[.int .i64 0, .string ⟨#[]⟩, .int .i64 0, .slice none 0 0, .string ⟨#[]⟩, .int .i64 0, .int .i64 0, .int .i64 0, .slice none 0 0, .int .i64 0, .int .u64 0, .int .i64 0]) ∧ Below w.heap.size w w' := by
  have HB : Hid (Below w.heap.size w ((w.alloc (.cells #[.func (.func fn1) #[] cap1, .func (.func fn2) #[] cap2] 65)).alloc (.cells #[.int .i64 0, .string ⟨#[]⟩, .int .i64 0, .slice none 0 0, .string ⟨#[]⟩, .int .i64 0, .int .i64 0, .int .i64 0, .slice none 0 0, .int .i64 0, .int .u64 0, .int .i64 0] 32))) := ((Below.refl _ _).alloc (Nat.le_refl _) _).alloc (by simp) _
  obtain ⟨hF, hE⟩ := blk2 w (.cells #[.func (.func fn1) #[] cap1, .func (.func fn2) #[] cap2] 65) (.cells #[.int .i64 0, .string ⟨#[]⟩, .int .i64 0, .slice none 0 0, .string ⟨#[]⟩, .int .i64 0, .int .i64 0, .int .i64 0, .slice none 0 0, .int .i64 0, .int .u64 0, .int .i64 0] 32)
  have hsz : ((w.alloc (.cells #[.func (.func fn1) #[] cap1, .func (.func fn2) #[] cap2] 65)).alloc (.cells #[.int .i64 0, .string ⟨#[]⟩, .int .i64 0, .slice none 0 0, .string ⟨#[]⟩, .int .i64 0, .int .i64 0, .int .i64 0, .slice none 0 0, .int .i64 0, .int .u64 0, .int .i64 0] 32)).heap.size = w.heap.size + 1 + 1 := by simp
  have HF := hide hF
  have HE := hide hE
  have HSZ := hide hsz
  have HT := hide ht
  have HV := hide hV
  have HR := hide (h.keep HB.out)
  have H0 := hide h0
  have HC := hide he
  have HS := hide hs'
  have HRR := hide hr
  have HIZ : Hid ((Tryz.prog.info? 32).map (·.size) = some (#[.int .i64 0, .string ⟨#[]⟩, .int .i64 0, .slice none 0 0, .string ⟨#[]⟩, .int .i64 0, .int .i64 0, .int .i64 0, .slice none 0 0, .int .i64 0, .int .u64 0, .int .i64 0] : Array Value).size) := sizeOp
  have HOZ : Hid ((#[.int .i64 0, .string ⟨#[]⟩, .int .i64 0, .slice none 0 0, .string ⟨#[]⟩, .int .i64 0, .int .i64 0, .int .i64 0, .slice none 0 0, .int .i64 0, .int .u64 0, .int .i64 0] : Array Value).all (·.oneCell') = true) := by show _ = _; simp [Value.oneCell']
  clear ht hV h h0 he hs' hr hF hE hsz
  go_enter Tryz.func33, Tryz.ntmps33
  go_upto_region 1 with fail
  change Code.wp _ _ _ _ ((w.alloc (.cells #[.func (.func fn1) #[] cap1, .func (.func fn2) #[] cap2] 65)).alloc (.cells #[.int .i64 0, .string ⟨#[]⟩, .int .i64 0, .slice none 0 0, .string ⟨#[]⟩, .int .i64 0, .int .i64 0, .int .i64 0, .slice none 0 0, .int .i64 0, .int .u64 0, .int .i64 0] 32))
  generalize (w.alloc (.cells #[.func (.func fn1) #[] cap1, .func (.func fn2) #[] cap2] 65)).alloc (.cells #[.int .i64 0, .string ⟨#[]⟩, .int .i64 0, .slice none 0 0, .string ⟨#[]⟩, .int .i64 0, .int .i64 0, .int .i64 0, .slice none 0 0, .int .i64 0, .int .u64 0, .int .i64 0] 32) = wa at *
  go_wp2_with fail
  refine (NewReader_any a n c l _ HR.out H0.out).mono ?_
  rintro e w1 ⟨q, rfl, hrr, hq, hb1⟩
  obtain ⟨d0, d1⟩ := cells2 (blkB HF.out hb1)
  have HE1 := hide (blkB HE.out hb1)
  have HB1 := hide (HB.out.trans (hb1.mono HB.out.size))
  have HQ : Hid (w.heap.size + 1 + 1 ≤ q) := by have := HSZ.out; show _ ≤ _; omega
  have HRD := hide hrr
  clear hb1 hq hrr
  have TK := hide (TakeOp q fn1 fn2 cap1 cap2 (newR l) s' (V (newR l)) (HV.out _) w1 HRD.out (fun hz w2 hb2 => by
    rw [← HS.out, takeR, if_pos hz]
    exact HT.out q (newR l) w2 ((Agree.below (further HB1.out hb2)).mono fun k hk => hk.1) (fun hk => by have := HQ.out; have := hk.1; omega) (HRD.out.below hb2) hz) (fun hz => by rw [← HS.out, takeR, if_neg hz]) HC.out)
  go_upto_region 3 with (first
    | (refine wpList_store_row rfl 32 _ _ rfl w2.heap.size #[.int .i64 ki, .string nm, .int .i64 dl, .slice x1 x2 x3, .string ky, .int .i64 la, .int .i64 wo, .int .i64 tk, .slice y1 y2 y3, .int .i64 ru, .int .u64 lu, .int .i64 ti] rfl rfl 32 _ HA.out HI.out rfl HO1.out ?_)
    | (go_at_call 66; refine TK.out.mono ?_; rintro e w2 ⟨hk2, v, rfl, ⟨ki, nm, dl, x1, x2, x3, ky, la, wo, tk, y1, y2, y3, ru, lu, ti, rfl⟩, hr2, hv, hnv⟩; have HR2 := hide hr2; have HB2 := hide (HB1.out.trans (hk2.below (B := w.heap.size) (by have := HB1.out.size; omega) (fun i hi => by have := HQ.out; have : i = q := hi; omega))); have HE2 := hide (hk2.blk HE1.out (by have := HQ.out; show ¬ _ = _; omega)); have HVV := hide hv; have HNV := hide hnv; have HI : Hid ((Tryz.prog.info? 32).map (·.size) = some (#[.int .i64 ki, .string nm, .int .i64 dl, .slice x1 x2 x3, .string ky, .int .i64 la, .int .i64 wo, .int .i64 tk, .slice y1 y2 y3, .int .i64 ru, .int .u64 lu, .int .i64 ti] : Array Value).size) := sizeOp; have HO1 := hide (onesOp ki nm dl x1 x2 x3 ky la wo tk y1 y2 y3 ru lu ti); have HA := hide (heap_alloc_new w2 (.cells #[.int .i64 0, .string ⟨#[]⟩, .int .i64 0, .slice none 0 0, .string ⟨#[]⟩, .int .i64 0, .int .i64 0, .int .i64 0, .slice none 0 0, .int .i64 0, .int .u64 0, .int .i64 0] 32)); clear hk2 hr2 hv hnv d0 d1 TK HE1))
  have hx3 := setRow_heap (w2.alloc (.cells #[.int .i64 0, .string ⟨#[]⟩, .int .i64 0, .slice none 0 0, .string ⟨#[]⟩, .int .i64 0, .int .i64 0, .int .i64 0, .slice none 0 0, .int .i64 0, .int .u64 0, .int .i64 0] 32)) w2.heap.size _ #[.int .i64 ki, .string nm, .int .i64 dl, .slice x1 x2 x3, .string ky, .int .i64 la, .int .i64 wo, .int .i64 tk, .slice y1 y2 y3, .int .i64 ru, .int .u64 lu, .int .i64 ti] _ _ HA.out
  have hb3 : Below w2.heap.size w2 ((w2.alloc (.cells #[.int .i64 0, .string ⟨#[]⟩, .int .i64 0, .slice none 0 0, .string ⟨#[]⟩, .int .i64 0, .int .i64 0, .int .i64 0, .slice none 0 0, .int .i64 0, .int .u64 0, .int .i64 0] 32)).setRow w2.heap.size #[.int .i64 ki, .string nm, .int .i64 dl, .slice x1 x2 x3, .string ky, .int .i64 la, .int .i64 wo, .int .i64 tk, .slice y1 y2 y3, .int .i64 ru, .int .u64 lu, .int .i64 ti]) := ((Below.refl _ _).alloc (Nat.le_refl _) _).trans ((keep_row _ _ _).below (by simp) fun k e => by rw [e]; exact Nat.le_refl _)
  have HX3 := hide hx3
  have HR3 := hide (HR2.out.below hb3)
  have HB3 := hide (HB2.out.trans (hb3.mono HB2.out.size))
  have HE3 := hide (blkB HE2.out hb3)
  have HV3 : Hid (s'.fault = 0 → V (newR l) ((w2.alloc (.cells #[.int .i64 0, .string ⟨#[]⟩, .int .i64 0, .slice none 0 0, .string ⟨#[]⟩, .int .i64 0, .int .i64 0, .int .i64 0, .slice none 0 0, .int .i64 0, .int .u64 0, .int .i64 0] 32)).setRow w2.heap.size #[.int .i64 ki, .string nm, .int .i64 dl, .slice x1 x2 x3, .string ky, .int .i64 la, .int .i64 wo, .int .i64 tk, .slice y1 y2 y3, .int .i64 ru, .int .u64 lu, .int .i64 ti]) (.agg #[.int .i64 ki, .string nm, .int .i64 dl, .slice x1 x2 x3, .string ky, .int .i64 la, .int .i64 wo, .int .i64 tk, .slice y1 y2 y3, .int .i64 ru, .int .u64 lu, .int .i64 ti])) := fun hz => (HV.out _).stable _ _ _ (HVV.out hz) hb3
  clear hx3 hb3 HR2 HB2 HE2 HVV HA
  change Code.wp _ _ _ _ ((w2.alloc (.cells #[.int .i64 0, .string ⟨#[]⟩, .int .i64 0, .slice none 0 0, .string ⟨#[]⟩, .int .i64 0, .int .i64 0, .int .i64 0, .slice none 0 0, .int .i64 0, .int .u64 0, .int .i64 0] 32)).setRow w2.heap.size #[.int .i64 ki, .string nm, .int .i64 dl, .slice x1 x2 x3, .string ky, .int .i64 la, .int .i64 wo, .int .i64 tk, .slice y1 y2 y3, .int .i64 ru, .int .u64 lu, .int .i64 ti])
  generalize (w2.alloc (.cells #[.int .i64 0, .string ⟨#[]⟩, .int .i64 0, .slice none 0 0, .string ⟨#[]⟩, .int .i64 0, .int .i64 0, .int .i64 0, .slice none 0 0, .int .i64 0, .int .u64 0, .int .i64 0] 32)).setRow w2.heap.size #[.int .i64 ki, .string nm, .int .i64 dl, .slice x1 x2 x3, .string ky, .int .i64 la, .int .i64 wo, .int .i64 tk, .slice y1 y2 y3, .int .i64 ru, .int .u64 lu, .int .i64 ti] = w3 at *
  generalize w2.heap.size = xb at *
  go_wp2_with fail
  refine (End_any q s' _ HR3.out).mono ?_
  rintro e w4 ⟨rfl, hb4⟩
  rw [HRR.out]
  have HB4 := hide (HB3.out.trans (hb4.mono HB3.out.size))
  have HX4 := hide (blkB HX3.out hb4)
  have HE4 := hide (blkB HE3.out hb4)
  have HV4 : Hid (s'.fault = 0 → V (newR l) w4 (.agg #[.int .i64 ki, .string nm, .int .i64 dl, .slice x1 x2 x3, .string ky, .int .i64 la, .int .i64 wo, .int .i64 tk, .slice y1 y2 y3, .int .i64 ru, .int .u64 lu, .int .i64 ti])) := fun hz => (HV.out _).stable _ _ _ (HV3.out hz) hb4
  clear hb4 HB3 HX3 HE3 HV3 HR3
  by_cases hz : r = 0
  · subst hz
    go_wp2_with (first
      | (refine wpList_load_row rfl 32 _ rfl xb rfl 32 #[.int .i64 ki, .string nm, .int .i64 dl, .slice x1 x2 x3, .string ky, .int .i64 la, .int .i64 wo, .int .i64 tk, .slice y1 y2 y3, .int .i64 ru, .int .u64 lu, .int .i64 ti] (0, 0) _ HX4.out Tryz.underlying32 rfl HI.out ?_)
      | (refine wpList_store_row rfl 32 _ _ rfl (w.heap.size + 1) #[.int .i64 ki, .string nm, .int .i64 dl, .slice x1 x2 x3, .string ky, .int .i64 la, .int .i64 wo, .int .i64 tk, .slice y1 y2 y3, .int .i64 ru, .int .u64 lu, .int .i64 ti] rfl rfl 32 _ HE4.out HI.out rfl HO1.out ?_))
    have HX := hide (setRow_heap _ (w.heap.size + 1) _ #[.int .i64 ki, .string nm, .int .i64 dl, .slice x1 x2 x3, .string ky, .int .i64 la, .int .i64 wo, .int .i64 tk, .slice y1 y2 y3, .int .i64 ru, .int .u64 lu, .int .i64 ti] _ _ HE4.out)
    have HK := hide (keep_row w4 (w.heap.size + 1) #[.int .i64 ki, .string nm, .int .i64 dl, .slice x1 x2 x3, .string ky, .int .i64 la, .int .i64 wo, .int .i64 tk, .slice y1 y2 y3, .int .i64 ru, .int .u64 lu, .int .i64 ti])
    exact bodyPost_ret (restOp rfl _ _ (w.heap.size + 1) _ rfl rfl HX.out) rfl ⟨_, rfl, ⟨_, _, _, _, _, _, _, _, _, _, _, _, _, _, _, _, rfl⟩, StableT.row (HV.out _) (HV4.out (endR_ok HRR.out)) HE4.out _, HB4.out.trans (HK.out.below (by have := HB4.out.size; omega) fun i e => by have e : i = _ := e; omega)⟩
  · have hzz : ((r : Int) == 0) = false := by simpa using hz
    have HZ := hide hz
    clear hz
    have HA5 := hide (heap_alloc_new w4 (.cells #[.int .i64 0, .string ⟨#[]⟩, .int .i64 0, .slice none 0 0, .string ⟨#[]⟩, .int .i64 0, .int .i64 0, .int .i64 0, .slice none 0 0, .int .i64 0, .int .u64 0, .int .i64 0] 32))
    have hbA : Below w4.heap.size w4 (w4.alloc (.cells #[.int .i64 0, .string ⟨#[]⟩, .int .i64 0, .slice none 0 0, .string ⟨#[]⟩, .int .i64 0, .int .i64 0, .int .i64 0, .slice none 0 0, .int .i64 0, .int .u64 0, .int .i64 0] 32)) := (Below.refl _ _).alloc (Nat.le_refl _) _
    have HE5 := hide (blkB HE4.out hbA)
    have HB5 := hide (HB4.out.trans (hbA.mono HB4.out.size))
    clear hbA
    go_wp2_with (first
      | (refine wpList_load_row rfl 32 _ rfl w4.heap.size rfl 32 #[.int .i64 0, .string ⟨#[]⟩, .int .i64 0, .slice none 0 0, .string ⟨#[]⟩, .int .i64 0, .int .i64 0, .int .i64 0, .slice none 0 0, .int .i64 0, .int .u64 0, .int .i64 0] (0, 0) _ HA5.out Tryz.underlying32 rfl HIZ.out ?_)
      | (refine wpList_store_row rfl 32 _ _ rfl (w.heap.size + 1) #[.int .i64 0, .string ⟨#[]⟩, .int .i64 0, .slice none 0 0, .string ⟨#[]⟩, .int .i64 0, .int .i64 0, .int .i64 0, .slice none 0 0, .int .i64 0, .int .u64 0, .int .i64 0] rfl rfl 32 _ HE5.out HIZ.out rfl HOZ.out ?_))
    have HX := hide (setRow_heap _ (w.heap.size + 1) _ #[.int .i64 0, .string ⟨#[]⟩, .int .i64 0, .slice none 0 0, .string ⟨#[]⟩, .int .i64 0, .int .i64 0, .int .i64 0, .slice none 0 0, .int .i64 0, .int .u64 0, .int .i64 0] _ _ HE5.out)
    have HK := hide (keep_row (w4.alloc (.cells #[.int .i64 0, .string ⟨#[]⟩, .int .i64 0, .slice none 0 0, .string ⟨#[]⟩, .int .i64 0, .int .i64 0, .int .i64 0, .slice none 0 0, .int .i64 0, .int .u64 0, .int .i64 0] 32)) (w.heap.size + 1) #[.int .i64 0, .string ⟨#[]⟩, .int .i64 0, .slice none 0 0, .string ⟨#[]⟩, .int .i64 0, .int .i64 0, .int .i64 0, .slice none 0 0, .int .i64 0, .int .u64 0, .int .i64 0])
    exact bodyPost_ret (restOp rfl _ _ (w.heap.size + 1) _ rfl rfl HX.out) rfl ⟨_, rfl, ⟨_, _, _, _, _, _, _, _, _, _, _, _, _, _, _, _, rfl⟩, fun h => absurd h HZ.out, fun _ => rfl, HB5.out.trans (HK.out.below (by have := HB5.out.size; omega) fun i e => by have e : i = _ := e; omega)⟩
end Cd
end Go.Proofs.YtbjcckfhfbjchaaGreat
