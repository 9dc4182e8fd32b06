import Derived.Test.YtinhpanpjamjlaaGreatPTnA
import Derived.Test.YtinhpanpjamjlaaGreatPSam
import Derived.Test.YtinhpanpjamjlaaGreatPPaS
import Derived.Test.YtinhpanpjamjlaaGreatPKnown
import Derived.Deep.MidRow
import Derived.Deep.CutRange
import Derived.Deep.RegionHeld3
import Derived.Test.YtinhpanpjamjlaaGreatPWsM
/- PackReads: the walk (written by rdw_gen.py). -/
namespace Go.Proofs.YtinhpanpjamjlaaGreat
namespace Wm
open Go.RowKit Go.Deep

/-- the document's reader stays where the other one is written -/
theorem Qr.past {w w' : World} {q r : Nat} {s s0 : K.RS} (h : Qr w q s) (hr : Rr w r s0) (hk : Keep (fun k => k = r) w w') : Qr w' q s := by
  obtain ⟨a, c, h1, h2, h3, h4, h5⟩ := h.ex
  refine ⟨⟨a, c, hk.blk h1 (fun e => ?_), h2.past hr hk, h3, h4, h5⟩, h.tak, h.top⟩
  obtain ⟨a0, c0, hb, _⟩ := hr.ex
  have e' : q = r := e
  rw [e', hb] at h1
  injection h1 with h1
  injection h1 with _ h1 _
  exact absurd h1 (by decide)
set_option maxRecDepth 100000 in
set_option maxHeartbeats 4000000 in
theorem reads_walk (w : World) (a0 : Option Addr) (n0 c0 : Nat) (l0 : List Nat) (h0 : Rd w a0 n0 l0) (hz0 : a0 = none → c0 = 0) (a : Option Addr) (n c : Nat) (qs : List Sp) (h : RdSp w a n qs) :
    Calls Tryz.prog 4 #[.slice a0 n0 c0, .slice a n c] w fun en w' => en = .returned (.bool true) ∧ Below w.heap.size w w' := by
  have hn := h.2.1
  have HQ := hide h
  have H0 := hide h0
  have HZ0 := hide hz0
  clear h h0 hz0
  go_enter Tryz.func4, Tryz.ntmps4
  go_wp2_with fail
  refine (known_any _).mono ?_
  rintro e w1 ⟨rfl, hb1⟩
  have HB1 := hide hb1
  clear hb1
  go_wp2_with fail
  refine (NewReader_any a0 n0 c0 l0 _ (H0.out.keep HB1.out) HZ0.out).mono ?_
  rintro e w2 ⟨r, rfl, hr2, hge2, hb2⟩
  have HR2 := hide hr2
  have HB2 := hide (HB1.out.trans (hb2.mono HB1.out.size))
  have hrw : w.heap.size ≤ r := Nat.le_trans HB1.out.size hge2
  have hr2lt := hr2.lt
  clear hr2 hge2 hb2 HB1
  go_wp2_with fail
  refine (RNewReader_any a0 n0 c0 l0 _ (H0.out.keep HB2.out) HZ0.out).mono ?_
  rintro e w3 ⟨m, rfl, hq3, hge3, hb3⟩
  have hrm : r < m := by omega
  have hmw : w.heap.size ≤ m := by omega
  have HR3 := hide (HR2.out.below hb3)
  have HQ3 := hide hq3
  have HB3 := hide (HB2.out.trans (hb3.mono HB2.out.size))
  clear hq3 hge3 hb3 HB2 HR2 hr2lt H0 HZ0
  generalize newR l0 = s at *
  go_upto_region 6 with fail
  go_cut [48] from 18 to 48 (fun t wx => t = .bool false ∧ Hid (Below w3.heap.size w3 wx))
  case first => as_aux_lemma =>
    have HRr : Hid (∀ W, Below w3.heap.size w3 W → Rr W r s) := fun W hb => HR3.out.below hb
    have HQr : Hid (∀ W, Below w3.heap.size w3 W → Qr W m s) := fun W hb => HQ3.out.below hb
    have HS : Hid (∀ W, Below w3.heap.size w3 W → (fun W' : World => W'.cell? ⟨m, 1, none⟩ = some (.int .i64 (s.taken : Nat)) ∧ W'.cell? ⟨m, 2, none⟩ = some (.int .i64 (s.fault : Nat)) ∧ Below w3.heap.size w3 W') W) := fun W hb => by
      obtain ⟨a, c, h1, _⟩ := (HQ3.out.below hb).ex
      exact ⟨by rw [cell_of_row _ _ _ _ _ _ h1]; rfl, by rw [cell_of_row _ _ _ _ _ _ h1]; rfl, hb⟩
    go_region_held3 (fun W' : World => W'.cell? ⟨m, 1, none⟩ = some (.int .i64 (s.taken : Nat)) ∧ W'.cell? ⟨m, 2, none⟩ = some (.int .i64 (s.fault : Nat)) ∧ Below w3.heap.size w3 W') (first | (exact HS.out _ (Below.refl _ _)) | (exact HS.out _ (Below.refl _ _).drew) | (exact HS.out _ HKe.out) | (exact HS.out _ HKf.out) | go_keep) (first
        | (go_at_call 17; have hh := (‹_ ∧ _ ∧ Below w3.heap.size w3 _›).2.2; refine (at_any r s _ (HRr.out _ hh)).mono ?_; rintro e wa ⟨rfl, rfl⟩)
        | (go_at_call 18; have hh := (‹_ ∧ _ ∧ Below w3.heap.size w3 _›).2.2; refine (err_any r s _ (HRr.out _ hh)).mono ?_; rintro e wa ⟨rfl, rfl⟩)
        | (go_at_call 19; have hh := (‹_ ∧ _ ∧ Below w3.heap.size w3 _›).2.2; refine (End_any r s _ (HRr.out _ hh)).mono ?_; rintro e we ⟨rfl, hbe⟩; have HKe : Hid (Below w3.heap.size w3 we) := hh.trans (hbe.mono hh.size); clear hbe)
        | (go_at_call 20; have hh := (‹_ ∧ _ ∧ Below w3.heap.size w3 _›).2.2; refine (REnd_any m s _ (HQr.out _ hh)).mono ?_; rintro e wf ⟨rfl, hbf⟩; have HKf : Hid (Below w3.heap.size w3 wf) := hh.trans (hbf.mono hh.size); clear hbf))
    all_goals (go_wp2_with fail; go_meet; first | exact ⟨by simp, HKe.out⟩ | exact ⟨by simp, HKf.out⟩)
  case rest => as_aux_lemma =>
    obtain ⟨rfl, hb4⟩ := hcut
    have HR4 := hide (HR3.out.below hb4.out)
    have HQ4 := hide (HQ3.out.below hb4.out)
    have HB4 := hide (HB3.out.trans (hb4.out.mono HB3.out.size))
    clear hb4 HR3 HQ3 HB3
    go_wp2_with fail
    go_loopw [8] (fun iv wr => ∃ i : Nat, iv = .int .i64 (i : Nat) ∧ i ≤ n ∧ Hid (∃ s, Rr wr r s ∧ Qr wr m s ∧ Below w.heap.size w wr)) (fun iv _ => n - (intOf iv).toNat)
    case atStart => exact ⟨0, rfl, Nat.zero_le _, _, HR4.out, HQ4.out, HB4.out⟩
    case round => as_aux_lemma =>
      clear HR4 HQ4 HB4
      obtain ⟨i, rfl, hi, HI⟩ := hrel
      obtain ⟨s, HD⟩ : ∃ s, Hid (Rr wr r s ∧ Qr wr m s ∧ Below w.heap.size w wr) := HI.out
      clear HI
      by_cases hlt : i < n
      · obtain ⟨x, b, off, hx, ea, hok, hrow⟩ := HQ.out.row hlt
        subst ea
        have hlt' : (i : Int) < (n : Int) := by omega
        have HRW := hide hrow
        have HTk : Hid (∀ (r : Nat) (s : K.RS) (W' : World), Rr W' r s → Calls Tryz.prog 21 #[.pointer (some ⟨r, 0, none⟩), .agg x.row.toArray] W' (TkE r (x.rd s) (x.td s) W')) := fun r s W' h => took_any r s x W' h hok.w1 hok.w2
        have HTn : Hid (∀ (r : Nat) (s : K.RS) (W' : World), Qr W' r s → Calls Tryz.prog 22 #[.pointer (some ⟨r, 0, none⟩), .agg x.row.toArray] W' (TkQ r (x.rd s) (x.td s) W')) := fun r s W' h => taken_any r s x W' h hok.w1 hok.w2
        have HI3 := hide (show (Tryz.prog.info? 35).map (·.size) = some x.row.length by rw [info_step]; rfl)
        clear hok hx hrow
        go_wp2_with (refine wpList_load_mid rfl 35 _ rfl b (off + i * 11) rfl x.row _ (HRW.out _ HD.out.2.2) Tryz.underlying35 rfl HI3.out ?_)
        go_at_call 21
        refine (HTk.out r s _ HD.out.1).mono ?_
        rintro e w5 ⟨v5, rfl, htd5, hr5, hk5⟩
        have HQ5 := hide (Qr.past HD.out.2.1 HD.out.1 hk5)
        have HB5 := hide (HD.out.2.2.trans (hk5.below HD.out.2.2.size fun k e => by rw [e]; exact hrw))
        have HR5 := hide hr5
        have HTD5 := hide htd5
        clear hr5 hk5 htd5 HD
        generalize hT : x.td s = T at *
        generalize ht : x.rd s = t at *
        have HTq := hide hT
        have Htq := hide ht
        clear hT ht
        obtain ⟨aT, nT, cT, aL, nL, cL, aD, nD, cD, ev5, _, _, _⟩ := HTD5.out
        subst ev5
        have HTG5 := hide (heap_alloc_new w5 (.cells z7 52))
        have HI7 : Hid ((Tryz.prog.info? 52).map (·.size) = some (#[.int .i64 T.N, .int .u64 (T.W : Nat), .bool T.F, .string T.S, .slice aT nT cT, .slice aL nL cL, .slice aD nD cD] : Array Value).size) := by show _ = _; rw [info_told]; rfl
        have HO7 : Hid ((#[.int .i64 T.N, .int .u64 (T.W : Nat), .bool T.F, .string T.S, .slice aT nT cT, .slice aL nL cL, .slice aD nD cD] : Array Value).all (·.oneCell') = true) := by show _ = _; simp [Value.oneCell']
        have HX6 : Hid (((w5.alloc (.cells z7 52)).setRow w5.heap.size #[.int .i64 T.N, .int .u64 (T.W : Nat), .bool T.F, .string T.S, .slice aT nT cT, .slice aL nL cL, .slice aD nD cD]).heap[w5.heap.size]? = some (.cells #[.int .i64 T.N, .int .u64 (T.W : Nat), .bool T.F, .string T.S, .slice aT nT cT, .slice aL nL cL, .slice aD nD cD] 52 (0, 0))) := setRow_heap _ _ _ _ _ _ HTG5.out
        have HB6 : Hid (Below w5.heap.size w5 ((w5.alloc (.cells z7 52)).setRow w5.heap.size #[.int .i64 T.N, .int .u64 (T.W : Nat), .bool T.F, .string T.S, .slice aT nT cT, .slice aL nL cL, .slice aD nD cD])) := ((Below.refl _ _).alloc (Nat.le_refl _) _).trans ((keep_row _ _ _).below (by simp) fun k e => by rw [e]; exact Nat.le_refl _)
        have HRW6 := hide (HRW.out _ (HB5.out.trans (HB6.out.mono HB5.out.size)))
        go_upto_region 12 with (refine wpList_store_row rfl 52 _ _ rfl w5.heap.size #[.int .i64 T.N, .int .u64 (T.W : Nat), .bool T.F, .string T.S, .slice aT nT cT, .slice aL nL cL, .slice aD nD cD] rfl rfl 52 _ HTG5.out HI7.out rfl HO7.out ?_)
        change Code.wp _ _ _ _ ((w5.alloc (.cells z7 52)).setRow w5.heap.size #[.int .i64 T.N, .int .u64 (T.W : Nat), .bool T.F, .string T.S, .slice aT nT cT, .slice aL nL cL, .slice aD nD cD])
        generalize (w5.alloc (.cells z7 52)).setRow w5.heap.size #[.int .i64 T.N, .int .u64 (T.W : Nat), .bool T.F, .string T.S, .slice aT nT cT, .slice aL nL cL, .slice aD nD cD] = w6 at *
        go_wp2_with (refine wpList_load_mid rfl 35 _ rfl b (off + i * 11) rfl x.row _ HRW6.out Tryz.underlying35 rfl HI3.out ?_)
        go_at_call 22
        refine (HTn.out m s _ (HQ5.out.below HB6.out)).mono ?_
        rintro e w7 ⟨v7, rfl, htd7, hq7, hk7⟩
        rw [HTq.out] at htd7
        rw [Htq.out] at hq7
        have HTD7 := hide htd7
        obtain ⟨bT, mT, dT, bL, mL, dL, bD, mD, dD, ev7, _, _, _⟩ := htd7
        subst ev7
        have hm5 : m < w5.heap.size := HQ5.out.lt
        have HR7 := hide ((HR5.out.below HB6.out).stay hk7 (fun k hk e => by have : k = m := e; omega))
        have HG5' := hide (hk7.blk HX6.out (fun e => by have : w5.heap.size = m := e; omega))
        have HTD57 := hide ((HTD5.out.keep (Keep.ofBelow (S := fun _ => False) HB6.out (Nat.le_refl _)) (fun _ f => f.elim)).keep hk7 (fun k e _ => by rw [e]; exact Qr.isR (HQ5.out.below HB6.out)))
        have HB56 := hide (HB5.out.trans (HB6.out.mono HB5.out.size))
        have HB7 := hide (HB56.out.trans (hk7.below HB56.out.size fun k e => by rw [e]; exact hmw))
        have HQ7 := hide hq7
        clear hq7 hk7 HTD5 HB5 HB56 HB6 HX6 HQ5 HR5 HRW HRW6 HTk HTn HTq Htq HTG5 HI7 HO7 HI3
        have HTG7 := hide (heap_alloc_new w7 (.cells z7 52))
        have HI8 : Hid ((Tryz.prog.info? 52).map (·.size) = some (#[.int .i64 T.N, .int .u64 (T.W : Nat), .bool T.F, .string T.S, .slice bT mT dT, .slice bL mL dL, .slice bD mD dD] : Array Value).size) := by show _ = _; rw [info_told]; rfl
        have HO8 : Hid ((#[.int .i64 T.N, .int .u64 (T.W : Nat), .bool T.F, .string T.S, .slice bT mT dT, .slice bL mL dL, .slice bD mD dD] : Array Value).all (·.oneCell') = true) := by show _ = _; simp [Value.oneCell']
        have HG7 : Hid (((w7.alloc (.cells z7 52)).setRow w7.heap.size #[.int .i64 T.N, .int .u64 (T.W : Nat), .bool T.F, .string T.S, .slice bT mT dT, .slice bL mL dL, .slice bD mD dD]).heap[w7.heap.size]? = some (.cells #[.int .i64 T.N, .int .u64 (T.W : Nat), .bool T.F, .string T.S, .slice bT mT dT, .slice bL mL dL, .slice bD mD dD] 52 (0, 0))) := setRow_heap _ _ _ _ _ _ HTG7.out
        have HB8 : Hid (Below w7.heap.size w7 ((w7.alloc (.cells z7 52)).setRow w7.heap.size #[.int .i64 T.N, .int .u64 (T.W : Nat), .bool T.F, .string T.S, .slice bT mT dT, .slice bL mL dL, .slice bD mD dD])) := ((Below.refl _ _).alloc (Nat.le_refl _) _).trans ((keep_row _ _ _).below (by simp) fun k e => by rw [e]; exact Nat.le_refl _)
        go_upto_region 13 with (refine wpList_store_row rfl 52 _ _ rfl w7.heap.size #[.int .i64 T.N, .int .u64 (T.W : Nat), .bool T.F, .string T.S, .slice bT mT dT, .slice bL mL dL, .slice bD mD dD] rfl rfl 52 _ HTG7.out HI8.out rfl HO8.out ?_)
        change Code.wp _ _ _ _ ((w7.alloc (.cells z7 52)).setRow w7.heap.size #[.int .i64 T.N, .int .u64 (T.W : Nat), .bool T.F, .string T.S, .slice bT mT dT, .slice bL mL dL, .slice bD mD dD])
        generalize (w7.alloc (.cells z7 52)).setRow w7.heap.size #[.int .i64 T.N, .int .u64 (T.W : Nat), .bool T.F, .string T.S, .slice bT mT dT, .slice bL mL dL, .slice bD mD dD] = w8 at *
        have HG5 := hide (keepBlk HG5'.out HB8.out)
        have HRr : Hid (∀ W, Below w8.heap.size w8 W → Rr W r t) := fun W hb => (HR7.out.below HB8.out).below hb
        have HQr : Hid (∀ W, Below w8.heap.size w8 W → Qr W m t) := fun W hb => (HQ7.out.below HB8.out).below hb
        have HBr : Hid (∀ W, Below w8.heap.size w8 W → Below w.heap.size w W) := fun W hb => (HB7.out.trans (HB8.out.mono HB7.out.size)).trans (hb.mono (Nat.le_trans HB7.out.size HB8.out.size))
        have HTDa : Hid (∀ W, Below w8.heap.size w8 W → TdV W (.agg #[.int .i64 T.N, .int .u64 (T.W : Nat), .bool T.F, .string T.S, .slice aT nT cT, .slice aL nL cL, .slice aD nD cD]) T) := fun W hb => HTD57.out.keep (Keep.ofBelow (S := fun _ => False) (HB8.out.trans (hb.mono HB8.out.size)) (Nat.le_refl _)) (fun _ f => f.elim)
        have HTDb : Hid (∀ W, Below w8.heap.size w8 W → TdV W (.agg #[.int .i64 T.N, .int .u64 (T.W : Nat), .bool T.F, .string T.S, .slice bT mT dT, .slice bL mL dL, .slice bD mD dD]) T) := fun W hb => HTD7.out.keep (Keep.ofBelow (S := fun _ => False) (HB8.out.trans (hb.mono HB8.out.size)) (Nat.le_refl _)) (fun _ f => f.elim)
        have HM1 : Hid (w8.cell? ⟨m, 1, none⟩ = some (.int .i64 (t.taken : Nat))) := by
          obtain ⟨a, c, h1, _⟩ := (HQ7.out.below HB8.out).ex
          show _ = _
          rw [cell_of_row _ _ _ _ _ _ h1]; rfl
        have HM2 : Hid (w8.cell? ⟨m, 2, none⟩ = some (.int .i64 (t.fault : Nat))) := Qr.cell2 (HQ7.out.below HB8.out)
        have HS : Hid (∀ W, Below w8.heap.size w8 W → (fun W' : World => W'.cell? ⟨w5.heap.size, 0, none⟩ = some (.int .i64 T.N) ∧ W'.cell? ⟨w5.heap.size, 1, none⟩ = some (.int .u64 (T.W : Nat)) ∧ W'.cell? ⟨w5.heap.size, 2, none⟩ = some (.bool T.F) ∧ W'.cell? ⟨w5.heap.size, 3, none⟩ = some (.string T.S) ∧ W'.cell? ⟨w5.heap.size, 4, none⟩ = some (.slice aT nT cT) ∧ W'.cell? ⟨w5.heap.size, 5, none⟩ = some (.slice aL nL cL) ∧ W'.cell? ⟨w5.heap.size, 6, none⟩ = some (.slice aD nD cD) ∧ W'.cell? ⟨w7.heap.size, 0, none⟩ = some (.int .i64 T.N) ∧ W'.cell? ⟨w7.heap.size, 1, none⟩ = some (.int .u64 (T.W : Nat)) ∧ W'.cell? ⟨w7.heap.size, 2, none⟩ = some (.bool T.F) ∧ W'.cell? ⟨w7.heap.size, 3, none⟩ = some (.string T.S) ∧ W'.cell? ⟨w7.heap.size, 4, none⟩ = some (.slice bT mT dT) ∧ W'.cell? ⟨w7.heap.size, 5, none⟩ = some (.slice bL mL dL) ∧ W'.cell? ⟨w7.heap.size, 6, none⟩ = some (.slice bD mD dD) ∧ W'.cell? ⟨m, 1, none⟩ = some (.int .i64 (t.taken : Nat)) ∧ W'.cell? ⟨m, 2, none⟩ = some (.int .i64 (t.fault : Nat)) ∧ Below w8.heap.size w8 W') W) := fun W hb => ⟨(cells7 (keepBlk HG5.out hb)).1, (cells7 (keepBlk HG5.out hb)).2.1, (cells7 (keepBlk HG5.out hb)).2.2.1, (cells7 (keepBlk HG5.out hb)).2.2.2.1, (cells7 (keepBlk HG5.out hb)).2.2.2.2.1, (cells7 (keepBlk HG5.out hb)).2.2.2.2.2.1, (cells7 (keepBlk HG5.out hb)).2.2.2.2.2.2, (cells7 (keepBlk HG7.out hb)).1, (cells7 (keepBlk HG7.out hb)).2.1, (cells7 (keepBlk HG7.out hb)).2.2.1, (cells7 (keepBlk HG7.out hb)).2.2.2.1, (cells7 (keepBlk HG7.out hb)).2.2.2.2.1, (cells7 (keepBlk HG7.out hb)).2.2.2.2.2.1, (cells7 (keepBlk HG7.out hb)).2.2.2.2.2.2, keepCell HM1.out hb, keepCell HM2.out hb, hb⟩
        clear HG5' HTD57 HTD7 HR7 HQ7 HB7 HB8 HTG7 HI8 HO8
        go_region_held3 (fun W' : World => W'.cell? ⟨w5.heap.size, 0, none⟩ = some (.int .i64 T.N) ∧ W'.cell? ⟨w5.heap.size, 1, none⟩ = some (.int .u64 (T.W : Nat)) ∧ W'.cell? ⟨w5.heap.size, 2, none⟩ = some (.bool T.F) ∧ W'.cell? ⟨w5.heap.size, 3, none⟩ = some (.string T.S) ∧ W'.cell? ⟨w5.heap.size, 4, none⟩ = some (.slice aT nT cT) ∧ W'.cell? ⟨w5.heap.size, 5, none⟩ = some (.slice aL nL cL) ∧ W'.cell? ⟨w5.heap.size, 6, none⟩ = some (.slice aD nD cD) ∧ W'.cell? ⟨w7.heap.size, 0, none⟩ = some (.int .i64 T.N) ∧ W'.cell? ⟨w7.heap.size, 1, none⟩ = some (.int .u64 (T.W : Nat)) ∧ W'.cell? ⟨w7.heap.size, 2, none⟩ = some (.bool T.F) ∧ W'.cell? ⟨w7.heap.size, 3, none⟩ = some (.string T.S) ∧ W'.cell? ⟨w7.heap.size, 4, none⟩ = some (.slice bT mT dT) ∧ W'.cell? ⟨w7.heap.size, 5, none⟩ = some (.slice bL mL dL) ∧ W'.cell? ⟨w7.heap.size, 6, none⟩ = some (.slice bD mD dD) ∧ W'.cell? ⟨m, 1, none⟩ = some (.int .i64 (t.taken : Nat)) ∧ W'.cell? ⟨m, 2, none⟩ = some (.int .i64 (t.fault : Nat)) ∧ Below w8.heap.size w8 W') (first | (exact HS.out _ (Below.refl _ _)) | (exact HS.out _ (Below.refl _ _).drew) | (exact HS.out _ HKf.out) | (exact HS.out _ HKe.out) | (exact HS.out _ HKs.out) | go_keep) (first
        | (go_at_call 23; have hh := (‹_ ∧ _ ∧ _ ∧ _ ∧ _ ∧ _ ∧ _ ∧ _ ∧ _ ∧ _ ∧ _ ∧ _ ∧ _ ∧ _ ∧ _ ∧ _ ∧ Below w8.heap.size w8 _›).2.2.2.2.2.2.2.2.2.2.2.2.2.2.2.2; refine (same_any _ _ T _ (HTDa.out _ hh) (HTDb.out _ hh)).mono ?_; rintro e ws ⟨rfl, hbs⟩; have HKs : Hid (Below w8.heap.size w8 ws) := hh.trans (hbs.mono hh.size); clear hbs)
        | (go_at_call 17; have hh := (‹_ ∧ _ ∧ _ ∧ _ ∧ _ ∧ _ ∧ _ ∧ _ ∧ _ ∧ _ ∧ _ ∧ _ ∧ _ ∧ _ ∧ _ ∧ _ ∧ Below w8.heap.size w8 _›).2.2.2.2.2.2.2.2.2.2.2.2.2.2.2.2; refine (at_any r t _ (HRr.out _ hh)).mono ?_; rintro e wa ⟨rfl, rfl⟩)
        | (go_at_call 18; have hh := (‹_ ∧ _ ∧ _ ∧ _ ∧ _ ∧ _ ∧ _ ∧ _ ∧ _ ∧ _ ∧ _ ∧ _ ∧ _ ∧ _ ∧ _ ∧ _ ∧ Below w8.heap.size w8 _›).2.2.2.2.2.2.2.2.2.2.2.2.2.2.2.2; refine (err_any r t _ (HRr.out _ hh)).mono ?_; rintro e wa ⟨rfl, rfl⟩)
        | (go_at_call 19; have hh := (‹_ ∧ _ ∧ _ ∧ _ ∧ _ ∧ _ ∧ _ ∧ _ ∧ _ ∧ _ ∧ _ ∧ _ ∧ _ ∧ _ ∧ _ ∧ _ ∧ Below w8.heap.size w8 _›).2.2.2.2.2.2.2.2.2.2.2.2.2.2.2.2; refine (End_any r t _ (HRr.out _ hh)).mono ?_; rintro e we ⟨rfl, hbe⟩; have HKe : Hid (Below w8.heap.size w8 we) := hh.trans (hbe.mono hh.size); clear hbe)
        | (go_at_call 20; have hh := (‹_ ∧ _ ∧ _ ∧ _ ∧ _ ∧ _ ∧ _ ∧ _ ∧ _ ∧ _ ∧ _ ∧ _ ∧ _ ∧ _ ∧ _ ∧ _ ∧ Below w8.heap.size w8 _›).2.2.2.2.2.2.2.2.2.2.2.2.2.2.2.2; refine (REnd_any m t _ (HQr.out _ hh)).mono ?_; rintro e wf ⟨rfl, hbf⟩; have HKf : Hid (Below w8.heap.size w8 wf) := hh.trans (hbf.mono hh.size); clear hbf))
        all_goals (go_wp2_with fail; first | exact ⟨⟨i + 1, by go_num, by omega, t, HRr.out _ HKe.out, HQr.out _ HKe.out, HBr.out _ HKe.out⟩, by simp [intOf]; omega⟩ | exact ⟨⟨i + 1, by go_num, by omega, t, HRr.out _ HKf.out, HQr.out _ HKf.out, HBr.out _ HKf.out⟩, by simp [intOf]; omega⟩)
      · obtain rfl : i = n := by omega
        go_wp2_with fail
        go_ret
        exact ⟨rfl, HD.out.2.2⟩
end Wm
end Go.Proofs.YtinhpanpjamjlaaGreat

/- PackReads: the row. -/
namespace Go.Proofs.YtinhpanpjamjlaaGreat
open Go.ChangeShapes Go.WideShapes Go.ChangeAt Go.RowKit Go.Joins

namespace PackReads
set_option maxRecDepth 100000 in
theorem lifted (os : Os) (started : os.Started) (H : Type) (enc : TypeId × Value → H) :
    ReturnsInHanded {} Tryz.checked os 4 .any (Rows.packReadsSpec.pre6 enc Tryz.prog Tryz.f4 Rows.packReadsRow.domain false) (Rows.packReadsSpec.post enc Tryz.prog Tryz.f4 false true false false) := by
  refine returnsInHanded_of_change_sized (C := Tryz.checked) own started (by kernel_rfl) Tryz.func4
    (ChangeSpec.witness6 (enc := enc) (C := Tryz.checked) false ⟨#[], #[.slice none 0 0, .slice none 0 0], []⟩ 8 (by kernel_rfl) (by kernel_rfl) (by kernel_rfl) (by kernel_rfl)) ?_
  intro W base args ds gs before hval0 hW _ hsz0 _
  have hsz : (DataW.weightsEach Tryz.prog (Tryz.f4.params.toList ++ Rows.packReadsSpec.plain.varTypes Tryz.prog) (ds ++ gs)).all (· ≤ reachBytes) = true := hsz0
  have hval : ∀ (j : Nat) t v, Tryz.f4.params[j]? = some t → args[j]? = some v → Value.okWide Tryz.prog W .any base t v := hval0
  have hW' := hW
  obtain ⟨p, q, hA0, hV, rfl, hfz, hnd⟩ := hW
  have hA : DataW.TrodAll enc Tryz.prog W 0 (fun _ => true) true Tryz.f4.params.toList args.toList ds p := hA0
  rw [Tryz.params4] at hA hval hsz
  obtain ⟨v0, v1, d0, d1, p0, p1, rfl, rfl, rfl, h0, h1⟩ := trodAll_two hA
  obtain ⟨rfl, rfl⟩ := trodVars_none hV
  have lt0 : ∀ x ∈ p0, x.block < W.heap.size := by obtain ⟨m, hm⟩ := h0; exact DataW.trod_lt m _ _ _ hm
  obtain ⟨a0, n0, c0, rfl⟩ := okWide_slice Tryz.underlying30 (hval 0 30 v0 rfl rfl)
  obtain ⟨l0, hl0, hc0, hz0⟩ := open_bytes h0 (weigh hsz (j := 0) rfl rfl)
  have lt1 : ∀ x ∈ p1, x.block < W.heap.size := by obtain ⟨m, hm⟩ := h1; exact DataW.trod_lt m _ _ _ hm
  obtain ⟨a1, n1, c1, rfl⟩ := okWide_slice Tryz.underlying22 (hval 1 22 v1 rfl rfl)
  obtain ⟨qs, hqs⟩ := Wm.open_steps h1 (weigh hsz (j := 1) rfl rfl)
  clear hA0 hval0
  refine (Wm.reads_walk W a0 n0 c0 l0 hl0 hz0 a1 n1 c1 qs hqs).mono fun e W' ⟨he, bel⟩ => ?_
  subst he
  exact ⟨_, rfl, _, _, _, [], _, [], hW', trodAll_mk1 (shut_bool Tryz.underlying4 _), trodAll_mk2 (Below.trod laidOut (by kernel_rfl) (of_decide_eq_true (by kernel_rfl)) h0 bel lt0) (Below.trod laidOut (by kernel_rfl) (of_decide_eq_true (by kernel_rfl)) h1 bel lt1), rfl, bel.frame _, fun h => by cases h⟩

theorem over : Rows.packReadsRow.holds Tryz.pinned (OpenSpec.ofChange Rows.packReadsSpec) :=
  OpenClaim.holds_of_wide 4 Tryz.f4 rfl rfl rfl rfl rfl rfl rfl ⟨rfl, rfl, rfl, rfl, rfl⟩ rfl rfl rfl rfl rfl (by kernel_rfl) Tryz.func4 (by kernel_rfl)
    (of_decide_eq_true (by kernel_rfl)) (by unfold Func.isWrapper; first | (rw [if_pos (by decide +kernel)]; kernel_rfl) | (rw [if_neg (by decide +kernel)]; exact ⟨rfl, rfl⟩))
    (fun os started H enc _ => lifted os started H enc)
end PackReads

theorem packReads_holds : Rows.PackReadsSaid := PackReads.over
#print axioms packReads_holds
end Go.Proofs.YtinhpanpjamjlaaGreat
