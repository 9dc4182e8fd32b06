/- Package source: a node's line. -/
import Derived.Test.YtfoahfgehmghcaaGreatDoorUGrw
import Derived.Deep.Cut
namespace Go.Proofs.YtfoahfgehmghcaaGreatDoor
namespace U
open Go.RowKit

/-- a node by itself in a block -/
def NB (w : World) (N : Nat) (nm : List UInt8) (la bu cl be bs ca ji : Int) : Prop :=
  w.heap[N]? = some (.cells #[.string (ba nm), .int .i64 la, .int .i64 bu, .int .i64 cl, .int .i64 be, .int .i64 bs, .int .i64 ca, .int .i64 ji, .slice none 0 0, .slice none 0 0] 32 (0, 0))
/-- between two steps of addNode: since w only the line and what is new has turned -/
def Mid (w : World) (L pl N : Nat) (s : Ln) (nm : List UInt8) (la bu cl be bs ca ji : Int) (wx : World) : Prop :=
  Keep (fun k => k = L) w wx ∧ LineAt wx L pl s ∧ NB wx N nm la bu cl be bs ca ji
theorem NB.ne {w : World} {N L pl : Nat} {s : Ln} {nm : List UInt8} {la bu cl be bs ca ji : Int} (h : NB w N nm la bu cl be bs ca ji) (hL : LineAt w L pl s) : N ≠ L := fun e => by
  obtain ⟨cs, hc⟩ := hL.blk
  rw [← e, h] at hc
  injection hc with hc
  injection hc with _ hc
  exact absurd hc (by decide)
/-- a step that turns the line -/
theorem Mid.take {w : World} {L pl N : Nat} {s s' : Ln} {nm : List UInt8} {la bu cl be bs ca ji : Int} {wx wy : World} (h : Mid w L pl N s nm la bu cl be bs ca ji wx) (l : LineAt wy L pl s') (k : Keep (fun k => k = L) wx wy) : Mid w L pl N s' nm la bu cl be bs ca ji wy :=
  ⟨h.1.more k, l, k.blk h.2.2 (h.2.2.ne h.2.1)⟩
theorem LineAt.node {w : World} {L pl N : Nat} {s : Ln} {nm : List UInt8} {la bu cl be bs ca ji : Int} (hL : LineAt w L pl s) (h : NB w N nm la bu cl be bs ca ji) (j : Nat) (v : Value) : LineAt (w.setCell ⟨N, j, none⟩ v) L pl s :=
  hL.keep (keep_cell w N j v) (fun e => h.ne hL e.symm) (fun g e => by subst e; exact not_strB h (by decide))
theorem Mid.keepN {w wx : World} {L N j : Nat} {v : Value} (hN : w.heap.size ≤ N) (k : Keep (fun k => k = L) w wx) : Keep (fun k => k = L) w (wx.setCell ⟨N, j, none⟩ v) :=
  k.trans (keep_cell wx N j v) fun i e => by subst e; exact .inr hN

/-- what stands behind 'backoff' -/
def tkCap (s : Ln) : Int × Ln := if hd s.1 = kwBack then tkNum kwTo (tkOpt kwBack 1 s).2 else (1, (tkOpt kwBack 1 s).2)
set_option maxRecDepth 100000 in
set_option maxHeartbeats 4000000 in
theorem addNode_any (B D L pl : Nat) (d : Dr) (ws : List (List UInt8)) (w : World) (hD : DrAt B w D d) (hL : LineAt w L pl (ws, false)) (hz : ∀ x ∈ ws, x.length ≤ 65536) (hBL : B ≤ L) (hnd : d.nds.length < 1000000) (hpd : d.places.length < 1000000) :
    Calls Tryz.prog 84 #[.pointer (some ⟨D, 0, none⟩), .pointer (some ⟨L, 0, none⟩)] w (DoEnd B D L pl (addNode d pl ws) w) := by
  obtain ⟨R, hR⟩ : ∃ R, R = addNode d pl ws := ⟨_, rfl⟩
  rw [← hR]
  have HR0 := hide hR
  clear hR
  have N1 := hide (name_any L pl (ws, false) w hL hz)
  have N2 := hide (fun s w h => number_any L pl kwLane s w h)
  have N3 := hide (fun s w h => number_any L pl kwBudget s w h)
  have N4 := hide (fun s w h => number_any L pl kwClose s w h)
  have N5 := hide (fun s w h => number_any L pl kwBeat s w h)
  have N6 := hide (fun s w h => number_any L pl kwBack s w h)
  have N7 := hide (fun s w h => number_any L pl kwTo s w h)
  have N8 := hide (fun s w h => number_any L pl kwJit s w h)
  have HX := hide (fun s w h => next_any L pl s w h)
  have HD := hide hD
  have HL := hide hL
  obtain ⟨s0, hs0⟩ : ∃ s : Ln, s = (ws, false) := ⟨_, rfl⟩
  rw [← hs0] at N1
  have HS0 := hide hs0
  clear hD hL hz hs0
  go_enter Tryz.func84, Tryz.ntmps84
  go_wp2_with fail
  go_at_call 102
  refine N1.out.mono ?_
  rintro e w1 ⟨rfl, l1, k1⟩
  have K1 := hide k1
  have L1 := hide l1
  clear l1 k1 N1
  generalize hv : (tkName s0).1 = nm at *
  generalize hs : (tkName s0).2 = s1 at *
  have EN := hide hv
  have ENs := hide hs
  clear hv hs
  go_wp2_with fail
  have M : Hid (Mid w L pl w1.heap.size s1 nm 0 0 0 0 1 1 0 (w1.alloc (.cells #[.string (ba nm), .int .i64 0, .int .i64 0, .int .i64 0, .int .i64 0, .int .i64 1, .int .i64 1, .int .i64 0, .slice none 0 0, .slice none 0 0] 32))) :=
    ⟨K1.out.more (Keep.alloc _ _ _), L1.out.below ((Below.refl _ w1).alloc (Nat.le_refl _) _), heap_alloc_new _ _⟩
  have HW1 := hide K1.out.size
  generalize w1.alloc (.cells #[.string (ba nm), .int .i64 0, .int .i64 0, .int .i64 0, .int .i64 0, .int .i64 1, .int .i64 1, .int .i64 0, .slice none 0 0, .slice none 0 0] 32) = w2 at *
  clear L1
  go_at_call 103
  refine (N2.out _ _ M.out.2.1).mono ?_
  rintro e w3 ⟨rfl, l2, k2⟩
  have M2 := hide (M.out.take l2 k2)
  have EL : Hid ((tkNum kwLane s1).1 = (tkNum kwLane s1).1) := rfl
  generalize hv : (tkNum kwLane s1).1 = la at *
  generalize hs : (tkNum kwLane s1).2 = s2 at *
  replace EL := hide hv
  have ELs := hide hs
  have cj := cell_blk M2.out.2.2 1 (v := .int .i64 0) rfl
  have fj := frozen_blk M2.out.2.2 1
  clear l2 k2 M hv hs
  go_wp2_with fail
  have M : Hid (Mid w L pl w1.heap.size s2 nm la 0 0 0 1 1 0 (w3.setCell ⟨w1.heap.size, 1, none⟩ (.int .i64 la))) := ⟨Mid.keepN K1.out.size M2.out.1, M2.out.2.1.node M2.out.2.2 1 _, (set_blk M2.out.2.2 1 _).trans rfl⟩
  clear M2 cj fj
  generalize w3.setCell ⟨w1.heap.size, 1, none⟩ (.int .i64 la) = w4 at *
  go_at_call 103
  refine (N3.out _ _ M.out.2.1).mono ?_
  rintro e w5 ⟨rfl, l2, k2⟩
  have M2 := hide (M.out.take l2 k2)
  have EB : Hid ((tkNum kwBudget s2).1 = (tkNum kwBudget s2).1) := rfl
  generalize hv : (tkNum kwBudget s2).1 = bu at *
  generalize hs : (tkNum kwBudget s2).2 = s3 at *
  replace EB := hide hv
  have EBs := hide hs
  have cj := cell_blk M2.out.2.2 2 (v := .int .i64 0) rfl
  have fj := frozen_blk M2.out.2.2 2
  clear l2 k2 M hv hs
  go_wp2_with fail
  have M : Hid (Mid w L pl w1.heap.size s3 nm la bu 0 0 1 1 0 (w5.setCell ⟨w1.heap.size, 2, none⟩ (.int .i64 bu))) := ⟨Mid.keepN K1.out.size M2.out.1, M2.out.2.1.node M2.out.2.2 2 _, (set_blk M2.out.2.2 2 _).trans rfl⟩
  clear M2 cj fj
  generalize w5.setCell ⟨w1.heap.size, 2, none⟩ (.int .i64 bu) = w6 at *
  go_at_call 103
  refine (N4.out _ _ M.out.2.1).mono ?_
  rintro e w7 ⟨rfl, l2, k2⟩
  have M2 := hide (M.out.take l2 k2)
  have EC : Hid ((tkNum kwClose s3).1 = (tkNum kwClose s3).1) := rfl
  generalize hv : (tkNum kwClose s3).1 = cl at *
  generalize hs : (tkNum kwClose s3).2 = s4 at *
  replace EC := hide hv
  have ECs0 := hide hs
  have cj := cell_blk M2.out.2.2 3 (v := .int .i64 0) rfl
  have fj := frozen_blk M2.out.2.2 3
  clear l2 k2 M hv hs
  go_upto_region 5 with fail
  have M : Hid (Mid w L pl w1.heap.size s4 nm la bu cl 0 1 1 0 (w7.setCell ⟨w1.heap.size, 3, none⟩ (.int .i64 cl))) := ⟨Mid.keepN K1.out.size M2.out.1, M2.out.2.1.node M2.out.2.2 3 _, (set_blk M2.out.2.2 3 _).trans rfl⟩
  clear M2 cj fj
  generalize w7.setCell ⟨w1.heap.size, 3, none⟩ (.int .i64 cl) = w8 at *
  clear N2 N3 N4
  go_upto_if 20 with (go_at_call 92; refine (HX.out _ _ M.out.2.1).mono ?_; rintro e wz ⟨rfl, rfl⟩)
  generalize hbb : ((ba (hd s4.1)).toList == [98, 101, 97, 116]) = bb
  have HQ := hide (hbb.symm.trans (string_lit _ kwBeat))
  clear hbb
  go_cut [] from 6 (fun wx => Mid w L pl w1.heap.size (tkOpt kwBeat 0 s4).2 nm la bu cl (tkOpt kwBeat 0 s4).1 1 1 0 wx)
  case first =>
    by_cases hb : hd s4.1 = kwBeat
    · obtain rfl : bb = true := by rw [HQ.out]; exact decide_eq_true hb
      have HO : Hid (tkOpt kwBeat 0 s4 = tkNum kwBeat s4) := by show _ = _; unfold tkOpt; rw [if_pos hb]
      clear hb
      go_wp2_with fail
      go_at_call 103
      refine (N5.out _ _ M.out.2.1).mono ?_
      rintro e w9 ⟨rfl, l2, k2⟩
      have M2 := hide (M.out.take l2 k2)
      have cj := cell_blk M2.out.2.2 4 (v := .int .i64 0) rfl
      have fj := frozen_blk M2.out.2.2 4
      clear l2 k2 M
      go_wp2_with fail
      go_meet
      rw [HO.out]
      exact ⟨Mid.keepN HW1.out M2.out.1, M2.out.2.1.node M2.out.2.2 4 _, (set_blk M2.out.2.2 4 _).trans rfl⟩
    · obtain rfl : bb = false := by rw [HQ.out]; exact decide_eq_false hb
      have HO : Hid (tkOpt kwBeat 0 s4 = (0, s4)) := by show _ = _; unfold tkOpt; rw [if_neg hb]
      clear hb
      go_wp2_with fail
      go_meet
      rw [HO.out]
      exact M.out
  case rest =>
  clear M N5 HQ
  have M := hide hcut
  generalize hv : (tkOpt kwBeat 0 s4).1 = be at *
  generalize hs : (tkOpt kwBeat 0 s4).2 = s5 at *
  have EE := hide hv
  have EEs := hide hs
  clear hv hs hcut
  go_upto_if 26 with (go_at_call 92; refine (HX.out _ _ M.out.2.1).mono ?_; rintro e wz ⟨rfl, rfl⟩)
  generalize hbb : ((ba (hd s5.1)).toList == [98, 97, 99, 107, 111, 102, 102]) = bb
  have HQ := hide (hbb.symm.trans (string_lit _ kwBack))
  clear hbb
  go_cut [] from 6 (fun wx => Mid w L pl w1.heap.size (tkCap s5).2 nm la bu cl be (tkOpt kwBack 1 s5).1 (tkCap s5).1 0 wx)
  case first =>
    by_cases hb : hd s5.1 = kwBack
    · obtain rfl : bb = true := by rw [HQ.out]; exact decide_eq_true hb
      have HOp : tkOpt kwBack 1 s5 = tkNum kwBack s5 := by unfold tkOpt; rw [if_pos hb]
      have HO : Hid ((tkOpt kwBack 1 s5).1 = (tkNum kwBack s5).1) := by show _ = _; rw [HOp]
      have HO2 : Hid (tkCap s5 = tkNum kwTo (tkNum kwBack s5).2) := by show _ = _; unfold tkCap; rw [if_pos hb, HOp]
      clear HOp
      clear hb
      go_wp2_with fail
      go_at_call 103
      refine (N6.out _ _ M.out.2.1).mono ?_
      rintro e w9 ⟨rfl, l2, k2⟩
      have M2 := hide (M.out.take l2 k2)
      have cj := cell_blk M2.out.2.2 5 (v := .int .i64 1) rfl
      have fj := frozen_blk M2.out.2.2 5
      clear l2 k2 M
      generalize (tkNum kwBack s5).1 = bs at *
      generalize (tkNum kwBack s5).2 = sb at *
      go_wp2_with fail
      have M : Hid (Mid w L pl w1.heap.size sb nm la bu cl be bs 1 0 (w9.setCell ⟨w1.heap.size, 5, none⟩ (.int .i64 bs))) := ⟨Mid.keepN HW1.out M2.out.1, M2.out.2.1.node M2.out.2.2 5 _, (set_blk M2.out.2.2 5 _).trans rfl⟩
      clear M2 cj fj
      generalize w9.setCell ⟨w1.heap.size, 5, none⟩ (.int .i64 bs) = w10 at *
      go_at_call 103
      refine (N7.out _ _ M.out.2.1).mono ?_
      rintro e w11 ⟨rfl, l2, k2⟩
      have M2 := hide (M.out.take l2 k2)
      have cj := cell_blk M2.out.2.2 6 (v := .int .i64 1) rfl
      have fj := frozen_blk M2.out.2.2 6
      clear l2 k2 M
      go_wp2_with fail
      go_meet
      rw [HO.out, HO2.out]
      exact ⟨Mid.keepN HW1.out M2.out.1, M2.out.2.1.node M2.out.2.2 6 _, (set_blk M2.out.2.2 6 _).trans rfl⟩
    · obtain rfl : bb = false := by rw [HQ.out]; exact decide_eq_false hb
      have HO : Hid (tkOpt kwBack 1 s5 = (1, s5)) := by show _ = _; unfold tkOpt; rw [if_neg hb]
      have HO2 : Hid (tkCap s5 = (1, s5)) := by show _ = _; unfold tkCap; rw [if_neg hb, HO.out]
      clear hb
      go_wp2_with fail
      go_meet
      rw [HO.out, HO2.out]
      exact M.out
  case rest =>
  clear M N6 N7 HQ
  have M := hide hcut
  generalize hv : (tkOpt kwBack 1 s5).1 = bs at *
  generalize hs : (tkCap s5).2 = s6 at *
  generalize hc : (tkCap s5).1 = ca at *
  have EA := hide hv
  have ECs := hide hs
  have ECa := hide hc
  clear hv hs hc hcut
  go_upto_if 35 with (go_at_call 92; refine (HX.out _ _ M.out.2.1).mono ?_; rintro e wz ⟨rfl, rfl⟩)
  generalize hbb : ((ba (hd s6.1)).toList == [106, 105, 116, 116, 101, 114]) = bb
  have HQ := hide (hbb.symm.trans (string_lit _ kwJit))
  clear hbb
  go_cut [] from 6 (fun wx => Mid w L pl w1.heap.size (tkOpt kwJit 0 s6).2 nm la bu cl be bs ca (tkOpt kwJit 0 s6).1 wx)
  case first =>
    by_cases hb : hd s6.1 = kwJit
    · obtain rfl : bb = true := by rw [HQ.out]; exact decide_eq_true hb
      have HO : Hid (tkOpt kwJit 0 s6 = tkNum kwJit s6) := by show _ = _; unfold tkOpt; rw [if_pos hb]
      clear hb
      go_wp2_with fail
      go_at_call 103
      refine (N8.out _ _ M.out.2.1).mono ?_
      rintro e w9 ⟨rfl, l2, k2⟩
      have M2 := hide (M.out.take l2 k2)
      have cj := cell_blk M2.out.2.2 7 (v := .int .i64 0) rfl
      have fj := frozen_blk M2.out.2.2 7
      clear l2 k2 M
      go_wp2_with fail
      go_meet
      rw [HO.out]
      exact ⟨Mid.keepN HW1.out M2.out.1, M2.out.2.1.node M2.out.2.2 7 _, (set_blk M2.out.2.2 7 _).trans rfl⟩
    · obtain rfl : bb = false := by rw [HQ.out]; exact decide_eq_false hb
      have HO : Hid (tkOpt kwJit 0 s6 = (0, s6)) := by show _ = _; unfold tkOpt; rw [if_neg hb]
      clear hb
      go_wp2_with fail
      go_meet
      rw [HO.out]
      exact M.out
  case rest =>
  clear M N8 HX HQ
  have M := hide hcut
  generalize hv : (tkOpt kwJit 0 s6).1 = ji at *
  generalize hs : (tkOpt kwJit 0 s6).2 = s7 at *
  have EJ := hide hv
  have EJs := hide hs
  clear hv hs hcut
  have HRN : Hid (rdNode ws = (⟨nm, la, bu, cl, be, bs, ca, ji, [], []⟩, s7)) := by
    show _ = _
    have e0 := HS0.out
    unfold rdNode
    simp only
    rw [← e0, EN.out, ENs.out, EL.out, ELs.out, EB.out, EBs.out, EC.out, ECs0.out, EE.out, EEs.out]
    rw [show (if hd s5.1 = kwBack then tkNum kwTo (tkOpt kwBack 1 s5).2 else (1, (tkOpt kwBack 1 s5).2)) = tkCap s5 from rfl, EA.out, ECa.out, ECs.out, EJ.out, EJs.out]
  have HR : Hid (R = if fits s7 = true ∧ d.place ≠ 0 then some { d with nds := d.nds ++ [⟨nm, la, bu, cl, be, bs, ca, ji, [], []⟩], places := d.places ++ [pl], hn := false, ha := false } else none) := by
    show _ = _
    rw [HR0.out, addNode, HRN.out]
  clear HR0 HRN EN ENs EL ELs EB EBs EC ECs0 EE EEs EA ECs ECa EJ EJs HS0 HW1
  have FT := hide (fits_any L pl s7 wc M.out.2.1)
  obtain ⟨vn, vp, vm, X⟩ := HD.out
  obtain ⟨csL, hbL⟩ := HL.out.blk
  have X1 := hide (X.line hbL M.out.1)
  have F1 := hide (Fr.line HL.out hBL M.out.1)
  clear X hbL HD HL
  have c3 := cell_blk X1.out.2.1 3 (v := .int .i64 (d.place : Int)) rfl
  generalize fits s7 = ft at *
  cases ft with
  | false =>
    obtain rfl : R = none := by rw [HR.out, if_neg (by simp)]
    go_wp2_with (go_at_call 104; refine FT.out.mono ?_; rintro e wz ⟨rfl, rfl⟩)
    go_ret
    exact ⟨rfl, (fun d' h => by cases h), F1.out, fun _ => M.out.2.1.place⟩
  | true =>
    by_cases hp : d.place = 0
    · obtain rfl : R = none := by rw [HR.out, if_neg (fun h => h.2 hp)]
      rw [hp] at c3
      go_wp2_with (go_at_call 104; refine FT.out.mono ?_; rintro e wz ⟨rfl, rfl⟩)
      go_ret
      exact ⟨rfl, (fun d' h => by cases h), F1.out, fun _ => M.out.2.1.place⟩
    · have hr := HR.out
      rw [if_pos ⟨rfl, hp⟩] at hr
      subst hr
      have hp' : ((d.place : Int) == 0) = false := by simp; omega
      clear hp HR
      go_upto_region 14 with (go_at_call 104; refine FT.out.mono ?_; rintro e wz ⟨rfl, rfl⟩)
      clear FT c3 hp'
      obtain ⟨x, hx⟩ : ∃ x : Pn, x = ⟨nm, la, bu, cl, be, bs, ca, ji, [], []⟩ := ⟨_, rfl⟩
      have hrow : (no x).q.row.toArray = #[.string (ba nm), .int .i64 la, .int .i64 bu, .int .i64 cl, .int .i64 be, .int .i64 bs, .int .i64 ca, .int .i64 ji, .slice none 0 0, .slice none 0 0] := by rw [hx]; rfl
      obtain ⟨v', w4, hap, b4, X4, F4, hln⟩ := X1.out.addNd hnd x 1 22
      obtain ⟨va, vc, rfl⟩ := own_shape X4.2.2.1
      rw [hrow] at hap
      have nb := M.out.2.2
      have n0 := cell_blk nb 0 (v := .string (ba nm)) rfl
      have n1 := cell_blk nb 1 (v := .int .i64 la) rfl
      have n2 := cell_blk nb 2 (v := .int .i64 bu) rfl
      have n3 := cell_blk nb 3 (v := .int .i64 cl) rfl
      have n4 := cell_blk nb 4 (v := .int .i64 be) rfl
      have n5 := cell_blk nb 5 (v := .int .i64 bs) rfl
      have n6 := cell_blk nb 6 (v := .int .i64 ca) rfl
      have n7 := cell_blk nb 7 (v := .int .i64 ji) rfl
      have n8 := cell_blk nb 8 (v := .slice none 0 0) rfl
      have n9 := cell_blk nb 9 (v := .slice none 0 0) rfl
      have d2 := cell_blk X1.out.2.1 2 (v := vn) rfl
      have d2' : (wz.alloc (.cells #[.string (ba nm), .int .i64 la, .int .i64 bu, .int .i64 cl, .int .i64 be, .int .i64 bs, .int .i64 ca, .int .i64 ji, .slice none 0 0, .slice none 0 0] 32)).drew.cell? ⟨D, 2, none⟩ = some vn := (((Below.refl wz.heap.size wz).alloc (Nat.le_refl _) _).drew.cell (p := ⟨D, 2, none⟩) (World.block_lt_of_cell? _ _ d2)).trans d2
      have e2 := cell_blk b4 2 (v := vn) rfl
      have e2f := frozen_blk b4 2
      have HAP := hide hap
      have X4H := hide X4
      have F4H := hide (F1.out.trans F4)
      have HLN := hide hln
      have HXe := hide hx
      obtain ⟨csz, hbz⟩ := M.out.2.1.blk
      have LB := hide (hln L csz hbz).2
      have LZ := hide (show csz[0]? = some (.int .i64 (pl : Int)) by
        have h1 := M.out.2.1.place
        rw [World.cell?, hbz] at h1
        simpa using h1)
      clear hap X4 F4 hln hx nb b4 hrow X1 F1 hbz
      go_cut [] from 6 (fun wx => wx = w4.setCell ⟨D, 2, none⟩ (.slice va (d.nds.length + 1) vc))
      case first =>
        go_region_law (refine step_append_run (by rfl) _ _ 22 (by rfl) _ _ (by rfl) (by rfl) HAP.out ?_)
        all_goals go_wp2_with fail
        all_goals go_meet
        all_goals rfl
      case rest =>
      have e1 : ({ d with nds := d.nds ++ [x] } : Dr).nds.length = d.nds.length + 1 := by simp
      rw [e1] at X4H F4H LB
      rw [← hcut] at X4H F4H LB
      have hx := HXe.out
      subst hx
      clear hcut e1 HAP HLN n0 n1 n2 n3 n4 n5 n6 n7 n8 n9 d2 d2' e2 e2f
      obtain ⟨v', w5, hap, b5, X5, F5, hln⟩ := X4H.out.addPl hpd pl 1 30
      obtain ⟨vb, vd, rfl⟩ := own_shape X5.2.2.2.1
      have l0 := cell_blk LB.out 0 (v := .int .i64 (pl : Int)) LZ.out
      have l0' : (wc.alloc (.cells #[.int .i64 (pl : Int)] 3)).drew.cell? ⟨L, 0, none⟩ = some (.int .i64 (pl : Int)) := (((Below.refl wc.heap.size wc).alloc (Nat.le_refl _) _).drew.cell (p := ⟨L, 0, none⟩) (World.block_lt_of_cell? _ _ l0)).trans l0
      have d4 := cell_blk X4H.out.2.1 4 (v := vp) rfl
      have d4' : (wc.alloc (.cells #[.int .i64 (pl : Int)] 3)).drew.cell? ⟨D, 4, none⟩ = some vp := (((Below.refl wc.heap.size wc).alloc (Nat.le_refl _) _).drew.cell (p := ⟨D, 4, none⟩) (World.block_lt_of_cell? _ _ d4)).trans d4
      have e4 := cell_blk b5 4 (v := vp) rfl
      have e4f := frozen_blk b5 4
      have HAP := hide hap
      have X5H := hide X5
      have F5H := hide (F4H.out.trans F5)
      clear hap X5 F5 hln b5 X4H F4H LB LZ
      go_upto_region 15 with fail
      go_cut [] from 6 (fun wx => wx = w5.setCell ⟨D, 4, none⟩ (.slice vb (d.places.length + 1) vd))
      case first =>
        go_region_law (refine step_append_run (by rfl) _ _ 30 (by rfl) _ _ (by rfl) (by rfl) HAP.out ?_)
        all_goals go_wp2_with fail
        all_goals go_meet
        all_goals rfl
      case rest =>
      simp only [List.length_append, List.length_singleton] at X5H F5H
      rw [← hcut] at X5H F5H
      clear hcut HAP l0 l0' d4 d4' e4 e4f
      have c5 := cell_blk X5H.out.2.1 5 (v := .bool d.hn) rfl
      have c6 := cell_blk X5H.out.2.1 6 (v := .bool d.ha) rfl
      have f5 := frozen_blk X5H.out.2.1 5
      have f6 := frozen_blk X5H.out.2.1 6
      go_wp2_with fail
      go_ret
      obtain ⟨y0, y1, y2, y3, y4⟩ := X5H.out
      have kk := (keep_cell wc D 5 (.bool false)).more (keep_cell _ D 6 (.bool false))
      refine ⟨rfl, fun d' h => ?_, F5H.out.trans (Fr.ofKeep kk fun i e => by subst e; exact ⟨y0, _, _, y1, .inl rfl⟩), fun h => by cases h⟩
      injection h with h
      subst h
      exact DrAt.put (d := { d with nds := d.nds ++ [⟨nm, la, bu, cl, be, bs, ca, ji, [], []⟩], places := d.places ++ [pl] }) y0 y1 y2 y3 y4 kk rfl rfl rfl ((set_blk (set_blk y1 5 _) 6 _).trans rfl)
end U
end Go.Proofs.YtfoahfgehmghcaaGreatDoor
