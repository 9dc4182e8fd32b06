/- The document's Parse: a node's line (written by nd_gen.py). -/
import Derived.Test.YtfoahfgehmghcaaGreatDoorUSp3
import Derived.Deep.CutRange
import Derived.Laws.Rows
import Derived.Laws.Tables
namespace Go.Proofs.YtfoahfgehmghcaaGreatDoor
namespace U
namespace Sp
open Go.RowKit

theorem sd_le (ws : List (List UInt8)) (p : Nat) (kw : List UInt8) : (sd ws p kw).2.1 ≤ p + 2 := by unfold sd; split <;> simp
theorem sdO_le (ws : List (List UInt8)) (p : Nat) (kw : List UInt8) (z : Int) (ok : Bool) : (sdO ws p kw z ok).2.1 ≤ p + 2 := by
  unfold sdO
  split
  · exact sd_le ws p kw
  · simp
def nrow (nm : List UInt8) (la bu cl be bs ca ji : Int) : Array Value := #[.string (ba nm), .int .i64 la, .int .i64 bu, .int .i64 cl, .int .i64 be, .int .i64 bs, .int .i64 ca, .int .i64 ji, .slice none 0 0, .slice none 0 0]
def pnV (x : Pn) : Array Value := nrow x.nm x.la x.bu x.cl x.be x.bs x.ca x.ji
def zN : Array Value := #[.string ⟨#[]⟩, .int .i64 0, .int .i64 0, .int .i64 0, .int .i64 0, .int .i64 0, .int .i64 0, .int .i64 0, .slice none 0 0, .slice none 0 0]
theorem zN_one : zN.all (·.oneCell') = true := by kernel_rfl
theorem nrow_one (nm : List UInt8) (la bu cl be bs ca ji : Int) : (nrow nm la bu cl be bs ca ji).all (·.oneCell') = true := by simp [nrow, Value.oneCell']
theorem size_node : (Tryz.prog.info? 32).map (·.size) = some 10 := by kernel_rfl
theorem res_node {fn : Func} {p u : Tmp} (h : fn.results = #[.cell p 32, .tmp u]) (tmps : Array Value) (w : World) (g : Nat) (cs : Array Value) (hc : cs.size = 10) (hp : tmps.getD p undef = .pointer (some ⟨g, 0, none⟩)) (hg : w.heap[g]? = some (.cells cs 32 (0, 0))) :
    (results fn tmps).run Tryz.prog w = .ok (.tuple #[.agg cs, tmps.getD u undef]) w := by
  have hp' : tmps[p]?.getD undef = .pointer (some ⟨g, 0, none⟩) := by simpa using hp
  simp [results, h, hp', asAddr, run_loadVar_row w g 32 32 cs (0, 0) _ hg Tryz.underlying32 rfl (by rw [size_node, hc])]
/-- what node leaves -/
def NdEnd (x : Pn × Bool) (w : World) (e : Ending) (w' : World) : Prop := e = .returned (.tuple #[.agg (pnV x.1), .bool x.2]) ∧ Below w.heap.size w w'
/-- between two steps of node -/
structure Mw (w : World) (N : Nat) (wx : World) (cs : Array Value) : Prop where
  lt : w.heap.size < N
  bel : Below w.heap.size w wx
  r : wx.heap[w.heap.size]? = some (.cells zN 32 (0, 0))
  n : wx.heap[N]? = some (.cells cs 32 (0, 0))
theorem Mw.put {w wx : World} {N : Nat} {cs : Array Value} (h : Mw w N wx cs) (j : Nat) (u : Value) : Mw w N (wx.setCell ⟨N, j, none⟩ u) (cs.setIfInBounds j u) :=
  ⟨h.lt, h.bel.trans ((keep_cell wx N j u).below h.bel.size fun i e => by have := h.lt; omega), (keep_cell wx N j u).blk h.r (by have := h.lt; omega), set_blk h.n j u⟩
theorem Mw.new {w w0 : World} (b : Below w.heap.size w w0) (h : w0.heap[w.heap.size]? = some (.cells zN 32 (0, 0))) (cs : Array Value) : Mw w w0.heap.size ((w0.alloc (.cells zN 32)).setRow w0.heap.size cs) cs := by
  have hlt := (Array.getElem?_eq_some_iff.1 h).1
  have h2 := heap_alloc_new w0 (.cells zN 32)
  refine ⟨hlt, below_setRow (b.alloc (by omega) _) (by omega) cs, ?_, setRow_heap _ _ _ _ _ _ h2⟩
  rw [setRow_other _ _ _ _ (by omega)]
  exact (Below.heap_alloc _ _ _ hlt).trans h
theorem Mw.ret {w wx : World} {N : Nat} {cs : Array Value} (h : Mw w N wx cs) : (wx.setRow w.heap.size cs).heap[w.heap.size]? = some (.cells cs 32 (0, 0)) ∧ Below w.heap.size w (wx.setRow w.heap.size cs) :=
  ⟨setRow_heap _ _ _ _ _ _ h.r, below_setRow h.bel (Nat.le_refl _) cs⟩
/-- a node's line behind its close -/
def rtail (ws : List (List UInt8)) (nm : List UInt8) (la bu cl : Int) (p : Nat) : Pn × Bool :=
  let be := sdO ws p kwBeat 0 true
  let bs := sdO ws be.2.1 kwBack 1 be.2.2
  let ca := rcap ws be bs
  let ji := sdO ws ca.2.1 kwJit 0 ca.2.2
  (⟨nm, la, bu, cl, be.1, bs.1, ca.1, ji.1, [], []⟩, ji.2.2 && decide (ji.2.1 = ws.length))
theorem rnode_go (ws : List (List UInt8)) (h : ¬ (ws.length < 8 ∨ ws.getD 0 [] ≠ kwNode ∨ nmL (ws.getD 1 []) = false)) : rnode ws = if ((sd ws 2 kwLane).2.2 && (sd ws (sd ws 2 kwLane).2.1 kwBudget).2.2 && (sd ws (sd ws (sd ws 2 kwLane).2.1 kwBudget).2.1 kwClose).2.2) = false then (zPn, false) else rtail ws (ws.getD 1 []) (sd ws 2 kwLane).1 (sd ws (sd ws 2 kwLane).2.1 kwBudget).1 (sd ws (sd ws (sd ws 2 kwLane).2.1 kwBudget).2.1 kwClose).1 (sd ws (sd ws (sd ws 2 kwLane).2.1 kwBudget).2.1 kwClose).2.1 := by
  unfold rnode
  rw [if_neg h]
  rfl
theorem rcap_le (ws : List (List UInt8)) (be bs : Int × Nat × Bool) : (rcap ws be bs).2.1 ≤ bs.2.1 + 2 := by
  unfold rcap
  split
  · split
    · exact sd_le _ _ _
    · simp
  · simp
set_option maxRecDepth 100000 in
set_option maxHeartbeats 8000000 in
theorem node_any (a : Option Addr) (c : Nat) (ws : List (List UInt8)) (w : World) (hr : RdS w a ws) (hz : ∀ x ∈ ws, x.length ≤ 65536) (hl : ws.length ≤ 1000000) :
    Calls Tryz.prog 47 #[.slice a ws.length c] w (NdEnd (rnode ws) w) := by
  have H1 : Hid (ws.length < 8 ∨ ws.getD 0 [] ≠ kwNode ∨ nmL (ws.getD 1 []) = false → rnode ws = (zPn, false)) := fun h => by unfold rnode; rw [if_pos h]
  have H2 : Hid (¬ (ws.length < 8 ∨ ws.getD 0 [] ≠ kwNode ∨ nmL (ws.getD 1 []) = false) → rnode ws = if ((sd ws 2 kwLane).2.2 && (sd ws (sd ws 2 kwLane).2.1 kwBudget).2.2 && (sd ws (sd ws (sd ws 2 kwLane).2.1 kwBudget).2.1 kwClose).2.2) = false then (zPn, false) else rtail ws (ws.getD 1 []) (sd ws 2 kwLane).1 (sd ws (sd ws 2 kwLane).2.1 kwBudget).1 (sd ws (sd ws (sd ws 2 kwLane).2.1 kwBudget).2.1 kwClose).1 (sd ws (sd ws (sd ws 2 kwLane).2.1 kwBudget).2.1 kwClose).2.1) := fun h => rnode_go ws h
  have SD := hide (fun W p kw (h : Below w.heap.size w W) hp => said_any a c ws p kw W (hr.below h) hz hp)
  have hz0 : NdEnd (zPn, false) w = fun e w' => e = .returned (.tuple #[.agg zN, .bool false]) ∧ Below w.heap.size w w' := rfl
  have hb0 := heap_alloc_new w (.cells #[.string ⟨#[]⟩, .int .i64 0, .int .i64 0, .int .i64 0, .int .i64 0, .int .i64 0, .int .i64 0, .int .i64 0, .slice none 0 0, .slice none 0 0] 32)
  have HB0 := hide hb0
  have BW0 : Hid (Below w.heap.size w (w.alloc (.cells #[.string ⟨#[]⟩, .int .i64 0, .int .i64 0, .int .i64 0, .int .i64 0, .int .i64 0, .int .i64 0, .int .i64 0, .slice none 0 0, .slice none 0 0] 32))) := (Below.refl _ w).alloc (Nat.le_refl _) _
  have RET0 : Hid (∀ W, Below w.heap.size w W → W.heap[w.heap.size]? = some (.cells zN 32 (0, 0)) → (W.setRow w.heap.size zN).heap[w.heap.size]? = some (.cells zN 32 (0, 0)) ∧ Below w.heap.size w (W.setRow w.heap.size zN)) := fun W b h => ⟨setRow_heap _ _ _ _ _ _ h, below_setRow b (Nat.le_refl _) _⟩
  generalize hn : ws.length = n at *
  clear hb0
  by_cases c8 : n < 8
  · have i8 : (n : Int) < 8 := by omega
    rw [H1.out (.inl c8), hz0]
    clear H1 H2 SD hr hz hz0
    go_enter Tryz.func47, Tryz.ntmps47
    go_upto_region 1 with fail
    generalize w.alloc (.cells #[.string ⟨#[]⟩, .int .i64 0, .int .i64 0, .int .i64 0, .int .i64 0, .int .i64 0, .int .i64 0, .int .i64 0, .slice none 0 0, .slice none 0 0] 32) = w0 at *
    go_wp2_with (first
      | (refine wpList_store_row rfl 32 _ _ rfl w.heap.size zN rfl rfl 32 zN HB0.out size_node rfl zN_one ?_))
    refine bodyPost_ret (res_node rfl _ _ w.heap.size _ rfl rfl (RET0.out _ BW0.out HB0.out).1) rfl ?_
    exact ⟨rfl, (RET0.out _ BW0.out HB0.out).2⟩
  · have i8 : ¬ (n : Int) < 8 := by omega
    obtain ⟨x0, hx0⟩ : ∃ x, ws[0]? = some x := ⟨_, List.getElem?_eq_getElem (by omega)⟩
    obtain ⟨x1, hx1⟩ : ∃ x, ws[1]? = some x := ⟨_, List.getElem?_eq_getElem (by omega)⟩
    obtain ⟨g, off, rfl, _, hc⟩ := hr.resolve_left (ne_of_lt (i := 0) (by omega))
    have HC : Hid (∀ W, Below w.heap.size w W → ∀ j x, ws[j]? = some x → W.cell? ⟨g, off + j, none⟩ = some (.string (ba x))) := fun W b j x hj => (b.cell (p := ⟨g, off + j, none⟩) (World.block_lt_of_cell? _ _ (hc j x hj))).trans (hc j x hj)
    have e0 := HC.out _ BW0.out 0 x0 hx0
    have e1 := HC.out _ BW0.out 1 x1 hx1
    rw [Nat.add_zero] at e0
    have hq0 := string_lit x0 kwNode
    have hq1 : ((ba x0).toList == [110, 111, 100, 101]) = decide (x0 = kwNode) := hq0
    clear hq0
    generalize hq2 : ((ba x0).toList == [110, 111, 100, 101]) = bq at hq1
    have IN := hide (fun W => refName_any x1 W (hz x1 (List.mem_of_getElem? hx1)))
    rw [getD_of hx0, getD_of hx1] at H1 H2
    have HX1 := hide hx1
    have HN := hide hn
    clear hc hx0 hx1 hr hz hn
    by_cases ck : x0 = kwNode
    · have hq : ((ba x0).toList == [110, 111, 100, 101]) = true := by rw [hq2, hq1]; exact decide_eq_true ck
      clear hq1 hq2
      cases cn : nmL x1 with
      | false =>
        rw [H1.out (.inr (.inr cn)), hz0]
        rw [cn] at IN
        clear H1 H2 SD hz0 HC ck
        go_enter Tryz.func47, Tryz.ntmps47
        go_upto_region 1 with fail
        generalize w.alloc (.cells #[.string ⟨#[]⟩, .int .i64 0, .int .i64 0, .int .i64 0, .int .i64 0, .int .i64 0, .int .i64 0, .int .i64 0, .slice none 0 0, .slice none 0 0] 32) = w0 at *
        go_wp2_with (first
          | (go_at_call 45; refine (IN.out _).mono ?_; rintro e wz ⟨rfl, rfl⟩)
          | (refine wpList_store_row rfl 32 _ _ rfl w.heap.size zN rfl rfl 32 zN HB0.out size_node rfl zN_one ?_))
        refine bodyPost_ret (res_node rfl _ _ w.heap.size _ rfl rfl (RET0.out _ BW0.out HB0.out).1) rfl ?_
        exact ⟨rfl, (RET0.out _ BW0.out HB0.out).2⟩
      | true =>
        have HRN := hide (H2.out (fun h => by rcases h with h | h | h; · exact c8 h
                                              · exact h ck
                                              · rw [cn] at h; cases h))
        rw [cn] at IN
        clear H1 H2 ck cn
        have L1 := sd_le ws 2 kwLane
        generalize hla : sd ws 2 kwLane = la at *
        have L2 := sd_le ws la.2.1 kwBudget
        generalize hbu : sd ws la.2.1 kwBudget = bu at *
        have L3 := sd_le ws bu.2.1 kwClose
        generalize hcl : sd ws bu.2.1 kwClose = cl at *
        have S1 := hide (fun W b => SD.out W 2 kwLane b (by omega))
        have S2 := hide (fun W b => SD.out W la.2.1 kwBudget b (by omega))
        have S3 := hide (fun W b => SD.out W bu.2.1 kwClose b (by omega))
        rw [hla] at S1
        rw [hbu] at S2
        rw [hcl] at S3
        obtain ⟨la1, la2, la3⟩ := la
        obtain ⟨bu1, bu2, bu3⟩ := bu
        obtain ⟨cl1, cl2, cl3⟩ := cl
        have hp8 : cl2 ≤ 8 := by simp only at L1 L2 L3; omega
        unfold sdV at S1 S2 S3
        simp only at S1 S2 S3
        clear L1 L2 L3 hla hbu hcl
        simp only at HRN
        generalize rnode ws = RR at *
        go_enter Tryz.func47, Tryz.ntmps47
        go_upto_region 1 with fail
        generalize w.alloc (.cells #[.string ⟨#[]⟩, .int .i64 0, .int .i64 0, .int .i64 0, .int .i64 0, .int .i64 0, .int .i64 0, .int .i64 0, .slice none 0 0, .slice none 0 0] 32) = w0 at *
        go_upto_region 3 with (go_at_call 45; refine (IN.out _).mono ?_; rintro e wz ⟨rfl, rfl⟩)
        go_upto_region 4 with (go_at_call 46; refine (S1.out _ BW0.out).mono ?_; rintro e wz ⟨rfl, rfl⟩)
        go_upto_region 5 with (go_at_call 46; refine (S2.out _ BW0.out).mono ?_; rintro e wz ⟨rfl, rfl⟩)
        go_upto_region 6 with (go_at_call 46; refine (S3.out _ BW0.out).mono ?_; rintro e wz ⟨rfl, rfl⟩)
        cases la3 with
        | false =>
          have hR : RR = (zPn, false) := by rw [HRN.out, if_pos (by rfl)]
          subst hR
          clear HRN SD hz0 HC S1 S2 S3
          go_wp2_with (first
            | (refine wpList_store_row rfl 32 _ _ rfl w.heap.size zN rfl rfl 32 zN HB0.out size_node rfl zN_one ?_))
          refine bodyPost_ret (res_node rfl _ _ w.heap.size _ rfl rfl (RET0.out _ BW0.out HB0.out).1) rfl ?_
          exact ⟨rfl, (RET0.out _ BW0.out HB0.out).2⟩
        | true =>
          cases bu3 with
          | false =>
            have hR : RR = (zPn, false) := by rw [HRN.out, if_pos (by rfl)]
            subst hR
            clear HRN SD hz0 HC S1 S2 S3
            go_wp2_with (first
              | (refine wpList_store_row rfl 32 _ _ rfl w.heap.size zN rfl rfl 32 zN HB0.out size_node rfl zN_one ?_))
            refine bodyPost_ret (res_node rfl _ _ w.heap.size _ rfl rfl (RET0.out _ BW0.out HB0.out).1) rfl ?_
            exact ⟨rfl, (RET0.out _ BW0.out HB0.out).2⟩
          | true =>
            cases cl3 with
            | false =>
              have hR : RR = (zPn, false) := by rw [HRN.out, if_pos (by rfl)]
              subst hR
              clear HRN SD hz0 HC S1 S2 S3
              go_wp2_with (first
                | (refine wpList_store_row rfl 32 _ _ rfl w.heap.size zN rfl rfl 32 zN HB0.out size_node rfl zN_one ?_))
              refine bodyPost_ret (res_node rfl _ _ w.heap.size _ rfl rfl (RET0.out _ BW0.out HB0.out).1) rfl ?_
              exact ⟨rfl, (RET0.out _ BW0.out HB0.out).2⟩
            | true =>
              have HRN2 : Hid (RR = rtail ws x1 la1 bu1 cl1 cl2) := by
                have := HRN.out
                rwa [if_neg (by simp)] at this
              have e1' : wz.cell? ⟨g, off + 1, none⟩ = some (.string (ba x1)) := e1
              have MN := hide (Mw.new BW0.out HB0.out (nrow x1 la1 bu1 cl1 0 1 1 0))
              clear HRN S1 S2 S3 hz0 RET0 e0 e1
              go_upto_region 10 with (first
                | (refine wpList_store_row rfl 32 _ _ rfl wz.heap.size (nrow x1 la1 bu1 cl1 0 1 1 0) rfl rfl 32 zN ?s1 size_node rfl (nrow_one ..) ?_; case s1 => exact heap_alloc_new _ _))
              generalize hW1 : (wz.alloc (.cells #[.string ⟨#[]⟩, .int .i64 0, .int .i64 0, .int .i64 0, .int .i64 0, .int .i64 0, .int .i64 0, .int .i64 0, .slice none 0 0, .slice none 0 0] 32)).setRow wz.heap.size (nrow x1 la1 bu1 cl1 0 1 1 0) = W1
              have M1 : Hid (Mw w wz.heap.size W1 (nrow x1 la1 bu1 cl1 0 1 1 0)) := by rw [← hW1]; exact MN.out
              clear MN hW1 BW0 HB0 e1'
              generalize wz.heap.size = N at *
              have HRT : Hid (∀ be bs ca ji : Int × Nat × Bool, be = sdO ws cl2 kwBeat 0 true → bs = sdO ws be.2.1 kwBack 1 be.2.2 → ca = rcap ws be bs → ji = sdO ws ca.2.1 kwJit 0 ca.2.2 → RR = (⟨x1, la1, bu1, cl1, be.1, bs.1, ca.1, ji.1, [], []⟩, ji.2.2 && decide (ji.2.1 = n))) := fun be bs ca ji h1 h2 h3 h4 => by
                rw [HRN2.out, h4, h3, h2, h1, ← HN.out]
                rfl
              clear HRN2
              generalize cl2 = p at *
              go_upto_region 10 with fail
              go_cut [78] from 13 (fun v wx => v = .bool (decide (true = true ∧ p < n ∧ ws.getD p [] = kwBeat)) ∧ wx = W1)
              case first =>
                by_cases hp : p < n
                · obtain ⟨x, hx⟩ : ∃ x, ws[p]? = some x := ⟨_, List.getElem?_eq_getElem (by rw [HN.out]; exact hp)⟩
                  have ex := HC.out _ M1.out.bel p x hx
                  have ip : (p : Int) < n := by omega
                  by_cases hk : x = kwBeat
                  · have hq : ((ba x).toList == [98, 101, 97, 116]) = true := (string_lit x kwBeat).trans (decide_eq_true hk)
                    have HT : Hid (decide (true = true ∧ p < n ∧ ws.getD p [] = kwBeat) = true) := decide_eq_true ⟨rfl, hp, by rw [getD_of hx]; exact hk⟩
                    clear hk hx
                    go_wp2_with fail
                    go_meet
                    rw [HT.out]
                    exact ⟨rfl, rfl⟩
                  · have hq : ((ba x).toList == [98, 101, 97, 116]) = false := (string_lit x kwBeat).trans (decide_eq_false hk)
                    have HT : Hid (decide (true = true ∧ p < n ∧ ws.getD p [] = kwBeat) = false) := decide_eq_false fun h => hk (by rw [← getD_of hx]; exact h.2.2)
                    clear hk hx
                    go_wp2_with fail
                    go_meet
                    rw [HT.out]
                    exact ⟨rfl, rfl⟩
                · have ip : ¬ (p : Int) < n := by omega
                  have HT : Hid (decide (true = true ∧ p < n ∧ ws.getD p [] = kwBeat) = false) := decide_eq_false fun h => hp h.2.1
                  go_wp2_with fail
                  go_meet
                  rw [HT.out]
                  exact ⟨rfl, rfl⟩
              case rest =>
              obtain ⟨rfl, hwc⟩ := hcut
              subst hwc
              have LB := sdO_le ws p kwBeat 0 true
              have HO : Hid (sdO ws p kwBeat 0 true = if true = true ∧ p < n ∧ ws.getD p [] = kwBeat then sd ws p kwBeat else (0, p, true)) := by show _ = _; unfold sdO; rw [HN.out]
              generalize hbe : sdO ws p kwBeat 0 true = be at *
              have EBE := hide hbe
              go_upto_if 78 with fail
              go_cut [5, 12] from 13 (fun v5 v12 wx => v5 = .int .i64 (be.2.1 : Nat) ∧ v12 = .bool be.2.2 ∧ Hid (Mw w N wx (nrow x1 la1 bu1 cl1 be.1 1 1 0)))
              case first =>
                by_cases hT : true = true ∧ p < n ∧ ws.getD p [] = kwBeat
                · have hd := decide_eq_true hT
                  have hb := HO.out
                  rw [if_pos hT] at hb
                  subst hb
                  have SS := hide (SD.out _ p kwBeat M1.out.bel (by omega))
                  unfold sdV at SS
                  have c4 := cell_blk M1.out.n 4 (v := .int .i64 0) rfl
                  have f4 := frozen_blk M1.out.n 4
                  generalize decide (true = true ∧ p < n ∧ ws.getD p [] = kwBeat) = T at *
                  subst hd
                  clear hT HO LB hbe EBE
                  go_wp2_with fail
                  go_at_call 46
                  refine SS.out.mono ?_
                  rintro e wz ⟨rfl, rfl⟩
                  go_wp2_with fail
                  go_meet
                  exact ⟨rfl, rfl, M1.out.put 4 _⟩
                · have hd := decide_eq_false hT
                  have hb := HO.out
                  rw [if_neg hT] at hb
                  subst hb
                  generalize decide (true = true ∧ p < n ∧ ws.getD p [] = kwBeat) = T at *
                  subst hd
                  clear hT HO LB hbe EBE
                  go_wp2_with fail
                  go_meet
                  exact ⟨rfl, rfl, M1.out⟩
              case rest =>
              obtain ⟨rfl, rfl, M2⟩ := hcut
              clear M1 HO hbe
              have M1 := hide M2.out
              clear M2
              obtain ⟨be1, be2, be3⟩ := be
              simp only at LB M1 ⊢
              have hb10 : be2 ≤ p + 2 := LB
              have hp10 : be2 ≤ 10 := by omega
              clear LB hb10 hp8
              have HRT1 : Hid (∀ bs ca ji : Int × Nat × Bool, bs = sdO ws be2 kwBack 1 be3 → ca = rcap ws (be1, be2, be3) bs → ji = sdO ws ca.2.1 kwJit 0 ca.2.2 → RR = (⟨x1, la1, bu1, cl1, be1, bs.1, ca.1, ji.1, [], []⟩, ji.2.2 && decide (ji.2.1 = n))) := fun bs ca ji h2 h3 h4 => HRT.out (be1, be2, be3) bs ca ji rfl h2 h3 h4
              clear HRT EBE
              generalize be3 = ok at *
              clear p
              generalize be2 = p at *
              generalize hW1 : wc = W1 at *
              clear hW1
              go_upto_region 12 with fail
              go_cut [100] from 13 (fun v wx => v = .bool (decide (ok = true ∧ p < n ∧ ws.getD p [] = kwBack)) ∧ wx = W1)
              case first =>
                cases ok with
                | false =>
                  have HT : Hid (decide (false = true ∧ p < n ∧ ws.getD p [] = kwBack) = false) := decide_eq_false fun h => by cases h.1
                  go_wp2_with fail
                  go_meet
                  rw [HT.out]
                  exact ⟨rfl, rfl⟩
                | true =>
                  by_cases hp : p < n
                  · obtain ⟨x, hx⟩ : ∃ x, ws[p]? = some x := ⟨_, List.getElem?_eq_getElem (by rw [HN.out]; exact hp)⟩
                    have ex := HC.out _ M1.out.bel p x hx
                    have ip : (p : Int) < n := by omega
                    by_cases hk : x = kwBack
                    · have hq : ((ba x).toList == [98, 97, 99, 107, 111, 102, 102]) = true := (string_lit x kwBack).trans (decide_eq_true hk)
                      have HT : Hid (decide (true = true ∧ p < n ∧ ws.getD p [] = kwBack) = true) := decide_eq_true ⟨rfl, hp, by rw [getD_of hx]; exact hk⟩
                      clear hk hx
                      go_wp2_with fail
                      go_meet
                      rw [HT.out]
                      exact ⟨rfl, rfl⟩
                    · have hq : ((ba x).toList == [98, 97, 99, 107, 111, 102, 102]) = false := (string_lit x kwBack).trans (decide_eq_false hk)
                      have HT : Hid (decide (true = true ∧ p < n ∧ ws.getD p [] = kwBack) = false) := decide_eq_false fun h => hk (by rw [← getD_of hx]; exact h.2.2)
                      clear hk hx
                      go_wp2_with fail
                      go_meet
                      rw [HT.out]
                      exact ⟨rfl, rfl⟩
                  · have ip : ¬ (p : Int) < n := by omega
                    have HT : Hid (decide (true = true ∧ p < n ∧ ws.getD p [] = kwBack) = false) := decide_eq_false fun h => hp h.2.1
                    go_wp2_with fail
                    go_meet
                    rw [HT.out]
                    exact ⟨rfl, rfl⟩
              case rest =>
              obtain ⟨rfl, hwc⟩ := hcut
              subst hwc
              have LB := sdO_le ws p kwBack 1 ok
              have LC := rcap_le ws (be1, p, ok) (sdO ws p kwBack 1 ok)
              have HO : Hid (sdO ws p kwBack 1 ok = if ok = true ∧ p < n ∧ ws.getD p [] = kwBack then sd ws p kwBack else (1, p, ok)) := by show _ = _; unfold sdO; rw [HN.out]
              have HP : Hid (rcap ws (be1, p, ok) (sdO ws p kwBack 1 ok) = if ok = true ∧ p < n ∧ ws.getD p [] = kwBack then (if (sdO ws p kwBack 1 ok).2.2 = true then sd ws (sdO ws p kwBack 1 ok).2.1 kwTo else (1, (sdO ws p kwBack 1 ok).2.1, (sdO ws p kwBack 1 ok).2.2)) else (1, (sdO ws p kwBack 1 ok).2.1, (sdO ws p kwBack 1 ok).2.2)) := by show _ = _; unfold rcap; rw [HN.out]
              have HRT2 := hide (fun ji => HRT1.out (sdO ws p kwBack 1 ok) (rcap ws (be1, p, ok) (sdO ws p kwBack 1 ok)) ji rfl rfl)
              clear HRT1
              generalize hca : rcap ws (be1, p, ok) (sdO ws p kwBack 1 ok) = ca at *
              generalize hbs : sdO ws p kwBack 1 ok = bs at *
              clear hca hbs
              go_upto_if 100 with fail
              go_cut [5, 12] from 13 (fun v5 v12 wx => v5 = .int .i64 (ca.2.1 : Nat) ∧ v12 = .bool ca.2.2 ∧ Hid (Mw w N wx (nrow x1 la1 bu1 cl1 be1 bs.1 ca.1 0)))
              case first =>
                by_cases hT : ok = true ∧ p < n ∧ ws.getD p [] = kwBack
                · have hd := decide_eq_true hT
                  have hb := HO.out
                  rw [if_pos hT] at hb
                  have hc := HP.out
                  rw [if_pos hT] at hc
                  have SS := hide (SD.out _ p kwBack M1.out.bel (by omega))
                  unfold sdV at SS
                  rw [← hb] at SS
                  have S4 := hide (fun W b => SD.out W bs.2.1 kwTo b (by omega))
                  unfold sdV at S4
                  generalize hdd : decide (ok = true ∧ p < n ∧ ws.getD p [] = kwBack) = T at *
                  subst hd
                  obtain ⟨bs1, bs2, bs3⟩ := bs
                  simp only at SS hc S4 ⊢
                  have c5 := cell_blk M1.out.n 5 (v := .int .i64 1) rfl
                  have f5 := frozen_blk M1.out.n 5
                  have M2 := hide (M1.out.put 5 (.int .i64 bs1))
                  cases bs3 with
                  | false =>
                    rw [if_neg (by simp)] at hc
                    subst hc
                    clear hT HO HP LB LC hb S4 HRT2 hdd
                    go_wp2_with fail
                    go_at_call 46
                    refine SS.out.mono ?_
                    rintro e wz ⟨rfl, rfl⟩
                    go_wp2_with fail
                    go_meet
                    exact ⟨rfl, rfl, M2.out⟩
                  | true =>
                    rw [if_pos rfl] at hc
                    subst hc
                    clear hT HO HP LB LC hb HRT2 hdd
                    go_wp2_with fail
                    go_at_call 46
                    refine SS.out.mono ?_
                    rintro e wz ⟨rfl, rfl⟩
                    have c6 := cell_blk M2.out.n 6 (v := .int .i64 1) rfl
                    have f6 := frozen_blk M2.out.n 6
                    have S5 := hide (S4.out _ M2.out.bel)
                    have M3 := hide (fun u => M2.out.put 6 u)
                    clear SS S4 M1 M2
                    go_upto_region 15 with fail
                    generalize (wz.setCell ⟨N, 5, none⟩ (.int .i64 bs1)) = w5 at *
                    go_wp2_with fail
                    go_at_call 46
                    refine S5.out.mono ?_
                    rintro e wy ⟨rfl, rfl⟩
                    go_wp2_with fail
                    go_meet
                    exact ⟨rfl, rfl, M3.out _⟩
                · have hd := decide_eq_false hT
                  have hb := HO.out
                  rw [if_neg hT] at hb
                  have hc := HP.out
                  rw [if_neg hT] at hc
                  subst hc
                  subst hb
                  generalize hdd : decide (ok = true ∧ p < n ∧ ws.getD p [] = kwBack) = T at *
                  subst hd
                  clear hT HO HP LB LC HRT2 hdd
                  go_wp2_with fail
                  go_meet
                  exact ⟨rfl, rfl, M1.out⟩
              case rest =>
              obtain ⟨rfl, rfl, M2⟩ := hcut
              clear M1 HO HP
              have M1 := hide M2.out
              clear M2
              generalize bs.1 = bs1 at *
              obtain ⟨ca1, ca2, ca3⟩ := ca
              simp only at LC M1 HRT2 ⊢
              have hp14 : ca2 ≤ 14 := by omega
              clear LB LC hp10
              generalize ca3 = ok2 at *
              clear p
              generalize ca2 = p at *
              generalize hW1 : wc = W1 at *
              clear hW1 ok
              generalize ok2 = ok at *
              go_upto_region 16 with fail
              go_cut [131] from 13 (fun v wx => v = .bool (decide (ok = true ∧ p < n ∧ ws.getD p [] = kwJit)) ∧ wx = W1)
              case first =>
                cases ok with
                | false =>
                  have HT : Hid (decide (false = true ∧ p < n ∧ ws.getD p [] = kwJit) = false) := decide_eq_false fun h => by cases h.1
                  go_wp2_with fail
                  go_meet
                  rw [HT.out]
                  exact ⟨rfl, rfl⟩
                | true =>
                  by_cases hp : p < n
                  · obtain ⟨x, hx⟩ : ∃ x, ws[p]? = some x := ⟨_, List.getElem?_eq_getElem (by rw [HN.out]; exact hp)⟩
                    have ex := HC.out _ M1.out.bel p x hx
                    have ip : (p : Int) < n := by omega
                    by_cases hk : x = kwJit
                    · have hq : ((ba x).toList == [106, 105, 116, 116, 101, 114]) = true := (string_lit x kwJit).trans (decide_eq_true hk)
                      have HT : Hid (decide (true = true ∧ p < n ∧ ws.getD p [] = kwJit) = true) := decide_eq_true ⟨rfl, hp, by rw [getD_of hx]; exact hk⟩
                      clear hk hx
                      go_wp2_with fail
                      go_meet
                      rw [HT.out]
                      exact ⟨rfl, rfl⟩
                    · have hq : ((ba x).toList == [106, 105, 116, 116, 101, 114]) = false := (string_lit x kwJit).trans (decide_eq_false hk)
                      have HT : Hid (decide (true = true ∧ p < n ∧ ws.getD p [] = kwJit) = false) := decide_eq_false fun h => hk (by rw [← getD_of hx]; exact h.2.2)
                      clear hk hx
                      go_wp2_with fail
                      go_meet
                      rw [HT.out]
                      exact ⟨rfl, rfl⟩
                  · have ip : ¬ (p : Int) < n := by omega
                    have HT : Hid (decide (true = true ∧ p < n ∧ ws.getD p [] = kwJit) = false) := decide_eq_false fun h => hp h.2.1
                    go_wp2_with fail
                    go_meet
                    rw [HT.out]
                    exact ⟨rfl, rfl⟩
              case rest =>
              obtain ⟨rfl, hwc⟩ := hcut
              subst hwc
              have LB := sdO_le ws p kwJit 0 ok
              have HO : Hid (sdO ws p kwJit 0 ok = if ok = true ∧ p < n ∧ ws.getD p [] = kwJit then sd ws p kwJit else (0, p, ok)) := by show _ = _; unfold sdO; rw [HN.out]
              have HRR := hide (HRT2.out (sdO ws p kwJit 0 ok) rfl)
              clear HRT2
              generalize hji : sdO ws p kwJit 0 ok = ji at *
              clear hji
              go_upto_if 131 with fail
              go_cut [5, 12] from 13 (fun v5 v12 wx => v5 = .int .i64 (ji.2.1 : Nat) ∧ v12 = .bool ji.2.2 ∧ Hid (Mw w N wx (nrow x1 la1 bu1 cl1 be1 bs1 ca1 ji.1)))
              case first =>
                by_cases hT : ok = true ∧ p < n ∧ ws.getD p [] = kwJit
                · have hd := decide_eq_true hT
                  have hb := HO.out
                  rw [if_pos hT] at hb
                  subst hb
                  have SS := hide (SD.out _ p kwJit M1.out.bel (by omega))
                  unfold sdV at SS
                  have c7 := cell_blk M1.out.n 7 (v := .int .i64 0) rfl
                  have f7 := frozen_blk M1.out.n 7
                  generalize hdd : decide (ok = true ∧ p < n ∧ ws.getD p [] = kwJit) = T at *
                  subst hd
                  clear hT HO LB HRR hdd
                  go_wp2_with fail
                  go_at_call 46
                  refine SS.out.mono ?_
                  rintro e wz ⟨rfl, rfl⟩
                  go_wp2_with fail
                  go_meet
                  exact ⟨rfl, rfl, M1.out.put 7 _⟩
                · have hd := decide_eq_false hT
                  have hb := HO.out
                  rw [if_neg hT] at hb
                  subst hb
                  generalize hdd : decide (ok = true ∧ p < n ∧ ws.getD p [] = kwJit) = T at *
                  subst hd
                  clear hT HO LB HRR hdd
                  go_wp2_with fail
                  go_meet
                  exact ⟨rfl, rfl, M1.out⟩
              case rest =>
              obtain ⟨rfl, rfl, M2⟩ := hcut
              clear M1 HO HC SD
              obtain ⟨ji1, ji2, ji3⟩ := ji
              simp only at HRR M2 ⊢
              have hR := HRR.out
              subst hR
              clear HRR
              have RT := hide M2.out.ret
              have HCN := hide M2.out.n
              have HCR := hide M2.out.r
              cases ji3 with
              | false =>
                go_wp2_with (first
                  | (refine wpList_load_row rfl 32 _ rfl N rfl 32 (nrow x1 la1 bu1 cl1 be1 bs1 ca1 ji1) (0, 0) _ HCN.out Tryz.underlying32 rfl size_node ?_)
                  | (refine wpList_store_row rfl 32 _ _ rfl w.heap.size (nrow x1 la1 bu1 cl1 be1 bs1 ca1 ji1) rfl rfl 32 zN HCR.out size_node rfl (nrow_one ..) ?_))
                refine bodyPost_ret (res_node rfl _ _ w.heap.size _ rfl rfl RT.out.1) rfl ?_
                exact ⟨rfl, RT.out.2⟩
              | true =>
                by_cases hpn : ji2 = n
                · have ip : ((ji2 : Int) == n) = true := by simp; omega
                  go_wp2_with (first
                    | (refine wpList_load_row rfl 32 _ rfl N rfl 32 (nrow x1 la1 bu1 cl1 be1 bs1 ca1 ji1) (0, 0) _ HCN.out Tryz.underlying32 rfl size_node ?_)
                    | (refine wpList_store_row rfl 32 _ _ rfl w.heap.size (nrow x1 la1 bu1 cl1 be1 bs1 ca1 ji1) rfl rfl 32 zN HCR.out size_node rfl (nrow_one ..) ?_))
                  refine bodyPost_ret (res_node rfl _ _ w.heap.size _ rfl rfl RT.out.1) rfl ?_
                  exact ⟨rfl, RT.out.2⟩
                · have ip : ((ji2 : Int) == n) = false := by simp; omega
                  go_wp2_with (first
                    | (refine wpList_load_row rfl 32 _ rfl N rfl 32 (nrow x1 la1 bu1 cl1 be1 bs1 ca1 ji1) (0, 0) _ HCN.out Tryz.underlying32 rfl size_node ?_)
                    | (refine wpList_store_row rfl 32 _ _ rfl w.heap.size (nrow x1 la1 bu1 cl1 be1 bs1 ca1 ji1) rfl rfl 32 zN HCR.out size_node rfl (nrow_one ..) ?_))
                  refine bodyPost_ret (res_node rfl _ _ w.heap.size _ rfl rfl RT.out.1) rfl ?_
                  exact ⟨rfl, RT.out.2⟩
    · have hq : ((ba x0).toList == [110, 111, 100, 101]) = false := by rw [hq2, hq1]; exact decide_eq_false ck
      clear hq1 hq2
      rw [H1.out (.inr (.inl ck)), hz0]
      clear H1 H2 SD hz0 HC IN ck
      go_enter Tryz.func47, Tryz.ntmps47
      go_upto_region 1 with fail
      generalize w.alloc (.cells #[.string ⟨#[]⟩, .int .i64 0, .int .i64 0, .int .i64 0, .int .i64 0, .int .i64 0, .int .i64 0, .int .i64 0, .slice none 0 0, .slice none 0 0] 32) = w0 at *
      go_wp2_with (first
        | (refine wpList_store_row rfl 32 _ _ rfl w.heap.size zN rfl rfl 32 zN HB0.out size_node rfl zN_one ?_))
      refine bodyPost_ret (res_node rfl _ _ w.heap.size _ rfl rfl (RET0.out _ BW0.out HB0.out).1) rfl ?_
      exact ⟨rfl, (RET0.out _ BW0.out HB0.out).2⟩
end Sp
end U
end Go.Proofs.YtfoahfgehmghcaaGreatDoor
