/- The document's Parse: takes: a node's line (written by tkn_gen.py). -/
import Derived.Test.YtfoahfgehmghcaaGreatDoorUSp4
import Derived.Test.YtfoahfgehmghcaaGreatDoorUSp7
namespace Go.Proofs.YtfoahfgehmghcaaGreatDoor
namespace U
namespace Sp
open Go.RowKit

theorem wp_run {w : World} {ops : Array Oper} {rest : List Oper} {o : Oper} {a : Act} {Q : Exit → Act → World → Prop} (hgd : o.guard = none) (s x : Operand) {tt : TypeId}
    (ho : o.op = .call { callee := .builtin .append, args := #[s, x], argTypes := #[tt, tt] }) (v u : Value) (hs : a.eval s = v) (hx : a.eval x = u) {v' : Value} {w' : World}
    (hr : (Builtin.append_ #[tt, tt] o.type #[v, u]).run Tryz.prog w = .ok v' w') (h : wpList Tryz.prog ops Q rest (a.put o.dst v') w') : wpList Tryz.prog ops Q (o :: rest) a w := by
  refine wpList_plain hgd fun K hK => ?_
  unfold Oper.wp execOp
  simp only [ho, resolve, invoke, builtin, Sem.run_bind, Sem.run_pure, Result.andThen_ok, List.map_toArray, List.map_cons, List.map_nil, hs, hx, hr]
  exact hK _ _ h
/-- a row of one cell a thing that grows by one -/
theorem DfG.row {B : Nat} {wx : World} {D : Nat} {cs : Array Value} {R : List Rw} (X : DfG B wx D cs R) {i : Nat} {r : Rw} (hr : R[i]? = some r) {tt : TypeId} (hI : Inf r.t tt r.s) (hs : r.s = 1) (hn : r.n < 1000000) (y : Value) (h1 : y.oneCell' = true) (j : Nat) (hj : cs[j]? = some r.v) :
    ∃ va vc w4, (Builtin.append_ #[tt, tt] tt #[r.v, .slice (some ⟨wx.heap.size, 0, none⟩) 1 1]).run Tryz.prog (wx.alloc (.cells #[y] r.t)) = .ok (.slice va (r.n + 1) vc) w4 ∧ (wx.cell? ⟨D, j, none⟩ = some r.v ∧ w4.cell? ⟨D, j, none⟩ = some r.v ∧ w4.frozen? ⟨D, j, none⟩ = false) ∧ DfG B (w4.setCell ⟨D, j, none⟩ (.slice va (r.n + 1) vc)) D (cs.setIfInBounds j (.slice va (r.n + 1) vc)) (R.set i ⟨r.t, r.s, .slice va (r.n + 1) vc, r.n + 1, r.xs ++ [y]⟩) ∧ Fq B wx (w4.setCell ⟨D, j, none⟩ (.slice va (r.n + 1) vc)) := by
  have b1 : Below wx.heap.size wx (wx.alloc (.cells #[y] r.t)) := (Below.refl _ wx).alloc (Nat.le_refl _) _
  obtain ⟨v', w4, a1, a2, a3, a4⟩ := (X.below b1).more hr hI hn [y] hs.symm (fun u hu => by rw [List.mem_singleton.1 hu]; exact h1) (T := wx.heap.size) (fun k u hu => by
    match k, hu with
    | 0, hu => simp at hu; subst hu; exact cell_new _ _ _
    | k + 1, hu => simp at hu) 1 tt j
  obtain ⟨va, vc, e⟩ := own_shape (a3.rws.own i _ (by rw [List.getElem?_set_self (List.getElem?_eq_some_iff.1 hr).1]))
  have e : v' = .slice va (r.n + 1) vc := e
  subst e
  exact ⟨va, vc, w4, a1, ⟨cell_blk X.blk j hj, cell_blk a2 j hj, frozen_blk a2 j⟩, a3, (Fq.ofBelow b1).trans a4⟩
theorem svs_snoc (L : List (Option Addr × Nat × Nat)) (s : Option Addr × Nat × Nat) : svs (L ++ [s]) = svs L ++ [.slice s.1 s.2.1 s.2.2] := by simp [svs]
theorem iv_snoc (l : List Nat) (x : Nat) : ivs (l ++ [x]) = ivs l ++ [.int .i64 (x : Int)] := by simp [ivs]
/-- a draft that a node's line was read into -/
theorem df_node {B : Nat} {w9 : World} {D : Nat} {d : Dr} {p : Nat} (hI : DI d p) (x : Pn) {v1 v2 v3 v4 v5 v6 : Value} {L M : List (Option Addr × Nat × Nat)} {n1 n2 n3 n4 n5 n6 : Nat} (h1 : n1 = d.nds.length) (h2 : n2 = d.places.length) (h3 : n3 = L.length) (h4 : n4 = M.length) (h5 : n5 = d.nds.length) (h6 : n6 = d.nds.length)
    (G : DfG B w9 D (cs9 d.nm d.dl d.place v1 v2 v3 v4 v5 v6) [⟨32, 10, v1, n1 + 1, flat (d.nds.map fun x => (no x).q) ++ (no x).q.row⟩, ⟨3, 1, v2, n2 + 1, ivs d.places ++ [.int .i64 (p : Int)]⟩, ⟨58, 1, v3, n3 + 1, svs L ++ [.slice none 0 0]⟩, ⟨58, 1, v4, n4 + 1, svs M ++ [.slice none 0 0]⟩, ⟨3, 1, v5, n5 + 1, ivs (rowL d.ms d.nds.length 0) ++ [.int .i64 0]⟩, ⟨3, 1, v6, n6 + 1, ivs (rowL d.ms d.nds.length 1) ++ [.int .i64 0]⟩])
    (s1 : Sx w9 L (rowN d.ms d.nds.length 0)) (s2 : Sx w9 M (rowN d.ms d.nds.length 1)) : DfAt B w9 D { d with nds := d.nds ++ [x], places := d.places ++ [p], hn := false, ha := false } := by
  refine ⟨v1, v2, v3, v4, v5, v6, L ++ [(none, 0, 0)], M ++ [(none, 0, 0)], ?_, ?_, ?_⟩
  · have e : rw6 v1 v2 v3 v4 v5 v6 ((d.nds ++ [x]).map fun x => (no x).q) (d.places ++ [p]) (L ++ [(none, 0, 0)]) (M ++ [(none, 0, 0)]) (rowL d.ms (d.nds ++ [x]).length 0) (rowL d.ms (d.nds ++ [x]).length 1) = [⟨32, 10, v1, n1 + 1, flat (d.nds.map fun x => (no x).q) ++ (no x).q.row⟩, ⟨3, 1, v2, n2 + 1, ivs d.places ++ [.int .i64 (p : Int)]⟩, ⟨58, 1, v3, n3 + 1, svs L ++ [.slice none 0 0]⟩, ⟨58, 1, v4, n4 + 1, svs M ++ [.slice none 0 0]⟩, ⟨3, 1, v5, n5 + 1, ivs (rowL d.ms d.nds.length 0) ++ [.int .i64 0]⟩, ⟨3, 1, v6, n6 + 1, ivs (rowL d.ms d.nds.length 1) ++ [.int .i64 0]⟩] := by
      have hl : (d.nds ++ [x]).length = d.nds.length + 1 := by simp
      rw [hl, rowL_more hI.ms, rowL_more hI.ms]
      unfold rw6
      rw [List.map_append, List.map_singleton, flat_snoc, iv_snoc, iv_snoc, iv_snoc, svs_snoc, svs_snoc]
      subst h1; subst h2; subst h3; subst h4; subst h5; subst h6
      simp [rowL_len]
    show DfG B w9 D (cs9 d.nm d.dl d.place v1 v2 v3 v4 v5 v6) (rw6 v1 v2 v3 v4 v5 v6 ((d.nds ++ [x]).map fun x => (no x).q) (d.places ++ [p]) (L ++ [(none, 0, 0)]) (M ++ [(none, 0, 0)]) (rowL d.ms (d.nds ++ [x]).length 0) (rowL d.ms (d.nds ++ [x]).length 1))
    rw [e]
    exact G
  · show Sx w9 (L ++ [(none, 0, 0)]) (rowN d.ms (d.nds ++ [x]).length 0)
    rw [show (d.nds ++ [x]).length = d.nds.length + 1 by simp, rowN_more hI.ms]
    exact s1.snoc
  · show Sx w9 (M ++ [(none, 0, 0)]) (rowN d.ms (d.nds ++ [x]).length 1)
    rw [show (d.nds ++ [x]).length = d.nds.length + 1 by simp, rowN_more hI.ms]
    exact s2.snoc
set_option maxRecDepth 100000 in
set_option maxHeartbeats 8000000 in
theorem takes_node (B D : Nat) (d : Dr) (p : Nat) (a : Option Addr) (c : Nat) (ws : List (List UInt8)) (w : World) (hD : DfAt B w D d) (hI : DI d p) (hr : RdS w a (kwNode :: ws)) (hz : ∀ x ∈ kwNode :: ws, x.length ≤ 65536) (hl : (kwNode :: ws).length ≤ 1000000) (h0 : d.place ≠ 0) (hn : d.nds.length < 1000000) :
    Calls Tryz.prog 25 #[.pointer (some ⟨D, 0, none⟩), .slice a (kwNode :: ws).length c, .int .i64 (p : Nat)] w (TkEnd B D (step d p (kwNode :: ws)) w) := by
  have HST := hide (node_doc d p ws h0)
  have ND := hide (node_any a c (kwNode :: ws) w hr hz hl)
  obtain ⟨vn, vl, vN, vA, vL, vP, L, M, X⟩ := hD
  have c3 := cell_blk X.cs 3 (v := .int .i64 (d.place : Int)) rfl
  have i3 : ((d.place : Int) == 0) = false := by simp; omega
  obtain ⟨g, off, rfl, _, hc⟩ := hr.resolve_left (by simp)
  have e0 := hc 0 kwNode rfl
  rw [Nat.add_zero] at e0
  have q1 : ((ba kwNode).toList == [110, 111, 100, 101]) = true := (string_lit kwNode kwNode).trans (decide_eq_true rfl)
  generalize step d p (kwNode :: ws) = R at *
  generalize rnode (kwNode :: ws) = RN at *
  obtain ⟨x, is⟩ := RN
  generalize ba kwNode = kn at *
  have i0 : (0 : Int) < ((kwNode :: ws).length : Nat) := by simp
  generalize (kwNode :: ws).length = n at *
  have HX := hide X
  have HI := hide hI
  have HLN : Hid (d.places.length = d.nds.length ∧ L.length = d.nds.length ∧ M.length = d.nds.length ∧ d.nds.length < 1000000) := ⟨hI.lens, X.2.1.1.trans (rowN_len ..), X.2.2.1.trans (rowN_len ..), hn⟩
  clear hc hr hz X hI hn
  go_enter Tryz.func25, Tryz.ntmps25
  go_upto_region 10 with fail
  go_wp2_with fail
  go_at_call 47
  refine ND.out.mono ?_
  rintro e w1 ⟨rfl, b1⟩
  have B1 := hide b1
  have HX1 := hide (HX.out.below b1)
  have hpv : Hid ((pnV x).all (·.oneCell') = true) := nrow_one ..
  clear b1 c3 e0 HX ND
  go_upto_region 11 with (first
    | (refine wpList_store_row rfl 32 _ _ rfl w1.heap.size (pnV x) rfl rfl 32 zN ?s1 size_node rfl hpv.out ?_; case s1 => exact heap_alloc_new _ _))
  have b2 : Below w1.heap.size w1 ((w1.alloc (.cells #[.string ⟨#[]⟩, .int .i64 0, .int .i64 0, .int .i64 0, .int .i64 0, .int .i64 0, .int .i64 0, .int .i64 0, .slice none 0 0, .slice none 0 0] 32)).setRow w1.heap.size (pnV x)) := below_setRow ((Below.refl _ w1).alloc (Nat.le_refl _) _) (Nat.le_refl _) _
  have hN2 : ((w1.alloc (.cells #[.string ⟨#[]⟩, .int .i64 0, .int .i64 0, .int .i64 0, .int .i64 0, .int .i64 0, .int .i64 0, .int .i64 0, .slice none 0 0, .slice none 0 0] 32)).setRow w1.heap.size (pnV x)).heap[w1.heap.size]? = some (.cells (pnV x) 32 (0, 0)) := setRow_heap _ _ _ _ _ _ (heap_alloc_new w1 (.cells #[.string ⟨#[]⟩, .int .i64 0, .int .i64 0, .int .i64 0, .int .i64 0, .int .i64 0, .int .i64 0, .int .i64 0, .slice none 0 0, .slice none 0 0] 32))
  have HX2 := hide (HX1.out.below b2)
  have HF2 : Hid (Fq B w ((w1.alloc (.cells #[.string ⟨#[]⟩, .int .i64 0, .int .i64 0, .int .i64 0, .int .i64 0, .int .i64 0, .int .i64 0, .int .i64 0, .slice none 0 0, .slice none 0 0] 32)).setRow w1.heap.size (pnV x))) := (Fq.ofBelow B1.out).trans (Fq.ofBelow b2)
  generalize (w1.alloc (.cells #[.string ⟨#[]⟩, .int .i64 0, .int .i64 0, .int .i64 0, .int .i64 0, .int .i64 0, .int .i64 0, .int .i64 0, .slice none 0 0, .slice none 0 0] 32)).setRow w1.heap.size (pnV x) = w2 at *
  generalize w1.heap.size = N at *
  clear b2 HX1 B1 hpv
  -- the node
  obtain ⟨nm, la, bu, cl, be, bs, ca, ji, nl, al⟩ := x
  have n0 := cell_blk hN2 0 (v := .string (ba nm)) rfl
  have n1 := cell_blk hN2 1 (v := .int .i64 la) rfl
  have n2 := cell_blk hN2 2 (v := .int .i64 bu) rfl
  have n3 := cell_blk hN2 3 (v := .int .i64 cl) rfl
  have n4 := cell_blk hN2 4 (v := .int .i64 be) rfl
  have n5 := cell_blk hN2 5 (v := .int .i64 bs) rfl
  have n6 := cell_blk hN2 6 (v := .int .i64 ca) rfl
  have n7 := cell_blk hN2 7 (v := .int .i64 ji) rfl
  have n8 := cell_blk hN2 8 (v := .slice none 0 0) rfl
  have n9 := cell_blk hN2 9 (v := .slice none 0 0) rfl
  have bt : Below w2.heap.size w2 (w2.alloc (.cells #[.string (ba nm), .int .i64 la, .int .i64 bu, .int .i64 cl, .int .i64 be, .int .i64 bs, .int .i64 ca, .int .i64 ji, .slice none 0 0, .slice none 0 0] 32)).drew := ((Below.refl w2.heap.size w2).alloc (Nat.le_refl _) _).drew
  obtain ⟨v', w4, hap, b4, X4, F4⟩ := (HX2.out.1.below bt).more (i := 0) rfl inf_node (by simpa using HLN.out.2.2.2) (no ⟨nm, la, bu, cl, be, bs, ca, ji, nl, al⟩).q.row rfl (fun u hu => by simp [Gr.Nd.row, no] at hu; rcases hu with rfl | rfl | rfl | rfl | rfl | rfl | rfl | rfl | rfl | rfl <;> rfl) (T := w2.heap.size) (fun j u hu => cell_blk (show (w2.alloc (.cells #[.string (ba nm), .int .i64 la, .int .i64 bu, .int .i64 cl, .int .i64 be, .int .i64 bs, .int .i64 ca, .int .i64 ji, .slice none 0 0, .slice none 0 0] 32)).drew.heap[w2.heap.size]? = _ from heap_alloc_new w2 _) j (by simpa [no, Gr.Nd.row] using hu)) 1 22 2
  obtain ⟨va, vc, hv'⟩ := own_shape (X4.rws.own 0 _ rfl)
  have hv' : v' = .slice va ((d.nds.map fun x => (no x).q).length + 1) vc := hv'
  subst hv'
  have d2 := cell_blk HX2.out.cs 2 (v := vn) rfl
  have d2' : (w2.alloc (.cells #[.string (ba nm), .int .i64 la, .int .i64 bu, .int .i64 cl, .int .i64 be, .int .i64 bs, .int .i64 ca, .int .i64 ji, .slice none 0 0, .slice none 0 0] 32)).drew.cell? ⟨D, 2, none⟩ = some vn := (bt.cell (p := ⟨D, 2, none⟩) (World.block_lt_of_cell? _ _ d2)).trans d2
  have e2 := cell_blk b4 2 (v := vn) rfl
  have e2f := frozen_blk b4 2
  have HAP := hide hap
  have X4H := hide X4
  have F4H := hide (HF2.out.trans ((Fq.ofBelow bt).trans F4))
  have HS4 : Hid (Sx (w4.setCell ⟨D, 2, none⟩ (.slice va ((d.nds.map fun x => (no x).q).length + 1) vc)) L (rowN d.ms d.nds.length 0) ∧ Sx (w4.setCell ⟨D, 2, none⟩ (.slice va ((d.nds.map fun x => (no x).q).length + 1) vc)) M (rowN d.ms d.nds.length 1)) := ⟨HX2.out.2.1.fq ((Fq.ofBelow bt).trans F4), HX2.out.2.2.fq ((Fq.ofBelow bt).trans F4)⟩
  clear hap X4 F4 b4 bt HX2 HF2 hN2
  go_cut [] from 62 (fun wx => wx = w4.setCell ⟨D, 2, none⟩ (.slice va ((d.nds.map fun x => (no x).q).length + 1) vc))
  case first =>
    generalize (d.nds.map fun x => (no x).q).length = ql at *
    go_region_law (refine step_append_run (by rfl) _ _ 22 (by rfl) _ _ (by rfl) (by rfl) HAP.out ?_)
    all_goals go_wp2_with fail
    all_goals go_meet
    all_goals rfl
  case rest =>
  rw [← hcut] at X4H F4H HS4
  clear hcut HAP n0 n1 n2 n3 n4 n5 n6 n7 n8 n9 d2 d2' e2 e2f
  generalize hql : (d.nds.map fun x => (no x).q).length = ql at *
  have HQL : Hid (ql = d.nds.length) := by show _ = _; rw [← hql]; simp
  clear hql
  obtain ⟨va0, vc0, w5, hap, ⟨c, e, ef⟩, X5, F5⟩ := X4H.out.row (i := 1) rfl inf_int rfl (by have := HLN.out; simp only; omega) (.int .i64 (p : Int)) rfl 4 rfl
  simp only at hap c e X5 F5
  have HAP := hide hap
  have HS5 := hide (⟨HS4.out.1.fq F5, HS4.out.2.fq F5⟩ : _ ∧ _)
  have F5H := hide (F4H.out.trans F5)
  have X5H := hide X5
  clear hap X5 F5 X4H F4H HS4
  go_upto_region 13 with (at_builtin; refine wp_run rfl _ _ rfl _ _ rfl rfl HAP.out ?_)
  clear c e ef HAP
  have X4H := hide X5H.out
  have F4H := hide F5H.out
  have HS4 := hide HS5.out
  clear X5H F5H HS5
  generalize w5.setCell ⟨D, 4, none⟩ _ = wn0 at *
  obtain ⟨va1, vc1, w6, hap, ⟨c, e, ef⟩, X5, F5⟩ := X4H.out.row (i := 2) rfl inf_strs rfl (by have := HLN.out; simp only; omega) (.slice none 0 0) rfl 5 rfl
  simp only at hap c e X5 F5
  have HAP := hide hap
  have HS5 := hide (⟨HS4.out.1.fq F5, HS4.out.2.fq F5⟩ : _ ∧ _)
  have F5H := hide (F4H.out.trans F5)
  have X5H := hide X5
  clear hap X5 F5 X4H F4H HS4
  go_upto_region 14 with (at_builtin; refine wp_run rfl _ _ rfl _ _ rfl rfl HAP.out ?_)
  clear c e ef HAP
  have X4H := hide X5H.out
  have F4H := hide F5H.out
  have HS4 := hide HS5.out
  clear X5H F5H HS5
  generalize w6.setCell ⟨D, 5, none⟩ _ = wn1 at *
  obtain ⟨va2, vc2, w7, hap, ⟨c, e, ef⟩, X5, F5⟩ := X4H.out.row (i := 3) rfl inf_strs rfl (by have := HLN.out; simp only; omega) (.slice none 0 0) rfl 6 rfl
  simp only at hap c e X5 F5
  have HAP := hide hap
  have HS5 := hide (⟨HS4.out.1.fq F5, HS4.out.2.fq F5⟩ : _ ∧ _)
  have F5H := hide (F4H.out.trans F5)
  have X5H := hide X5
  clear hap X5 F5 X4H F4H HS4
  go_upto_region 15 with (at_builtin; refine wp_run rfl _ _ rfl _ _ rfl rfl HAP.out ?_)
  clear c e ef HAP
  have X4H := hide X5H.out
  have F4H := hide F5H.out
  have HS4 := hide HS5.out
  clear X5H F5H HS5
  generalize w7.setCell ⟨D, 6, none⟩ _ = wn2 at *
  obtain ⟨va3, vc3, w8, hap, ⟨c, e, ef⟩, X5, F5⟩ := X4H.out.row (i := 4) rfl inf_int rfl (by have := HLN.out; simp only [rowL_len]; omega) (.int .i64 0) rfl 7 rfl
  simp only at hap c e X5 F5
  have HAP := hide hap
  have HS5 := hide (⟨HS4.out.1.fq F5, HS4.out.2.fq F5⟩ : _ ∧ _)
  have F5H := hide (F4H.out.trans F5)
  have X5H := hide X5
  clear hap X5 F5 X4H F4H HS4
  go_upto_region 16 with (at_builtin; refine wp_run rfl _ _ rfl _ _ rfl rfl HAP.out ?_)
  clear c e ef HAP
  have X4H := hide X5H.out
  have F4H := hide F5H.out
  have HS4 := hide HS5.out
  clear X5H F5H HS5
  generalize w8.setCell ⟨D, 7, none⟩ _ = wn3 at *
  obtain ⟨va4, vc4, w9, hap, ⟨c, e, ef⟩, X5, F5⟩ := X4H.out.row (i := 5) rfl inf_int rfl (by have := HLN.out; simp only [rowL_len]; omega) (.int .i64 0) rfl 8 rfl
  simp only at hap c e X5 F5
  have HAP := hide hap
  have HS5 := hide (⟨HS4.out.1.fq F5, HS4.out.2.fq F5⟩ : _ ∧ _)
  have F5H := hide (F4H.out.trans F5)
  have X5H := hide X5
  clear hap X5 F5 X4H F4H HS4
  go_upto_region 17 with (at_builtin; refine wp_run rfl _ _ rfl _ _ rfl rfl HAP.out ?_)
  clear c e ef HAP
  have X4H := hide X5H.out
  have F4H := hide F5H.out
  have HS4 := hide HS5.out
  clear X5H F5H HS5
  generalize w9.setCell ⟨D, 8, none⟩ _ = wn4 at *
  go_wp2_with fail
  go_ret
  cases is with
  | false =>
    obtain rfl : R = none := by rw [HST.out, if_neg (by simp)]
    exact ⟨rfl, (fun _ h => by cases h), F4H.out⟩
  | true =>
    have hR := HST.out
    rw [if_pos rfl] at hR
    subst hR
    refine ⟨rfl, fun d' h => ?_, F4H.out⟩
    cases h
    exact df_node HI.out ⟨nm, la, bu, cl, be, bs, ca, ji, nl, al⟩ HQL.out rfl rfl rfl (rowL_len ..) (rowL_len ..) X4H.out HS4.out.1 HS4.out.2
end Sp
end U
end Go.Proofs.YtfoahfgehmghcaaGreatDoor
