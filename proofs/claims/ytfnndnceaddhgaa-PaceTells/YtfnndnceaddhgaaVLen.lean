/- The law's lent: a plan whose list has room behind it. -/
import Derived.Test.YtfnndnceaddhgaaVSam
import Derived.Test.YtfnndnceaddhgaaVRow
import Derived.Deep.Cut
import Derived.Laws.ResultCell
import Derived.Laws.Rows
namespace Go.Proofs.Ytfnndnceaddhgaa
open Go.RowKit

theorem info_plan : (Try.prog.info? 34).map (·.size) = some 3 := by kernel_rfl
/-- a plan in a cell, and something behind it, told -/
theorem res_plan {fn : Func} {p u : Tmp} (h : fn.results = #[.cell p 34, .tmp u]) (tmps : Array Value) (w : World) (g : Nat) (x y z : Value) (hp : tmps.getD p undef = .pointer (some ⟨g, 0, none⟩)) (hg : w.heap[g]? = some (.cells #[x, y, z] 34 (0, 0))) :
    (results fn tmps).run Try.prog w = .ok (.tuple #[.agg #[x, y, z], tmps.getD u undef]) w := by
  have hl := run_loadVar_row (P := Try.prog) w g 34 34 #[x, y, z] (0, 0) _ hg Try.underlying34 rfl (by rw [info_plan]; rfl)
  rw [results_cell_tmp h, hp]
  simp [asAddr, hl, Result.andThen]

set_option maxRecDepth 100000 in
set_option maxHeartbeats 2000000 in
theorem lent_any (nm : ByteArray) (dl : Int) (a : Option Addr) (n c : Nat) (qs : List V.Nd) (w : World) (hqs : RdN w a n qs) (hsm : n ≤ 1172812402926) :
    Calls Try.prog 28 #[.agg #[.string nm, .int .i64 dl, .slice a n c]] w fun e w' => ∃ B, e = .returned (.tuple #[.agg #[.string nm, .int .i64 dl, .slice (some ⟨B, 0, none⟩) n (n + 2)], .slice (some ⟨B, 0, none⟩) (n + 2) (n + 2)]) ∧ RowsAt w' B (qs ++ [V.zN 701, V.zN 702]) ∧ w.heap.size ≤ B ∧ Below w.heap.size w w' := by
  obtain ⟨hn, hn2, hin, hq⟩ := hqs
  have HN := hide hn
  have HQ := hide hq
  clear hn hq hin
  have hmk := made_nodes ((w.alloc (Obj.cells #[.string nm, .int .i64 dl, .slice a n c] 34)).alloc (Obj.cells #[.string ⟨#[]⟩, .int .i64 0, .slice none 0 0] 34)) n hsm
  generalize hmc : madeCells (V.zN 0).row.toArray ((n + 2) * 10) = MC at *
  have HMC := hide hmc
  clear hmc
  go_enter Try.func28, Try.ntmps28
  go_wp2_with fail
  generalize hwx : ((w.alloc (Obj.cells #[.string nm, .int .i64 dl, .slice a n c] 34)).alloc (Obj.cells #[.string ⟨#[]⟩, .int .i64 0, .slice none 0 0] 34)).alloc (Obj.cells MC 31) = wx
  have HS := hide (show wx.heap.size = w.heap.size + 3 by rw [← hwx]; simp)
  have HK := hide (show Below w.heap.size w wx by rw [← hwx]; exact (((Below.refl _ _).alloc (Nat.le_refl _) _).alloc (by simp) _).alloc (by simp; omega) _)
  have HP := hide (show wx.heap[w.heap.size]? = some (.cells #[.string nm, .int .i64 dl, .slice a n c] 34 (0, 0)) by
    rw [← hwx, Below.heap_alloc _ _ _ (by simp; omega), Below.heap_alloc _ _ _ (by simp)]; exact heap_alloc_new _ _)
  have HO := hide (show wx.heap[w.heap.size + 1 + 1]? = some (.cells MC 31 (0, 0)) by
    rw [← hwx, show w.heap.size + 1 + 1 = ((w.alloc (Obj.cells #[.string nm, .int .i64 dl, .slice a n c] 34)).alloc (Obj.cells #[.string ⟨#[]⟩, .int .i64 0, .slice none 0 0] 34)).heap.size by simp]; exact heap_alloc_new _ _)
  have HX := hide (show wx.heap[w.heap.size + 1]? = some (.cells #[.string ⟨#[]⟩, .int .i64 0, .slice none 0 0] 34 (0, 0)) by
    rw [← hwx, Below.heap_alloc _ _ _ (by simp), show w.heap.size + 1 = (w.alloc (Obj.cells #[.string nm, .int .i64 dl, .slice a n c] 34)).heap.size by simp]; exact heap_alloc_new _ _)
  have HR := hide (show RowsAt wx (w.heap.size + 1 + 1) (List.replicate (n + 2) (V.zN 0)) from ⟨MC, HO.out, by rw [← HMC.out]; exact flat_made _⟩)
  clear hwx hmk HMC
  go_loopw [5] (fun iv wr => ∃ (i : Nat), iv = .int .i64 (i : Nat) ∧ i ≤ n ∧ Hid (RowsAt wr (w.heap.size + 1 + 1) (qs.take i ++ List.replicate (n + 2 - i) (V.zN 0)) ∧ wr.heap[w.heap.size]? = some (.cells #[.string nm, .int .i64 dl, .slice a n c] 34 (0, 0)) ∧ Below w.heap.size w wr ∧ wr.heap.size = wx.heap.size ∧ wr.heap[w.heap.size + 1]? = some (.cells #[.string ⟨#[]⟩, .int .i64 0, .slice none 0 0] 34 (0, 0)))) (fun iv _ => n - (intOf iv).toNat)
  case atStart => exact ⟨0, rfl, Nat.zero_le _, HR.out, HP.out, HK.out, rfl, HX.out⟩
  case round =>
    obtain ⟨i, rfl, hi, HI⟩ := hrel
    have p2 := cell_blk HI.out.2.1 2 (v := .slice a n c) rfl
    rcases Nat.lt_or_ge i n with hlt | hlt
    · obtain ⟨b, off, rfl, hbl, hnode⟩ := HQ.out.resolve_left (by omega)
      have hlen := HN.out
      obtain ⟨q, hq⟩ : ∃ q, qs[i]? = some q := ⟨_, List.getElem?_eq_getElem (by omega)⟩
      have hN := (hnode i q hq).keep HI.out.2.2.1
      have HQI := hide hq
      have hT := HI.out.1.node i (V.zN 0) (by rw [List.getElem?_append_right (by simp; omega), List.getElem?_replicate, if_pos (by simp; omega)])
      have HF : Hid (∀ j, wr.frozen? ⟨w.heap.size + 1 + 1, j, none⟩ = false) := by
        obtain ⟨cur, h1, _⟩ := HI.out.1
        exact fun j => frozen_blk h1 j
      obtain ⟨n0, n1, n2, n3, n4, n5, n6, n7, n8, n9⟩ := hN.all
      obtain ⟨t0, t1, t2, t3, t4, t5, t6, t7, t8, t9⟩ := hT.all
      have f0 := HF.out (i * 10)
      have f1 := HF.out (i * 10 + 1)
      have f2 := HF.out (i * 10 + 2)
      have f3 := HF.out (i * 10 + 3)
      have f4 := HF.out (i * 10 + 4)
      have f5 := HF.out (i * 10 + 5)
      have f6 := HF.out (i * 10 + 6)
      have f7 := HF.out (i * 10 + 7)
      have f8 := HF.out (i * 10 + 8)
      have f9 := HF.out (i * 10 + 9)
      clear hnode hq hlen hN hT
      obtain ⟨nq, la, bu, cl, be, ba_, ca, ji, ⟨ne1, ne2, ne3⟩, ⟨af1, af2, af3⟩⟩ := q
      go_wp2_with fail
      have hlen := HN.out
      have hp := HI.out.1.put i ⟨nq, la, bu, cl, be, ba_, ca, ji, (ne1, ne2, ne3), (af1, af2, af3)⟩ (by simp; omega)
      obtain ⟨po, ps, pb⟩ := putR_other (w.heap.size + 1 + 1) (⟨nq, la, bu, cl, be, ba_, ca, ji, (ne1, ne2, ne3), (af1, af2, af3)⟩ : V.Nd).row wr (i * 10)
      have el : (qs.take i ++ List.replicate (n + 2 - i) (V.zN 0)).set i ⟨nq, la, bu, cl, be, ba_, ca, ji, (ne1, ne2, ne3), (af1, af2, af3)⟩ = qs.take (i + 1) ++ List.replicate (n + 2 - (i + 1)) (V.zN 0) := by
        rw [V.take_snoc qs i _ HQI.out, show n + 2 - i = (n + 2 - (i + 1)) + 1 by omega, List.replicate_succ, List.set_append_right _ _ (by simp; omega), show i - (qs.take i).length = 0 by simp; omega, List.set_cons_zero]
        simp
      rw [el] at hp
      exact ⟨⟨i + 1, by go_num, by omega, hp, (po w.heap.size (by omega)).trans HI.out.2.1, HI.out.2.2.1.trans (pb _ (by omega)), ps.trans HI.out.2.2.2.1, (po (w.heap.size + 1) (by omega)).trans HI.out.2.2.2.2⟩, by simp [intOf]; omega⟩
    · obtain rfl : i = n := by omega
      have hlen := HN.out
      have hR := HI.out.1
      rw [List.take_of_length_le (by omega), show i + 2 - i = 2 by omega] at hR
      have HR2 := hide hR
      clear hR hlen
      have hT := HR2.out.node i (V.zN 0) (by have := HN.out; rw [List.getElem?_append_right (by omega), List.getElem?_replicate, if_pos (by omega)])
      obtain ⟨t0, t1, t2, t3, t4, t5, t6, t7, t8, t9⟩ := hT.all
      have f0 := HR2.out.froz (i * 10)
      have f1 := HR2.out.froz (i * 10 + 1)
      have f2 := HR2.out.froz (i * 10 + 2)
      have f3 := HR2.out.froz (i * 10 + 3)
      have f4 := HR2.out.froz (i * 10 + 4)
      have f5 := HR2.out.froz (i * 10 + 5)
      have f6 := HR2.out.froz (i * 10 + 6)
      have f7 := HR2.out.froz (i * 10 + 7)
      have f8 := HR2.out.froz (i * 10 + 8)
      have f9 := HR2.out.froz (i * 10 + 9)
      clear hT
      go_upto_region 7 with fail
      have hlen := HN.out
      have g1 := HR2.out.put i (V.zN 701) (by simp; omega)
      obtain ⟨po, ps, pb⟩ := putR_other (w.heap.size + 1 + 1) (V.zN 701).row wr (i * 10)
      rw [List.set_append_right _ _ (by omega), show i - qs.length = 0 by omega] at g1
      have P1 := hide ((po w.heap.size (by omega)).trans HI.out.2.1)
      have X1 := hide ((po (w.heap.size + 1) (by omega)).trans HI.out.2.2.2.2)
      have K1 := hide (HI.out.2.2.1.trans (pb _ (by omega)))
      have R1 : Hid (RowsAt (putR wr (w.heap.size + 1 + 1) (i * 10) (V.zN 701).row) (w.heap.size + 1 + 1) (qs ++ [V.zN 701, V.zN 0])) := g1
      clear g1 po ps pb hlen t0 t1 t2 t3 t4 t5 t6 t7 t8 t9 f0 f1 f2 f3 f4 f5 f6 f7 f8 f9 p2 HR2
      show Code.wp Try.prog _ _ _ (putR wr (w.heap.size + 1 + 1) (i * 10) (V.zN 701).row)
      generalize putR wr (w.heap.size + 1 + 1) (i * 10) (V.zN 701).row = w1 at *
      have p2 := cell_blk P1.out 2 (v := .slice a i c) rfl
      have hT := R1.out.node (i + 1) (V.zN 0) (by have := HN.out; rw [List.getElem?_append_right (by omega), show i + 1 - qs.length = 1 by omega]; rfl)
      obtain ⟨t0, t1, t2, t3, t4, t5, t6, t7, t8, t9⟩ := hT.all
      have f0 := R1.out.froz ((i + 1) * 10)
      have f1 := R1.out.froz ((i + 1) * 10 + 1)
      have f2 := R1.out.froz ((i + 1) * 10 + 2)
      have f3 := R1.out.froz ((i + 1) * 10 + 3)
      have f4 := R1.out.froz ((i + 1) * 10 + 4)
      have f5 := R1.out.froz ((i + 1) * 10 + 5)
      have f6 := R1.out.froz ((i + 1) * 10 + 6)
      have f7 := R1.out.froz ((i + 1) * 10 + 7)
      have f8 := R1.out.froz ((i + 1) * 10 + 8)
      have f9 := R1.out.froz ((i + 1) * 10 + 9)
      clear hT
      go_upto_region 8 with fail
      have hlen := HN.out
      have g1 := R1.out.put (i + 1) (V.zN 702) (by simp; omega)
      obtain ⟨po, ps, pb⟩ := putR_other (w.heap.size + 1 + 1) (V.zN 702).row w1 ((i + 1) * 10)
      rw [List.set_append_right _ _ (by omega), show i + 1 - qs.length = 1 by omega] at g1
      have P2 := hide ((po w.heap.size (by omega)).trans P1.out)
      have X2 := hide ((po (w.heap.size + 1) (by omega)).trans X1.out)
      have K2 := hide (K1.out.trans (pb _ (by omega)))
      have R2 : Hid (RowsAt (putR w1 (w.heap.size + 1 + 1) ((i + 1) * 10) (V.zN 702).row) (w.heap.size + 1 + 1) (qs ++ [V.zN 701, V.zN 702])) := g1
      clear g1 po ps pb hlen t0 t1 t2 t3 t4 t5 t6 t7 t8 t9 f0 f1 f2 f3 f4 f5 f6 f7 f8 f9 p2 R1
      show Code.wp Try.prog _ _ _ (putR w1 (w.heap.size + 1 + 1) ((i + 1) * 10) (V.zN 702).row)
      generalize putR w1 (w.heap.size + 1 + 1) ((i + 1) * 10) (V.zN 702).row = w2 at *
      have p0 := cell_blk P2.out 0 (v := .string nm) rfl
      have p1 := cell_blk P2.out 1 (v := .int .i64 dl) rfl
      have p2 := cell_blk P2.out 2 (v := .slice a i c) rfl
      have p2f := frozen_blk P2.out 2
      go_upto_region 9 with fail
      have P3 := set_blk P2.out 2 (.slice (some ⟨w.heap.size + 1 + 1, 0, none⟩) i (i + 2))
      have X3 := hide ((Below.heap_setCell w2 ⟨w.heap.size, 2, none⟩ (.slice (some ⟨w.heap.size + 1 + 1, 0, none⟩) i (i + 2)) (w.heap.size + 1) (show w.heap.size + 1 ≠ w.heap.size by omega)).trans X2.out)
      have R3 := hide (R2.out.keep (Below.heap_setCell w2 ⟨w.heap.size, 2, none⟩ (.slice (some ⟨w.heap.size + 1 + 1, 0, none⟩) i (i + 2)) (w.heap.size + 1 + 1) (show w.heap.size + 1 + 1 ≠ w.heap.size by omega)))
      have K3 := hide (K2.out.setCell (p := ⟨w.heap.size, 2, none⟩) (Nat.le_refl _) (.slice (some ⟨w.heap.size + 1 + 1, 0, none⟩) i (i + 2)))
      generalize w2.setCell ⟨w.heap.size, 2, none⟩ (.slice (some ⟨w.heap.size + 1 + 1, 0, none⟩) i (i + 2)) = w3 at *
      clear p0 p1 p2 p2f P2 X2 R2 K2
      have p0 := cell_blk P3 0 (v := .string nm) rfl
      have p1 := cell_blk P3 1 (v := .int .i64 dl) rfl
      have p2 := cell_blk P3 2 (v := .slice (some ⟨w.heap.size + 1 + 1, 0, none⟩) i (i + 2)) rfl
      have r0 := cell_blk X3.out 0 (v := .string ⟨#[]⟩) rfl
      have r1 := cell_blk X3.out 1 (v := .int .i64 0) rfl
      have r2 := cell_blk X3.out 2 (v := .slice none 0 0) rfl
      have r0f := frozen_blk X3.out 0
      have r1f := frozen_blk X3.out 1
      have r2f := frozen_blk X3.out 2
      clear P3
      go_wp2_with fail
      have X4 := set_blk (set_blk (set_blk X3.out 0 (.string nm)) 1 (.int .i64 dl)) 2 (.slice (some ⟨w.heap.size + 1 + 1, 0, none⟩) i (i + 2))
      have R4 : RowsAt (((w3.setCell ⟨w.heap.size + 1, 0, none⟩ (.string nm)).setCell ⟨w.heap.size + 1, 1, none⟩ (.int .i64 dl)).setCell ⟨w.heap.size + 1, 2, none⟩ (.slice (some ⟨w.heap.size + 1 + 1, 0, none⟩) i (i + 2))) (w.heap.size + 1 + 1) (qs ++ [V.zN 701, V.zN 702]) := R3.out.keep (((Below.heap_setCell _ _ _ _ (show w.heap.size + 1 + 1 ≠ w.heap.size + 1 by omega)).trans (Below.heap_setCell _ _ _ _ (show w.heap.size + 1 + 1 ≠ w.heap.size + 1 by omega))).trans (Below.heap_setCell _ _ _ _ (show w.heap.size + 1 + 1 ≠ w.heap.size + 1 by omega)))
      have K4 := ((K3.out.setCell (p := ⟨w.heap.size + 1, 0, none⟩) (Nat.le_succ _) (.string nm)).setCell (p := ⟨w.heap.size + 1, 1, none⟩) (Nat.le_succ _) (.int .i64 dl)).setCell (p := ⟨w.heap.size + 1, 2, none⟩) (Nat.le_succ _) (.slice (some ⟨w.heap.size + 1 + 1, 0, none⟩) i (i + 2))
      generalize (((w3.setCell ⟨w.heap.size + 1, 0, none⟩ (.string nm)).setCell ⟨w.heap.size + 1, 1, none⟩ (.int .i64 dl)).setCell ⟨w.heap.size + 1, 2, none⟩ (.slice (some ⟨w.heap.size + 1 + 1, 0, none⟩) i (i + 2))) = w5 at *
      exact bodyPost_ret (res_plan rfl _ _ (w.heap.size + 1) _ _ _ rfl X4) rfl ⟨_, rfl, R4, by omega, K4⟩
end Go.Proofs.Ytfnndnceaddhgaa
