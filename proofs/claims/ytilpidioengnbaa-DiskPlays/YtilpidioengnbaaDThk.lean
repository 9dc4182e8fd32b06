/- The laws' thick; stepped, whole. -/
import Derived.Test.YtilpidioengnbaaDStp
namespace Go.Proofs.Ytilpidioengnbaa
open Go.RowKit Go.Lib

theorem cells_rep (n : Nat) : madeCells #[Value.int .u8 0] n = (B8 (List.replicate n 0)).toArray := by
  apply Array.ext_getElem?
  intro i
  simp only [madeCells, B8, List.map_replicate]
  by_cases h : i < n
  · simp [h, Nat.mod_one]
  · simp [h]
theorem make_u8 (n : Nat) (hn : n ≤ 65536) (w : World) :
    (Instr.makeSlice 33 (.int .i64 (n : Int)) (.int .i64 (n : Int))).run Try.prog w = .ok (.slice (some ⟨w.heap.size, 0, none⟩) n n) (w.alloc (.cells (B8 (List.replicate n 0)).toArray 5)) := by
  rw [← cells_rep]
  exact run_make_row' 33 5 (.int .u8 0) 1 Try.underlying33 info_u8 rfl .i64 .i64 n (by omega) (by omega) w

def ThickAs (w : World) (q : Stp) (e : Ending) (w' : World) : Prop := ∃ a, e = .returned (.slice a q.thick.length q.thick.length) ∧ Rd w' a q.thick.length q.thick ∧ Keep (fun _ => False) w w' ∧ ∀ g off, a = some ⟨g, off, none⟩ → w.heap.size ≤ g ∧ g < w'.heap.size

theorem thick_any (w : World) (q : Stp) (h1 : -9223372036854775808 ≤ q.n) (h2 : q.n ≤ 9223372036854775807) : Calls Try.prog 32 #[q.val] w (ThickAs w q) := by
  have HP := hide (fun w => pick_any q.n 65536 h1 h2 (by decide) (by decide) w)
  have hp := pickV_in q.n 65536 (by decide)
  obtain ⟨n, hn⟩ : ∃ n : Nat, n = (pickV q.n 65536).toNat := ⟨_, rfl⟩
  have hpn : pickV q.n 65536 = (n : Int) := by omega
  rw [hpn] at HP
  have HM := hide (make_u8 n (by omega))
  have ht : q.thick = List.replicate n 0 := by unfold Stp.thick; rw [← hn]
  have HT := hide ht
  have hn64 : n ≤ 65536 := by omega
  have hmk := make_u8 n hn64 (w.alloc (.cells #[.int .i64 q.which, .bool q.copy, .int .i64 q.what, .int .i64 q.seg, .int .i64 q.n, .int .u8 (q.mask : Nat), .slice q.ba q.b.length q.bc, .slice q.fa q.fate.length q.fc] 36))
  rw [alloc_size] at hmk
  unfold Stp.val
  clear hp hn hpn ht h1 h2
  go_enter Try.func32, Try.ntmps32
  go_wp2_with (first
    | (go_at_call 7; refine (HP.out _).mono ?_; rintro e w1 ⟨rfl, rfl⟩))
  go_ret
  have hb := heap_alloc_new (w.alloc (.cells #[.int .i64 q.which, .bool q.copy, .int .i64 q.what, .int .i64 q.seg, .int .i64 q.n, .int .u8 (q.mask : Nat), .slice q.ba q.b.length q.bc, .slice q.fa q.fate.length q.fc] 36)) (.cells (B8 (List.replicate n 0)).toArray 5)
  rw [alloc_size] at hb
  have hl : (List.replicate n 0 : List Nat).length = n := List.length_replicate
  refine ⟨some ⟨w.heap.size + 1, 0, none⟩, by rw [HT.out, hl]; rfl, ?_, (Keep.alloc _ _ _).more (Keep.alloc _ _ _), fun g off e => ?_⟩
  · rw [HT.out, hl]
    refine ⟨hl.symm, by omega, fun d hd => by rw [List.eq_of_mem_replicate hd]; decide, .inr ⟨w.heap.size + 1, 0, rfl, fun i hi => ?_⟩⟩
    rw [Nat.zero_add]
    refine cell_blk hb i ?_
    have := B8_at (List.replicate n 0) i (by rw [hl]; exact hi)
    simpa using this
  · injection e with e
    injection e with e1 _
    rw [alloc_size, alloc_size]
    omega

set_option maxRecDepth 100000 in
set_option maxHeartbeats 4000000 in
theorem stepped_thick (S : Nat → Prop) (w : World) (p : Nat) (s : St) (q : Stp) (h : DAt S w p s) (ok : Ok s) (hS : ∀ i, w.heap.size ≤ i → S i) (hq : StpOk w q) (hw : pickV q.what 12 = 4) :
    Calls Try.prog 10 #[.pointer (some ⟨p, 0, none⟩), q.val] w (StepAs S w p s q) := by
  have hpick := fun w => pick_any q.what 12 hq.what.1 hq.what.2 (by decide) (by decide) w
  rw [hw] at hpick
  have HPk := hide hpick
  have HW := hide hw
  have HB := hide (boxed h hS hq)
  have HS := hide hS
  have HC := hide (thick_any (bx w q).drew q hq.n.1 hq.n.2)
  have HSeg := hide hq.seg
  have HOk := hide ok
  have hz : (bx w q).heap.size = w.heap.size + 2 := by unfold bx; rw [alloc_size, alloc_size]
  have HZ := hide hz
  have x0 : Hid ((bx w q).drew.cell? ⟨w.heap.size, 0, none⟩ = some (.int .i64 q.which)) := cell_blk HB.out.b 0 rfl
  have x1 : Hid ((bx w q).drew.cell? ⟨w.heap.size, 1, none⟩ = some (.bool q.copy)) := cell_blk HB.out.b 1 rfl
  have x2 : Hid ((bx w q).drew.cell? ⟨w.heap.size, 2, none⟩ = some (.int .i64 q.what)) := cell_blk HB.out.b 2 rfl
  have x3 : Hid ((bx w q).drew.cell? ⟨w.heap.size, 3, none⟩ = some (.int .i64 q.seg)) := cell_blk HB.out.b 3 rfl
  have x4 : Hid ((bx w q).drew.cell? ⟨w.heap.size, 4, none⟩ = some (.int .i64 q.n)) := cell_blk HB.out.b 4 rfl
  have x5 : Hid ((bx w q).drew.cell? ⟨w.heap.size, 5, none⟩ = some (.int .u8 (q.mask : Nat))) := cell_blk HB.out.b 5 rfl
  have x6 : Hid ((bx w q).drew.cell? ⟨w.heap.size, 6, none⟩ = some (.slice q.ba q.b.length q.bc)) := cell_blk HB.out.b 6 rfl
  have x7 : Hid ((bx w q).drew.cell? ⟨w.heap.size, 7, none⟩ = some (.slice q.fa q.fate.length q.fc)) := cell_blk HB.out.b 7 rfl
  unfold Stp.val at HC
  unfold Stp.val
  clear hpick hw h ok hS hq hz
  go_enter Try.func10, Try.ntmps10
  go_wp2_with (first
    | (go_at_call 7; refine (HPk.out _).mono ?_; rintro e w1 ⟨rfl, rfl⟩))
  obtain ⟨W2, hW2⟩ : ∃ W2, W2 = bx w q := ⟨_, rfl⟩
  have hW2' := hW2
  unfold bx at hW2'
  rw [← hW2']
  have HW2 := hide hW2
  rw [← hW2] at HC x0 x1 x2 x3 x4 x5 x6 x7
  clear hW2 hW2'
  have y0 := x0.out
  have y1 := x1.out
  have y2 := x2.out
  have y3 := x3.out
  have y4 := x4.out
  have y5 := x5.out
  have y6 := x6.out
  have y7 := x7.out
  clear x0 x1 x2 x3 x4 x5 x6 x7
  go_region_with
    (first
      | (go_at_call 32
         refine HC.out.mono ?_
         rintro e W3 ⟨a, rfl, hrd, hk, hloc⟩
         have hb3 := hk.blk (w := W2.drew) (show W2.drew.heap[w.heap.size]? = _ by rw [HW2.out]; exact HB.out.b) fun f => f
         have x3' := cell_blk hb3 3 (v := .int .i64 q.seg) rfl
         have K23 : Hid (Keep (fun _ => False) (bx w q) W3) := by show Keep _ _ _; rw [← HW2.out]; exact (Keep.drew _ _).more hk
         have HAp := hide (append_any _ W3 p s q.seg a q.thick.length q.thick.length q.thick (HB.out.d.part K23.out) HOk.out HSeg.out.1 HSeg.out.2 (fun i hi => ⟨HB.out.n i (Nat.le_trans K23.out.size hi), .inr hi⟩) hrd (fun g off e _ e' => by
           have h1 := hloc g off e
           rw [HW2.out] at h1
           rcases e'.2 with h2 | h2
           · exact Nat.not_lt.2 h1.1 h2
           · exact Nat.not_lt.2 h2 h1.2))
         have hb3' := hide hb3
         generalize q.thick.length = tl at *
         clear hk hloc hb3)
      | (go_at_call 23
         refine HAp.out.mono ?_
         rintro e w4 ⟨rfl, hd, hk⟩
         have hnx : ∀ i, i < w.heap.size + 2 → w.heap.size ≤ i → ¬ ((Sx S w i) ∧ (i < (bx w q).heap.size ∨ W3.heap.size ≤ i)) := fun i h1 h2 e => by have := e.1.2; omega
         have r3 := hk.blk (K23.out.blk HB.out.r fun f => f) (hnx _ (by omega) (by omega))
         have HE : Hid (StepAs S w p s q (.returned (.agg #[.int .i64 (s.append q.seg q.thick).1, .int .i64 0, .bool false, .slice none 0 0, .slice none 0 0])) (put5 w4 (w.heap.size + 1) (.int .i64 (s.append q.seg q.thick).1) (.int .i64 0) (.bool false) (.slice none 0 0) (.slice none 0 0))) := told_end HB.out HS.out ((K23.out.mono fun _ f => f.elim).more (hk.mono fun i e => e.1)) (hd.mono fun i e => e.1) (by unfold StepTo; rw [HW.out]; simp) (ans_plain (by rw [HW.out]; decide) (by rw [HW.out]; decide) (by rw [HW.out]; decide) (by rw [HW.out]; decide)) (World.ownsRow_nil _ _ _ _) (row_nil _) (fun g e => by cases e) (fun g e => by cases e)
         have r0 := cell_blk r3 0 (v := .int .i64 0) rfl
         have r1 := cell_blk r3 1 (v := .int .i64 0) rfl
         have r2 := cell_blk r3 2 (v := .bool false) rfl
         have r4 := cell_blk r3 3 (v := .slice none 0 0) rfl
         have r5 := cell_blk r3 4 (v := .slice none 0 0) rfl
         have f0 := frozen_blk r3 0
         have f1 := frozen_blk r3 1
         have f2 := frozen_blk r3 2
         have f3 := frozen_blk r3 3
         have f4 := frozen_blk r3 4
         have HR := hide r3
         generalize (s.append q.seg q.thick).1 = cd at *
         clear r3 hd hk hnx))
  all_goals (go_wp2; exact bodyPost_ret (res_told rfl _ _ (w.heap.size + 1) _ _ _ _ _ rfl (put5_blk HR.out _ _ _ _ _)) rfl HE.out)

theorem stepped_any (S : Nat → Prop) (w : World) (p : Nat) (s : St) (q : Stp) {n : Nat} (h : DAt S w p s) (g : Good n s) (hn : n ≤ 70368744177664) (hS : ∀ i, w.heap.size ≤ i → S i) (hq : StpOk w q) (hout : q.out S) :
    Calls Try.prog 10 #[.pointer (some ⟨p, 0, none⟩), q.val] w (StepAs S w p s q) := by
  have ok := g.ok hn
  have hbig : totS s.held < 1152921504606846976 := by rw [tot_away]; exact g.bud.held hn
  have hp := pickV_in q.what 12 (by decide)
  by_cases g0 : pickV q.what 12 = 0
  · exact stepped_create S w p s q h ok hS hq g0
  by_cases g1 : pickV q.what 12 = 1
  · exact stepped_append S w p s q h ok hS hq hout g1
  by_cases g2 : pickV q.what 12 = 2
  · exact stepped_remove S w p s q h ok hS hq g2
  by_cases g3 : pickV q.what 12 = 3
  · exact stepped_sync S w p s q h ok hS hq g3
  by_cases g4 : pickV q.what 12 = 4
  · exact stepped_thick S w p s q h ok hS hq g4
  by_cases g5 : pickV q.what 12 = 5
  · exact stepped_read S w p s q h ok hS hq g5
  by_cases g6 : pickV q.what 12 = 6
  · exact stepped_room S w p s q h ok hS hq g6
  by_cases g7 : pickV q.what 12 = 7
  · exact stepped_arm S w p s q h hS hq g7
  by_cases g8 : pickV q.what 12 = 8
  · exact stepped_down S w p s q h hS hq g8
  by_cases g9 : pickV q.what 12 = 9
  · exact stepped_spoil S w p s q h ok hS hq g9
  by_cases g10 : pickV q.what 12 = 10
  · exact stepped_list S w p s q h ok hS hq g10
  · exact stepped_crash S w p s q h ok hbig hS hq hout (by omega)

end Go.Proofs.Ytilpidioengnbaa
