/- DiskPlays: the document's step, whole. -/
import Derived.Test.YtilpidioengnbaaDUd
import Derived.Test.YtilpidioengnbaaDUf
namespace Go.Proofs.Ytilpidioengnbaa
namespace DP
open Go.RowKit Go.Lib

set_option maxRecDepth 100000 in
set_option maxHeartbeats 4000000 in
theorem wanted_thick (S : Nat → Prop) (w : World) (p : Nat) (r : Rf) (q : Stp) (h : RIn S w p r) (fw : FitW r q.fate) (hS : ∀ i, w.heap.size ≤ i → S i) (hq : StpOk w q) (hw : pickV q.what 12 = 4) :
    Calls Try.prog 11 #[.pointer (some ⟨p, 0, none⟩), q.val] w (WantAs S w p r q) := by
  have hpick := fun w => pick_any q.what 12 hq.what.1 hq.what.2 (by decide) (by decide) w
  rw [hw] at hpick
  have HPk := hide hpick
  have HW := hide hw
  have HB := hide (boxedR h hS hq)
  have HS := hide hS
  have HC := hide (thick_any (bx w q).drew q hq.n.1 hq.n.2)
  have HF := hide fw
  have hz := bx_size w q
  have HZ := hide hz
  have x0 : Hid ((bx w q).drew.cell? ⟨w.heap.size, 0, none⟩ = some (.int .i64 q.which)) := cell_blk HB.out.b 0 rfl
  have x1 : Hid ((bx w q).drew.cell? ⟨w.heap.size, 1, none⟩ = some (.bool q.copy)) := cell_blk HB.out.b 1 rfl
  have x2 : Hid ((bx w q).drew.cell? ⟨w.heap.size, 2, none⟩ = some (.int .i64 q.what)) := cell_blk HB.out.b 2 rfl
  have x3 : Hid ((bx w q).drew.cell? ⟨w.heap.size, 3, none⟩ = some (.int .i64 q.seg)) := cell_blk HB.out.b 3 rfl
  have x4 : Hid ((bx w q).drew.cell? ⟨w.heap.size, 4, none⟩ = some (.int .i64 q.n)) := cell_blk HB.out.b 4 rfl
  have x5 : Hid ((bx w q).drew.cell? ⟨w.heap.size, 5, none⟩ = some (.int .u8 (q.mask : Nat))) := cell_blk HB.out.b 5 rfl
  have x6 : Hid ((bx w q).drew.cell? ⟨w.heap.size, 6, none⟩ = some (.slice q.ba q.b.length q.bc)) := cell_blk HB.out.b 6 rfl
  have x7 : Hid ((bx w q).drew.cell? ⟨w.heap.size, 7, none⟩ = some (.slice q.fa q.fate.length q.fc)) := cell_blk HB.out.b 7 rfl
  unfold Stp.val at HC
  unfold Stp.val
  clear hpick hw h fw hS hq hz
  go_enter Try.func11, Try.ntmps11
  go_wp2_with (first
    | (go_at_call 7; refine (HPk.out _).mono ?_; rintro e w1 ⟨rfl, rfl⟩))
  obtain ⟨W2, hW2⟩ : ∃ W2, W2 = bx w q := ⟨_, rfl⟩
  have hW2' := hW2
  unfold bx at hW2'
  rw [← hW2']
  have HW2 := hide hW2
  rw [← hW2] at HC x0 x1 x2 x3 x4 x5 x6 x7
  clear hW2 hW2'
  have y0 := x0.out
  have y1 := x1.out
  have y2 := x2.out
  have y3 := x3.out
  have y4 := x4.out
  have y5 := x5.out
  have y6 := x6.out
  have y7 := x7.out
  clear x0 x1 x2 x3 x4 x5 x6 x7
  go_region_with
    (first
      | (go_at_call 32
         refine HC.out.mono ?_
         rintro e W3 ⟨a, rfl, hrd, hk, hloc⟩
         have hb3 := hk.blk (w := W2.drew) (show W2.drew.heap[w.heap.size]? = _ by rw [HW2.out]; exact HB.out.b) fun f => f
         have x3' := cell_blk hb3 3 (v := .int .i64 q.seg) rfl
         have K23 : Hid (Keep (fun _ => False) (bx w q) W3) := by show Keep _ _ _; rw [← HW2.out]; exact (Keep.drew _ _).more hk
         have HAp := hide (refAppend_any _ W3 p r q.seg a q.thick.length q.thick.length q.thick (HB.out.d.part K23.out) HF.out.s1 (fun i hi => ⟨HB.out.n i (Nat.le_trans K23.out.size hi), .inr hi⟩) hrd (fun e => by
           rcases hrd.2.2.2 with h1 | ⟨b, off, e2, _⟩
           · exact h1
           · rw [e] at e2; cases e2) HF.out.f.cap HF.out.f.sum HF.out.f.len HF.out.f.by_ HF.out.f.left)
         have hb3' := hide hb3
         generalize q.thick.length = tl at *
         clear hk hloc hb3)
      | (go_at_call 35
         refine HAp.out.mono ?_
         rintro e w4 ⟨rfl, hd, hk⟩
         have hnx : ∀ i, i < w.heap.size + 2 → w.heap.size ≤ i → ¬ ((Sx S w i) ∧ (i < (bx w q).heap.size ∨ W3.heap.size ≤ i)) := fun i h1 h2 e => by have := e.1.2; omega
         have r3 := hk.blk (K23.out.blk HB.out.r fun f => f) (hnx _ (by omega) (by omega))
         have HE : Hid (WantAs S w p r q (.returned (.agg #[.int .i64 (r.append q.seg q.thick).1, .int .i64 0, .bool false, .slice none 0 0, .slice none 0 0])) (put5 w4 (w.heap.size + 1) (.int .i64 (r.append q.seg q.thick).1) (.int .i64 0) (.bool false) (.slice none 0 0) (.slice none 0 0))) := want_end HB.out HS.out ((K23.out.mono fun _ f => f.elim).more (hk.mono fun i e => e.1)) (hd.mono fun i e => e.1) (stepR_4 HW.out) (numR_no (by rw [HW.out]; decide)) (isR_no (by rw [HW.out]; decide)) (ksR_no (by rw [HW.out]; decide)) (bsR_no (by rw [HW.out]; decide)) (World.ownsRow_nil _ _ _ _) (row_nil _) (fun g e => by cases e) (fun g e => by cases e)
         have r0 := cell_blk r3 0 (v := .int .i64 0) rfl
         have r1 := cell_blk r3 1 (v := .int .i64 0) rfl
         have r2 := cell_blk r3 2 (v := .bool false) rfl
         have r4 := cell_blk r3 3 (v := .slice none 0 0) rfl
         have r5 := cell_blk r3 4 (v := .slice none 0 0) rfl
         have f0 := frozen_blk r3 0
         have f1 := frozen_blk r3 1
         have f2 := frozen_blk r3 2
         have f3 := frozen_blk r3 3
         have f4 := frozen_blk r3 4
         have HR := hide r3
         generalize (r.append q.seg q.thick).1 = cd at *
         clear r3 hd hk hnx))
  all_goals (go_wp2; exact bodyPost_ret (res_told rfl _ _ (w.heap.size + 1) _ _ _ _ _ rfl (put5_blk HR.out _ _ _ _ _)) rfl HE.out)

theorem wanted_any (S : Nat → Prop) (w : World) (p : Nat) (r : Rf) (q : Stp) (h : RIn S w p r) (fw : FitW r q.fate) (hS : ∀ i, w.heap.size ≤ i → S i) (hq : StpOk w q) (hm : More q) :
    Calls Try.prog 11 #[.pointer (some ⟨p, 0, none⟩), q.val] w (WantAs S w p r q) := by
  have hp := pickV_in q.what 12 (by decide)
  by_cases g0 : pickV q.what 12 = 0
  · exact wanted_create S w p r q h fw hS hq hm g0
  by_cases g1 : pickV q.what 12 = 1
  · exact wanted_append S w p r q h fw hS hq hm g1
  by_cases g2 : pickV q.what 12 = 2
  · exact wanted_remove S w p r q h fw hS hq hm g2
  by_cases g3 : pickV q.what 12 = 3
  · exact wanted_sync S w p r q h fw hS hq hm g3
  by_cases g4 : pickV q.what 12 = 4
  · exact wanted_thick S w p r q h fw hS hq g4
  by_cases g5 : pickV q.what 12 = 5
  · exact wanted_read S w p r q h fw hS hq hm g5
  by_cases g6 : pickV q.what 12 = 6
  · exact wanted_room S w p r q h fw hS hq hm g6
  by_cases g7 : pickV q.what 12 = 7
  · exact wanted_arm S w p r q h fw hS hq hm g7
  by_cases g8 : pickV q.what 12 = 8
  · exact wanted_down S w p r q h fw hS hq hm g8
  by_cases g9 : pickV q.what 12 = 9
  · exact wanted_spoil S w p r q h fw hS hq hm g9
  by_cases g10 : pickV q.what 12 = 10
  · exact wanted_list S w p r q h fw hS hq hm g10
  · exact wanted_crash S w p r q h fw hS hq hm (by omega)
end DP
end Go.Proofs.Ytilpidioengnbaa
