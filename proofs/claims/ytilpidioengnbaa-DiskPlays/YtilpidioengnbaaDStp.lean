/- The laws' stepped, kind by kind (written by step_gen.py). -/
import Derived.Test.YtilpidioengnbaaDLaw
namespace Go.Proofs.Ytilpidioengnbaa
open Go.RowKit Go.Lib

theorem DAt.sp {S : Nat → Prop} {w : World} {p : Nat} {s : St} (h : DAt S w p s) : S p := by
  obtain ⟨bt, bo, val, h⟩ := h
  exact h.sp

set_option maxRecDepth 100000 in
set_option maxHeartbeats 4000000 in
theorem stepped_create (S : Nat → Prop) (w : World) (p : Nat) (s : St) (q : Stp) (h : DAt S w p s) (ok : Ok s) (hS : ∀ i, w.heap.size ≤ i → S i) (hq : StpOk w q) (hw : pickV q.what 12 = 0) :
    Calls Try.prog 10 #[.pointer (some ⟨p, 0, none⟩), q.val] w (StepAs S w p s q) := by
  have hpick := fun w => pick_any q.what 12 hq.what.1 hq.what.2 (by decide) (by decide) w
  rw [hw] at hpick
  have HPk := hide hpick
  have HW := hide hw
  have HB := hide (boxed h hS hq)
  have HS := hide hS
  have HC := hide (create_any (Sx S w) (bx w q) p s q.seg HB.out.d ok hq.seg.1 hq.seg.2 HB.out.n)
  unfold bx at HC
  unfold Stp.val
  clear hpick hw h ok hS hq
  go_enter Try.func10, Try.ntmps10
  go_wp2_with (first
    | (go_at_call 7; refine (HPk.out _).mono ?_; rintro e w1 ⟨rfl, rfl⟩)
    | (go_at_call 22
       refine HC.out.mono ?_
       rintro e w3 ⟨rfl, hd, hk⟩
       have HK : Hid (Keep (Sx S w) (bx w q) w3) := hk
       have r3 := hk.blk HB.out.r (fun e => by have := e.2; omega)
       have HE : Hid (StepAs S w p s q (.returned (.agg #[.int .i64 (s.create q.seg).1, .int .i64 0, .bool false, .slice none 0 0, .slice none 0 0])) (put5 w3 (w.heap.size + 1) (.int .i64 (s.create q.seg).1) (.int .i64 0) (.bool false) (.slice none 0 0) (.slice none 0 0))) := told_end HB.out HS.out hk hd (by unfold StepTo; rw [HW.out]; simp) (ans_plain (by rw [HW.out]; decide) (by rw [HW.out]; decide) (by rw [HW.out]; decide) (by rw [HW.out]; decide)) (World.ownsRow_nil _ _ _ _) (row_nil _) (fun g e => by cases e) (fun g e => by cases e)
       generalize (s.create q.seg).1 = cd at *
       clear hd hk
       have r0 := cell_blk r3 0 (v := .int .i64 0) rfl
       have r1 := cell_blk r3 1 (v := .int .i64 0) rfl
       have r2 := cell_blk r3 2 (v := .bool false) rfl
       have r4 := cell_blk r3 3 (v := .slice none 0 0) rfl
       have r5 := cell_blk r3 4 (v := .slice none 0 0) rfl
       have f0 := frozen_blk r3 0
       have f1 := frozen_blk r3 1
       have f2 := frozen_blk r3 2
       have f3 := frozen_blk r3 3
       have f4 := frozen_blk r3 4
       have HR := hide r3
       clear r3))
  exact bodyPost_ret (res_told rfl _ _ (w.heap.size + 1) _ _ _ _ _ rfl (put5_blk HR.out _ _ _ _ _)) rfl HE.out

set_option maxRecDepth 100000 in
set_option maxHeartbeats 4000000 in
theorem stepped_append (S : Nat → Prop) (w : World) (p : Nat) (s : St) (q : Stp) (h : DAt S w p s) (ok : Ok s) (hS : ∀ i, w.heap.size ≤ i → S i) (hq : StpOk w q) (hout : q.out S) (hw : pickV q.what 12 = 1) :
    Calls Try.prog 10 #[.pointer (some ⟨p, 0, none⟩), q.val] w (StepAs S w p s q) := by
  have hpick := fun w => pick_any q.what 12 hq.what.1 hq.what.2 (by decide) (by decide) w
  rw [hw] at hpick
  have HPk := hide hpick
  have HW := hide hw
  have HB := hide (boxed h hS hq)
  have HS := hide hS
  have HC := hide (append_any (Sx S w) (bx w q) p s q.seg q.ba q.b.length q.bc q.b HB.out.d ok hq.seg.1 hq.seg.2 HB.out.n HB.out.sq.rb (HB.out.o hout).1)
  unfold bx at HC
  unfold Stp.val
  clear hpick hw h ok hout hS hq
  go_enter Try.func10, Try.ntmps10
  go_wp2_with (first
    | (go_at_call 7; refine (HPk.out _).mono ?_; rintro e w1 ⟨rfl, rfl⟩)
    | (go_at_call 23
       refine HC.out.mono ?_
       rintro e w3 ⟨rfl, hd, hk⟩
       have HK : Hid (Keep (Sx S w) (bx w q) w3) := hk
       have r3 := hk.blk HB.out.r (fun e => by have := e.2; omega)
       have HE : Hid (StepAs S w p s q (.returned (.agg #[.int .i64 (s.append q.seg q.b).1, .int .i64 0, .bool false, .slice none 0 0, .slice none 0 0])) (put5 w3 (w.heap.size + 1) (.int .i64 (s.append q.seg q.b).1) (.int .i64 0) (.bool false) (.slice none 0 0) (.slice none 0 0))) := told_end HB.out HS.out hk hd (by unfold StepTo; rw [HW.out]; simp) (ans_plain (by rw [HW.out]; decide) (by rw [HW.out]; decide) (by rw [HW.out]; decide) (by rw [HW.out]; decide)) (World.ownsRow_nil _ _ _ _) (row_nil _) (fun g e => by cases e) (fun g e => by cases e)
       generalize (s.append q.seg q.b).1 = cd at *
       clear hd hk
       have r0 := cell_blk r3 0 (v := .int .i64 0) rfl
       have r1 := cell_blk r3 1 (v := .int .i64 0) rfl
       have r2 := cell_blk r3 2 (v := .bool false) rfl
       have r4 := cell_blk r3 3 (v := .slice none 0 0) rfl
       have r5 := cell_blk r3 4 (v := .slice none 0 0) rfl
       have f0 := frozen_blk r3 0
       have f1 := frozen_blk r3 1
       have f2 := frozen_blk r3 2
       have f3 := frozen_blk r3 3
       have f4 := frozen_blk r3 4
       have HR := hide r3
       clear r3))
  exact bodyPost_ret (res_told rfl _ _ (w.heap.size + 1) _ _ _ _ _ rfl (put5_blk HR.out _ _ _ _ _)) rfl HE.out

set_option maxRecDepth 100000 in
set_option maxHeartbeats 4000000 in
theorem stepped_remove (S : Nat → Prop) (w : World) (p : Nat) (s : St) (q : Stp) (h : DAt S w p s) (ok : Ok s) (hS : ∀ i, w.heap.size ≤ i → S i) (hq : StpOk w q) (hw : pickV q.what 12 = 2) :
    Calls Try.prog 10 #[.pointer (some ⟨p, 0, none⟩), q.val] w (StepAs S w p s q) := by
  have hpick := fun w => pick_any q.what 12 hq.what.1 hq.what.2 (by decide) (by decide) w
  rw [hw] at hpick
  have HPk := hide hpick
  have HW := hide hw
  have HB := hide (boxed h hS hq)
  have HS := hide hS
  have HC := hide (remove_any (Sx S w) (bx w q) p s q.seg HB.out.d ok hq.seg.1 hq.seg.2 HB.out.n)
  unfold bx at HC
  unfold Stp.val
  clear hpick hw h ok hS hq
  go_enter Try.func10, Try.ntmps10
  go_wp2_with (first
    | (go_at_call 7; refine (HPk.out _).mono ?_; rintro e w1 ⟨rfl, rfl⟩)
    | (go_at_call 31
       refine HC.out.mono ?_
       rintro e w3 ⟨rfl, hd, hk⟩
       have HK : Hid (Keep (Sx S w) (bx w q) w3) := hk
       have r3 := hk.blk HB.out.r (fun e => by have := e.2; omega)
       have HE : Hid (StepAs S w p s q (.returned (.agg #[.int .i64 (s.remove q.seg).1, .int .i64 0, .bool false, .slice none 0 0, .slice none 0 0])) (put5 w3 (w.heap.size + 1) (.int .i64 (s.remove q.seg).1) (.int .i64 0) (.bool false) (.slice none 0 0) (.slice none 0 0))) := told_end HB.out HS.out hk hd (by unfold StepTo; rw [HW.out]; simp) (ans_plain (by rw [HW.out]; decide) (by rw [HW.out]; decide) (by rw [HW.out]; decide) (by rw [HW.out]; decide)) (World.ownsRow_nil _ _ _ _) (row_nil _) (fun g e => by cases e) (fun g e => by cases e)
       generalize (s.remove q.seg).1 = cd at *
       clear hd hk
       have r0 := cell_blk r3 0 (v := .int .i64 0) rfl
       have r1 := cell_blk r3 1 (v := .int .i64 0) rfl
       have r2 := cell_blk r3 2 (v := .bool false) rfl
       have r4 := cell_blk r3 3 (v := .slice none 0 0) rfl
       have r5 := cell_blk r3 4 (v := .slice none 0 0) rfl
       have f0 := frozen_blk r3 0
       have f1 := frozen_blk r3 1
       have f2 := frozen_blk r3 2
       have f3 := frozen_blk r3 3
       have f4 := frozen_blk r3 4
       have HR := hide r3
       clear r3))
  exact bodyPost_ret (res_told rfl _ _ (w.heap.size + 1) _ _ _ _ _ rfl (put5_blk HR.out _ _ _ _ _)) rfl HE.out

set_option maxRecDepth 100000 in
set_option maxHeartbeats 4000000 in
theorem stepped_sync (S : Nat → Prop) (w : World) (p : Nat) (s : St) (q : Stp) (h : DAt S w p s) (ok : Ok s) (hS : ∀ i, w.heap.size ≤ i → S i) (hq : StpOk w q) (hw : pickV q.what 12 = 3) :
    Calls Try.prog 10 #[.pointer (some ⟨p, 0, none⟩), q.val] w (StepAs S w p s q) := by
  have hpick := fun w => pick_any q.what 12 hq.what.1 hq.what.2 (by decide) (by decide) w
  rw [hw] at hpick
  have HPk := hide hpick
  have HW := hide hw
  have HB := hide (boxed h hS hq)
  have HS := hide hS
  have HC := hide (sync_any (Sx S w) (bx w q) p s HB.out.d ok)
  unfold bx at HC
  unfold Stp.val
  clear hpick hw h ok hS hq
  go_enter Try.func10, Try.ntmps10
  go_wp2_with (first
    | (go_at_call 7; refine (HPk.out _).mono ?_; rintro e w1 ⟨rfl, rfl⟩)
    | (go_at_call 26
       refine HC.out.mono ?_
       rintro e w3 ⟨rfl, hd, hk⟩
       have HK : Hid (Keep (Sx S w) (bx w q) w3) := hk
       have r3 := hk.blk HB.out.r (fun e => by have := e.2; omega)
       have HE : Hid (StepAs S w p s q (.returned (.agg #[.int .i64 (s.sync).1, .int .i64 0, .bool false, .slice none 0 0, .slice none 0 0])) (put5 w3 (w.heap.size + 1) (.int .i64 (s.sync).1) (.int .i64 0) (.bool false) (.slice none 0 0) (.slice none 0 0))) := told_end HB.out HS.out hk hd (by unfold StepTo; rw [HW.out]; simp) (ans_plain (by rw [HW.out]; decide) (by rw [HW.out]; decide) (by rw [HW.out]; decide) (by rw [HW.out]; decide)) (World.ownsRow_nil _ _ _ _) (row_nil _) (fun g e => by cases e) (fun g e => by cases e)
       generalize (s.sync).1 = cd at *
       clear hd hk
       have r0 := cell_blk r3 0 (v := .int .i64 0) rfl
       have r1 := cell_blk r3 1 (v := .int .i64 0) rfl
       have r2 := cell_blk r3 2 (v := .bool false) rfl
       have r4 := cell_blk r3 3 (v := .slice none 0 0) rfl
       have r5 := cell_blk r3 4 (v := .slice none 0 0) rfl
       have f0 := frozen_blk r3 0
       have f1 := frozen_blk r3 1
       have f2 := frozen_blk r3 2
       have f3 := frozen_blk r3 3
       have f4 := frozen_blk r3 4
       have HR := hide r3
       clear r3))
  exact bodyPost_ret (res_told rfl _ _ (w.heap.size + 1) _ _ _ _ _ rfl (put5_blk HR.out _ _ _ _ _)) rfl HE.out

set_option maxRecDepth 100000 in
set_option maxHeartbeats 4000000 in
theorem stepped_arm (S : Nat → Prop) (w : World) (p : Nat) (s : St) (q : Stp) (h : DAt S w p s) (hS : ∀ i, w.heap.size ≤ i → S i) (hq : StpOk w q) (hw : pickV q.what 12 = 7) :
    Calls Try.prog 10 #[.pointer (some ⟨p, 0, none⟩), q.val] w (StepAs S w p s q) := by
  have hpick := fun w => pick_any q.what 12 hq.what.1 hq.what.2 (by decide) (by decide) w
  rw [hw] at hpick
  have HPk := hide hpick
  have HW := hide hw
  have HB := hide (boxed h hS hq)
  have HS := hide hS
  have HC := hide ((Arm_any (Sx S w) (bx w q) p s q.n HB.out.d).mono fun e w' h => (⟨h.1, h.2.1, h.2.2.mono fun i e => e ▸ HB.out.d.sp⟩ : Did (Sx S w) (bx w q) p (s.arm q.n) e w'))
  unfold bx at HC
  unfold Stp.val
  clear hpick hw h  hS hq
  go_enter Try.func10, Try.ntmps10
  go_wp2_with (first
    | (go_at_call 7; refine (HPk.out _).mono ?_; rintro e w1 ⟨rfl, rfl⟩)
    | (go_at_call 25
       refine HC.out.mono ?_
       rintro e w3 ⟨rfl, hd, hk⟩
       have HK : Hid (Keep (Sx S w) (bx w q) w3) := hk
       have r3 := hk.blk HB.out.r (fun e => by have := e.2; omega)
       have HE : Hid (StepAs S w p s q (.returned (.agg #[.int .i64 (s.arm q.n).1, .int .i64 0, .bool false, .slice none 0 0, .slice none 0 0])) (put5 w3 (w.heap.size + 1) (.int .i64 (s.arm q.n).1) (.int .i64 0) (.bool false) (.slice none 0 0) (.slice none 0 0))) := told_end HB.out HS.out hk hd (by unfold StepTo; rw [HW.out]; simp) (ans_plain (by rw [HW.out]; decide) (by rw [HW.out]; decide) (by rw [HW.out]; decide) (by rw [HW.out]; decide)) (World.ownsRow_nil _ _ _ _) (row_nil _) (fun g e => by cases e) (fun g e => by cases e)
       generalize (s.arm q.n).1 = cd at *
       clear hd hk
       have r0 := cell_blk r3 0 (v := .int .i64 0) rfl
       have r1 := cell_blk r3 1 (v := .int .i64 0) rfl
       have r2 := cell_blk r3 2 (v := .bool false) rfl
       have r4 := cell_blk r3 3 (v := .slice none 0 0) rfl
       have r5 := cell_blk r3 4 (v := .slice none 0 0) rfl
       have f0 := frozen_blk r3 0
       have f1 := frozen_blk r3 1
       have f2 := frozen_blk r3 2
       have f3 := frozen_blk r3 3
       have f4 := frozen_blk r3 4
       have HR := hide r3
       clear r3))
  exact bodyPost_ret (res_told rfl _ _ (w.heap.size + 1) _ _ _ _ _ rfl (put5_blk HR.out _ _ _ _ _)) rfl HE.out

set_option maxRecDepth 100000 in
set_option maxHeartbeats 4000000 in
theorem stepped_spoil (S : Nat → Prop) (w : World) (p : Nat) (s : St) (q : Stp) (h : DAt S w p s) (ok : Ok s) (hS : ∀ i, w.heap.size ≤ i → S i) (hq : StpOk w q) (hw : pickV q.what 12 = 9) :
    Calls Try.prog 10 #[.pointer (some ⟨p, 0, none⟩), q.val] w (StepAs S w p s q) := by
  have hpick := fun w => pick_any q.what 12 hq.what.1 hq.what.2 (by decide) (by decide) w
  rw [hw] at hpick
  have HPk := hide hpick
  have HW := hide hw
  have HB := hide (boxed h hS hq)
  have HS := hide hS
  have HC := hide (spoil_any (Sx S w) (bx w q) p s q.seg q.n q.mask HB.out.d ok hq.seg.1 hq.seg.2 hq.mask)
  unfold bx at HC
  unfold Stp.val
  clear hpick hw h ok hS hq
  go_enter Try.func10, Try.ntmps10
  go_wp2_with (first
    | (go_at_call 7; refine (HPk.out _).mono ?_; rintro e w1 ⟨rfl, rfl⟩)
    | (go_at_call 33
       refine HC.out.mono ?_
       rintro e w3 ⟨rfl, hd, hk⟩
       have HK : Hid (Keep (Sx S w) (bx w q) w3) := hk
       have r3 := hk.blk HB.out.r (fun e => by have := e.2; omega)
       have HE : Hid (StepAs S w p s q (.returned (.agg #[.int .i64 (s.spoil q.seg q.n q.mask).1, .int .i64 0, .bool false, .slice none 0 0, .slice none 0 0])) (put5 w3 (w.heap.size + 1) (.int .i64 (s.spoil q.seg q.n q.mask).1) (.int .i64 0) (.bool false) (.slice none 0 0) (.slice none 0 0))) := told_end HB.out HS.out hk hd (by unfold StepTo; rw [HW.out]; simp) (ans_plain (by rw [HW.out]; decide) (by rw [HW.out]; decide) (by rw [HW.out]; decide) (by rw [HW.out]; decide)) (World.ownsRow_nil _ _ _ _) (row_nil _) (fun g e => by cases e) (fun g e => by cases e)
       generalize (s.spoil q.seg q.n q.mask).1 = cd at *
       clear hd hk
       have r0 := cell_blk r3 0 (v := .int .i64 0) rfl
       have r1 := cell_blk r3 1 (v := .int .i64 0) rfl
       have r2 := cell_blk r3 2 (v := .bool false) rfl
       have r4 := cell_blk r3 3 (v := .slice none 0 0) rfl
       have r5 := cell_blk r3 4 (v := .slice none 0 0) rfl
       have f0 := frozen_blk r3 0
       have f1 := frozen_blk r3 1
       have f2 := frozen_blk r3 2
       have f3 := frozen_blk r3 3
       have f4 := frozen_blk r3 4
       have HR := hide r3
       clear r3))
  exact bodyPost_ret (res_told rfl _ _ (w.heap.size + 1) _ _ _ _ _ rfl (put5_blk HR.out _ _ _ _ _)) rfl HE.out

set_option maxRecDepth 100000 in
set_option maxHeartbeats 4000000 in
theorem stepped_read (S : Nat → Prop) (w : World) (p : Nat) (s : St) (q : Stp) (h : DAt S w p s) (ok : Ok s) (hS : ∀ i, w.heap.size ≤ i → S i) (hq : StpOk w q) (hw : pickV q.what 12 = 5) :
    Calls Try.prog 10 #[.pointer (some ⟨p, 0, none⟩), q.val] w (StepAs S w p s q) := by
  have hpick := fun w => pick_any q.what 12 hq.what.1 hq.what.2 (by decide) (by decide) w
  rw [hw] at hpick
  have HPk := hide hpick
  have HW := hide hw
  have HB := hide (boxed h hS hq)
  have HS := hide hS
  have HC := hide (read_any (Sx S w) (bx w q) p s q.seg HB.out.d ok hq.seg.1 hq.seg.2)
  unfold bx at HC
  unfold Stp.val
  clear hpick hw h ok hS hq
  go_enter Try.func10, Try.ntmps10
  go_wp2_with (first
    | (go_at_call 7; refine (HPk.out _).mono ?_; rintro e w1 ⟨rfl, rfl⟩)
    | (go_at_call 27
       refine HC.out.mono ?_
       rintro e w3 ⟨v, rfl, hrow, hk, hnew⟩
       have hk' : Keep (Sx S w) (bx w q) w3 := hk.mono fun _ f => f.elim
       have r3 := hk.blk HB.out.r fun f => f
       obtain ⟨va, vc, hv⟩ := ownsRow_shape hrow.1
       subst hv
       have hz : (bx w q).heap.size = w.heap.size + 2 := by unfold bx; rw [alloc_size, alloc_size]
       have HE : Hid (StepAs S w p s q (.returned (.agg #[.int .i64 (s.find q.seg), .int .i64 0, .bool false, .slice none 0 0, .slice va (if s.down then [] else s.bytes q.seg).length vc])) (put5 w3 (w.heap.size + 1) (.int .i64 (s.find q.seg)) (.int .i64 0) (.bool false) (.slice none 0 0) (.slice va (if s.down then [] else s.bytes q.seg).length vc))) := told_end HB.out HS.out hk' (HB.out.d.stay hk fun _ _ _ f => f) (by unfold StepTo; rw [HW.out]; simp) ⟨by rw [HW.out]; simp, by rw [HW.out]; simp, List.Pairwise.nil, (fun k => by rw [HW.out]; simp), by rw [HW.out]; cases s.down <;> rfl⟩ (World.ownsRow_nil _ _ _ _) hrow (fun g e => by cases e) (fun g e => by have h := hnew g e; have h' : (bx w q).heap.size ≤ g := h; omega)
       generalize (if s.down then [] else s.bytes q.seg).length = ln at *
       generalize s.find q.seg = cd at *
       clear hk hk' hrow hnew hz
       have r0 := cell_blk r3 0 (v := .int .i64 0) rfl
       have r1 := cell_blk r3 1 (v := .int .i64 0) rfl
       have r2 := cell_blk r3 2 (v := .bool false) rfl
       have r4 := cell_blk r3 3 (v := .slice none 0 0) rfl
       have r5 := cell_blk r3 4 (v := .slice none 0 0) rfl
       have f0 := frozen_blk r3 0
       have f1 := frozen_blk r3 1
       have f2 := frozen_blk r3 2
       have f3 := frozen_blk r3 3
       have f4 := frozen_blk r3 4
       have HR := hide r3
       clear r3))
  exact bodyPost_ret (res_told rfl _ _ (w.heap.size + 1) _ _ _ _ _ rfl (put5_blk HR.out _ _ _ _ _)) rfl HE.out

set_option maxRecDepth 100000 in
set_option maxHeartbeats 4000000 in
theorem stepped_room (S : Nat → Prop) (w : World) (p : Nat) (s : St) (q : Stp) (h : DAt S w p s) (ok : Ok s) (hS : ∀ i, w.heap.size ≤ i → S i) (hq : StpOk w q) (hw : pickV q.what 12 = 6) :
    Calls Try.prog 10 #[.pointer (some ⟨p, 0, none⟩), q.val] w (StepAs S w p s q) := by
  have hpick := fun w => pick_any q.what 12 hq.what.1 hq.what.2 (by decide) (by decide) w
  rw [hw] at hpick
  have HPk := hide hpick
  have HW := hide hw
  have HB := hide (boxed h hS hq)
  have HS := hide hS
  have HC := hide (Room_any (Sx S w) (bx w q) p s HB.out.d ok)
  unfold bx at HC
  unfold Stp.val
  clear hpick hw h ok hS hq
  go_enter Try.func10, Try.ntmps10
  go_wp2_with (first
    | (go_at_call 7; refine (HPk.out _).mono ?_; rintro e w1 ⟨rfl, rfl⟩)
    | (go_at_call 24
       refine HC.out.mono ?_
       rintro e w3 ⟨rfl, n, hw3⟩
       have hk : Keep (fun _ => False) (bx w q) w3 := by rw [hw3]; exact ⟨rfl, rfl, rfl, Nat.le_refl _, fun _ _ _ => rfl⟩
       have r3 := hk.blk HB.out.r fun f => f
       have HE : Hid (StepAs S w p s q (.returned (.agg #[.int .i64 (if s.down then 56 else 0), .int .i64 (if s.down then 0 else (s.room : Nat)), .bool false, .slice none 0 0, .slice none 0 0])) (put5 w3 (w.heap.size + 1) (.int .i64 (if s.down then 56 else 0)) (.int .i64 (if s.down then 0 else (s.room : Nat))) (.bool false) (.slice none 0 0) (.slice none 0 0))) := told_end HB.out HS.out (hk.mono fun _ f => f.elim) (HB.out.d.stay hk fun _ _ _ f => f) (by unfold StepTo; rw [HW.out]; simp) ⟨by rw [HW.out]; cases s.down <;> simp, by rw [HW.out]; simp, List.Pairwise.nil, (fun k => by rw [HW.out]; simp), by rw [HW.out]; simp⟩ (World.ownsRow_nil _ _ _ _) (row_nil _) (fun g e => by cases e) (fun g e => by cases e)
       generalize (if s.down then (0 : Int) else (s.room : Nat)) = rm at *
       generalize (if s.down then (56 : Int) else 0) = cd at *
       clear hk hw3
       have r0 := cell_blk r3 0 (v := .int .i64 0) rfl
       have r1 := cell_blk r3 1 (v := .int .i64 0) rfl
       have r2 := cell_blk r3 2 (v := .bool false) rfl
       have r4 := cell_blk r3 3 (v := .slice none 0 0) rfl
       have r5 := cell_blk r3 4 (v := .slice none 0 0) rfl
       have f0 := frozen_blk r3 0
       have f1 := frozen_blk r3 1
       have f2 := frozen_blk r3 2
       have f3 := frozen_blk r3 3
       have f4 := frozen_blk r3 4
       have HR := hide r3
       clear r3))
  exact bodyPost_ret (res_told rfl _ _ (w.heap.size + 1) _ _ _ _ _ rfl (put5_blk HR.out _ _ _ _ _)) rfl HE.out

set_option maxRecDepth 100000 in
set_option maxHeartbeats 4000000 in
theorem stepped_down (S : Nat → Prop) (w : World) (p : Nat) (s : St) (q : Stp) (h : DAt S w p s) (hS : ∀ i, w.heap.size ≤ i → S i) (hq : StpOk w q) (hw : pickV q.what 12 = 8) :
    Calls Try.prog 10 #[.pointer (some ⟨p, 0, none⟩), q.val] w (StepAs S w p s q) := by
  have hpick := fun w => pick_any q.what 12 hq.what.1 hq.what.2 (by decide) (by decide) w
  rw [hw] at hpick
  have HPk := hide hpick
  have HW := hide hw
  have HB := hide (boxed h hS hq)
  have HS := hide hS
  have HC := hide (down_any (Sx S w) (bx w q) p s HB.out.d)
  unfold bx at HC
  unfold Stp.val
  clear hpick hw h  hS hq
  go_enter Try.func10, Try.ntmps10
  go_wp2_with (first
    | (go_at_call 7; refine (HPk.out _).mono ?_; rintro e w1 ⟨rfl, rfl⟩)
    | (go_at_call 15
       refine HC.out.mono ?_
       rintro e w3 ⟨rfl, hw3⟩
       have hk : Keep (fun _ => False) (bx w q) w3 := by rw [hw3]; exact Keep.refl _ _
       have r3 := hk.blk HB.out.r fun f => f
       have HE : Hid (StepAs S w p s q (.returned (.agg #[.int .i64 0, .int .i64 0, .bool s.down, .slice none 0 0, .slice none 0 0])) (put5 w3 (w.heap.size + 1) (.int .i64 0) (.int .i64 0) (.bool s.down) (.slice none 0 0) (.slice none 0 0))) := told_end HB.out HS.out (hk.mono fun _ f => f.elim) (HB.out.d.stay hk fun _ _ _ f => f) (by unfold StepTo; rw [HW.out]; simp) ⟨by rw [HW.out]; simp, by rw [HW.out]; simp, List.Pairwise.nil, (fun k => by rw [HW.out]; simp), by rw [HW.out]; simp⟩ (World.ownsRow_nil _ _ _ _) (row_nil _) (fun g e => by cases e) (fun g e => by cases e)
       generalize s.down = dn at *
       clear hk hw3
       have r0 := cell_blk r3 0 (v := .int .i64 0) rfl
       have r1 := cell_blk r3 1 (v := .int .i64 0) rfl
       have r2 := cell_blk r3 2 (v := .bool false) rfl
       have r4 := cell_blk r3 3 (v := .slice none 0 0) rfl
       have r5 := cell_blk r3 4 (v := .slice none 0 0) rfl
       have f0 := frozen_blk r3 0
       have f1 := frozen_blk r3 1
       have f2 := frozen_blk r3 2
       have f3 := frozen_blk r3 3
       have f4 := frozen_blk r3 4
       have HR := hide r3
       clear r3))
  exact bodyPost_ret (res_told rfl _ _ (w.heap.size + 1) _ _ _ _ _ rfl (put5_blk HR.out _ _ _ _ _)) rfl HE.out

set_option maxRecDepth 100000 in
set_option maxHeartbeats 4000000 in
theorem stepped_list (S : Nat → Prop) (w : World) (p : Nat) (s : St) (q : Stp) (h : DAt S w p s) (ok : Ok s) (hS : ∀ i, w.heap.size ≤ i → S i) (hq : StpOk w q) (hw : pickV q.what 12 = 10) :
    Calls Try.prog 10 #[.pointer (some ⟨p, 0, none⟩), q.val] w (StepAs S w p s q) := by
  have hpick := fun w => pick_any q.what 12 hq.what.1 hq.what.2 (by decide) (by decide) w
  rw [hw] at hpick
  have HPk := hide hpick
  have HW := hide hw
  have HB := hide (boxed h hS hq)
  have HS := hide hS
  have HC := hide (list_any (Sx S w) (bx w q) p s HB.out.d ok)
  unfold bx at HC
  unfold Stp.val
  clear hpick hw h ok hS hq
  go_enter Try.func10, Try.ntmps10
  go_wp2_with (first
    | (go_at_call 7; refine (HPk.out _).mono ?_; rintro e w1 ⟨rfl, rfl⟩)
    | (go_at_call 28
       refine HC.out.mono ?_
       rintro e w3 ⟨v, ks, rfl, hsrt, hmem, hown, hk⟩
       have r3 := hk.blk HB.out.r fun f => f
       obtain ⟨va, vc, hv⟩ := ownsRow_shape hown
       subst hv
       have hz : (bx w q).heap.size = w.heap.size + 2 := by unfold bx; rw [alloc_size, alloc_size]
       have HE : Hid (StepAs S w p s q (.returned (.agg #[.int .i64 (if s.down then 56 else 0), .int .i64 0, .bool false, .slice va ks.length vc, .slice none 0 0])) (put5 w3 (w.heap.size + 1) (.int .i64 (if s.down then 56 else 0)) (.int .i64 0) (.bool false) (.slice va ks.length vc) (.slice none 0 0))) := told_end HB.out HS.out (hk.mono fun _ f => f.elim) (HB.out.d.stay hk fun _ _ _ f => f) (by unfold StepTo; rw [HW.out]; simp) ⟨by rw [HW.out]; simp, by rw [HW.out]; simp, hsrt, (fun k => by rw [HW.out, hmem k]; simp), by rw [HW.out]; simp⟩ (ownsRow_base hown (Nat.zero_le _)) (row_nil _) (fun g e => by have h := (hown.lt g e).1; have h' : (bx w q).heap.size ≤ g := h; omega) (fun g e => by cases e)
       generalize (if s.down then (56 : Int) else 0) = cd at *
       clear hk hown hz
       have r0 := cell_blk r3 0 (v := .int .i64 0) rfl
       have r1 := cell_blk r3 1 (v := .int .i64 0) rfl
       have r2 := cell_blk r3 2 (v := .bool false) rfl
       have r4 := cell_blk r3 3 (v := .slice none 0 0) rfl
       have r5 := cell_blk r3 4 (v := .slice none 0 0) rfl
       have f0 := frozen_blk r3 0
       have f1 := frozen_blk r3 1
       have f2 := frozen_blk r3 2
       have f3 := frozen_blk r3 3
       have f4 := frozen_blk r3 4
       have HR := hide r3
       clear r3))
  exact bodyPost_ret (res_told rfl _ _ (w.heap.size + 1) _ _ _ _ _ rfl (put5_blk HR.out _ _ _ _ _)) rfl HE.out

set_option maxRecDepth 100000 in
set_option maxHeartbeats 4000000 in
theorem stepped_crash (S : Nat → Prop) (w : World) (p : Nat) (s : St) (q : Stp) (h : DAt S w p s) (ok : Ok s) (hbig : totS s.held < 1152921504606846976) (hS : ∀ i, w.heap.size ≤ i → S i) (hq : StpOk w q) (hout : q.out S) (hw : pickV q.what 12 = 11) :
    Calls Try.prog 10 #[.pointer (some ⟨p, 0, none⟩), q.val] w (StepAs S w p s q) := by
  have hpick := fun w => pick_any q.what 12 hq.what.1 hq.what.2 (by decide) (by decide) w
  rw [hw] at hpick
  have HPk := hide hpick
  have HW := hide hw
  have HB := hide (boxed h hS hq)
  have HS := hide hS
  have HC := hide (crash_any (Sx S w) (bx w q) p s q.fa q.fate.length q.fc q.fate HB.out.d ok hbig HB.out.sq.rf (HB.out.o hout).2)
  unfold bx at HC
  unfold Stp.val
  clear hpick hw h ok hbig hout hS hq
  go_enter Try.func10, Try.ntmps10
  go_wp2_with (first
    | (go_at_call 7; refine (HPk.out _).mono ?_; rintro e w1 ⟨rfl, rfl⟩)
    | (go_at_call 19
       refine HC.out.mono ?_
       rintro e w3 ⟨rfl, t, hct, hd, hk⟩
       have r3 := hk.blk HB.out.r (fun e => by have := e.2; omega)
       have HE : Hid (StepAs S w p s q (.returned (.agg #[.int .i64 0, .int .i64 0, .bool false, .slice none 0 0, .slice none 0 0])) (put5 w3 (w.heap.size + 1) (.int .i64 0) (.int .i64 0) (.bool false) (.slice none 0 0) (.slice none 0 0))) := told_end HB.out HS.out hk hd (by unfold StepTo; rw [HW.out]; simp [hct]) (ans_plain (by rw [HW.out]; decide) (by rw [HW.out]; decide) (by rw [HW.out]; decide) (by rw [HW.out]; decide)) (World.ownsRow_nil _ _ _ _) (row_nil _) (fun g e => by cases e) (fun g e => by cases e)
       clear hd hk hct
       have r0 := cell_blk r3 0 (v := .int .i64 0) rfl
       have r1 := cell_blk r3 1 (v := .int .i64 0) rfl
       have r2 := cell_blk r3 2 (v := .bool false) rfl
       have r4 := cell_blk r3 3 (v := .slice none 0 0) rfl
       have r5 := cell_blk r3 4 (v := .slice none 0 0) rfl
       have f0 := frozen_blk r3 0
       have f1 := frozen_blk r3 1
       have f2 := frozen_blk r3 2
       have f3 := frozen_blk r3 3
       have f4 := frozen_blk r3 4
       have HR := hide r3
       clear r3))
  exact bodyPost_ret (res_told rfl _ _ (w.heap.size + 1) _ _ _ _ _ rfl (put5_blk HR.out _ _ _ _ _)) rfl HE.out

end Go.Proofs.Ytilpidioengnbaa
