import Derived.Test.YtilpidioengnbaaDThk
import Derived.Test.YtilpidioengnbaaDAlk
/- DiskPlays: a step of a disk, with where its lists lie (written by dfr_gen.py). -/
namespace Go.Proofs.Ytilpidioengnbaa
namespace DP
open Go.RowKit Go.Lib

/-- as StepAs, and the lists are new memory -/
def StepFr (S : Nat → Prop) (w : World) (p : Nat) (s : St) (q : Stp) (e : Ending) (w' : World) : Prop :=
  ∃ (c N : Int) (is : Bool) (vl vb : Value) (ks : List Int) (bs : List Nat) (t : St), e = .returned (.agg #[.int .i64 c, .int .i64 N, .bool is, vl, vb]) ∧ StepTo s q c t ∧ Ans s q N is ks bs ∧ DAt S w' p t ∧ Keep S w w' ∧
    w'.ownsRow 0 3 1 vl ks.length (ks.map (Value.int .i64)) ∧ Row w' vb bs ∧ (ks ≠ [] → ∀ g, vl.ownBlock = some g → w.heap.size ≤ g) ∧ (bs ≠ [] → ∀ g, vb.ownBlock = some g → w.heap.size ≤ g)
theorem told_end2 {S : Nat → Prop} {w w3 : World} {p : Nat} {s t : St} {q : Stp} (hB : Bx S w p s q) (hS : ∀ i, w.heap.size ≤ i → S i) (hk : Keep (Sx S w) (bx w q) w3) (hd : DAt (Sx S w) w3 p t) {c N : Int} {is : Bool} {vl vb : Value} {ks : List Int} {bs : List Nat}
    (hst : StepTo s q c t) (ha : Ans s q N is ks bs) (hl : w3.ownsRow 0 3 1 vl ks.length (ks.map (Value.int .i64))) (hr : Row w3 vb bs) (h1 : ∀ g, vl.ownBlock = some g → g ≠ w.heap.size + 1) (h2 : ∀ g, vb.ownBlock = some g → g ≠ w.heap.size + 1)
    (h3 : ∀ g, vl.ownBlock = some g → w.heap.size ≤ g) (h4 : ∀ g, vb.ownBlock = some g → w.heap.size ≤ g) :
    StepFr S w p s q (.returned (.agg #[.int .i64 c, .int .i64 N, .bool is, vl, vb])) (put5 w3 (w.heap.size + 1) (.int .i64 c) (.int .i64 N) (.bool is) vl vb) := by
  have kp := put5_keep w3 (w.heap.size + 1) (.int .i64 c) (.int .i64 N) (.bool is) vl vb
  refine ⟨c, N, is, vl, vb, ks, bs, t, rfl, hst, ha, ?_, ?_, ownsRow_keep hl kp h1, hr.keep kp h2, fun _ => h3, fun _ => h4⟩
  · exact (hd.stay kp fun i _ hi e => by have := hi.2; omega).mono fun i e => e.1
  · exact (hB.k.mono fun _ f => f.elim).more ((hk.mono fun i e => e.1).more (kp.mono fun i e => hS i (by omega)))

set_option maxRecDepth 100000 in
set_option maxHeartbeats 4000000 in
theorem stepped_read2 (S : Nat → Prop) (w : World) (p : Nat) (s : St) (q : Stp) (h : DAt S w p s) (ok : Ok s) (hS : ∀ i, w.heap.size ≤ i → S i) (hq : StpOk w q) (hw : pickV q.what 12 = 5) :
    Calls Try.prog 10 #[.pointer (some ⟨p, 0, none⟩), q.val] w (StepFr S w p s q) := by
  have hpick := fun w => pick_any q.what 12 hq.what.1 hq.what.2 (by decide) (by decide) w
  rw [hw] at hpick
  have HPk := hide hpick
  have HW := hide hw
  have HB := hide (boxed h hS hq)
  have HS := hide hS
  have HC := hide (read_any (Sx S w) (bx w q) p s q.seg HB.out.d ok hq.seg.1 hq.seg.2)
  unfold bx at HC
  unfold Stp.val
  clear hpick hw h ok hS hq
  go_enter Try.func10, Try.ntmps10
  go_wp2_with (first
    | (go_at_call 7; refine (HPk.out _).mono ?_; rintro e w1 ⟨rfl, rfl⟩)
    | (go_at_call 27
       refine HC.out.mono ?_
       rintro e w3 ⟨v, rfl, hrow, hk, hnew⟩
       have hk' : Keep (Sx S w) (bx w q) w3 := hk.mono fun _ f => f.elim
       have r3 := hk.blk HB.out.r fun f => f
       obtain ⟨va, vc, hv⟩ := ownsRow_shape hrow.1
       subst hv
       have hz : (bx w q).heap.size = w.heap.size + 2 := by unfold bx; rw [alloc_size, alloc_size]
       have HE : Hid (StepFr S w p s q (.returned (.agg #[.int .i64 (s.find q.seg), .int .i64 0, .bool false, .slice none 0 0, .slice va (if s.down then [] else s.bytes q.seg).length vc])) (put5 w3 (w.heap.size + 1) (.int .i64 (s.find q.seg)) (.int .i64 0) (.bool false) (.slice none 0 0) (.slice va (if s.down then [] else s.bytes q.seg).length vc))) := told_end2 HB.out HS.out hk' (HB.out.d.stay hk fun _ _ _ f => f) (by unfold StepTo; rw [HW.out]; simp) ⟨by rw [HW.out]; simp, by rw [HW.out]; simp, List.Pairwise.nil, (fun k => by rw [HW.out]; simp), by rw [HW.out]; cases s.down <;> rfl⟩ (World.ownsRow_nil _ _ _ _) hrow (fun g e => by cases e) (fun g e => by have h := hnew g e; have h' : (bx w q).heap.size ≤ g := h; omega) (fun g e => by cases e) (fun g e => by have h := hnew g e; have h' : (bx w q).heap.size ≤ g := h; omega)
       generalize (if s.down then [] else s.bytes q.seg).length = ln at *
       generalize s.find q.seg = cd at *
       clear hk hk' hrow hnew hz
       have r0 := cell_blk r3 0 (v := .int .i64 0) rfl
       have r1 := cell_blk r3 1 (v := .int .i64 0) rfl
       have r2 := cell_blk r3 2 (v := .bool false) rfl
       have r4 := cell_blk r3 3 (v := .slice none 0 0) rfl
       have r5 := cell_blk r3 4 (v := .slice none 0 0) rfl
       have f0 := frozen_blk r3 0
       have f1 := frozen_blk r3 1
       have f2 := frozen_blk r3 2
       have f3 := frozen_blk r3 3
       have f4 := frozen_blk r3 4
       have HR := hide r3
       clear r3))
  exact bodyPost_ret (res_told rfl _ _ (w.heap.size + 1) _ _ _ _ _ rfl (put5_blk HR.out _ _ _ _ _)) rfl HE.out

set_option maxRecDepth 100000 in
set_option maxHeartbeats 4000000 in
theorem stepped_list2 (S : Nat → Prop) (w : World) (p : Nat) (s : St) (q : Stp) (h : DAt S w p s) (ok : Ok s) (hS : ∀ i, w.heap.size ≤ i → S i) (hq : StpOk w q) (hw : pickV q.what 12 = 10) :
    Calls Try.prog 10 #[.pointer (some ⟨p, 0, none⟩), q.val] w (StepFr S w p s q) := by
  have hpick := fun w => pick_any q.what 12 hq.what.1 hq.what.2 (by decide) (by decide) w
  rw [hw] at hpick
  have HPk := hide hpick
  have HW := hide hw
  have HB := hide (boxed h hS hq)
  have HS := hide hS
  have HC := hide (list_any (Sx S w) (bx w q) p s HB.out.d ok)
  unfold bx at HC
  unfold Stp.val
  clear hpick hw h ok hS hq
  go_enter Try.func10, Try.ntmps10
  go_wp2_with (first
    | (go_at_call 7; refine (HPk.out _).mono ?_; rintro e w1 ⟨rfl, rfl⟩)
    | (go_at_call 28
       refine HC.out.mono ?_
       rintro e w3 ⟨v, ks, rfl, hsrt, hmem, hown, hk⟩
       have r3 := hk.blk HB.out.r fun f => f
       obtain ⟨va, vc, hv⟩ := ownsRow_shape hown
       subst hv
       have hz : (bx w q).heap.size = w.heap.size + 2 := by unfold bx; rw [alloc_size, alloc_size]
       have HE : Hid (StepFr S w p s q (.returned (.agg #[.int .i64 (if s.down then 56 else 0), .int .i64 0, .bool false, .slice va ks.length vc, .slice none 0 0])) (put5 w3 (w.heap.size + 1) (.int .i64 (if s.down then 56 else 0)) (.int .i64 0) (.bool false) (.slice va ks.length vc) (.slice none 0 0))) := told_end2 HB.out HS.out (hk.mono fun _ f => f.elim) (HB.out.d.stay hk fun _ _ _ f => f) (by unfold StepTo; rw [HW.out]; simp) ⟨by rw [HW.out]; simp, by rw [HW.out]; simp, hsrt, (fun k => by rw [HW.out, hmem k]; simp), by rw [HW.out]; simp⟩ (ownsRow_base hown (Nat.zero_le _)) (row_nil _) (fun g e => by have h := (hown.lt g e).1; have h' : (bx w q).heap.size ≤ g := h; omega) (fun g e => by cases e) (fun g e => by have h := (hown.lt g e).1; have h' : (bx w q).heap.size ≤ g := h; omega) (fun g e => by cases e)
       generalize (if s.down then (56 : Int) else 0) = cd at *
       clear hk hown hz
       have r0 := cell_blk r3 0 (v := .int .i64 0) rfl
       have r1 := cell_blk r3 1 (v := .int .i64 0) rfl
       have r2 := cell_blk r3 2 (v := .bool false) rfl
       have r4 := cell_blk r3 3 (v := .slice none 0 0) rfl
       have r5 := cell_blk r3 4 (v := .slice none 0 0) rfl
       have f0 := frozen_blk r3 0
       have f1 := frozen_blk r3 1
       have f2 := frozen_blk r3 2
       have f3 := frozen_blk r3 3
       have f4 := frozen_blk r3 4
       have HR := hide r3
       clear r3))
  exact bodyPost_ret (res_told rfl _ _ (w.heap.size + 1) _ _ _ _ _ rfl (put5_blk HR.out _ _ _ _ _)) rfl HE.out

theorem stepped_fr (S : Nat → Prop) (w : World) (p : Nat) (s : St) (q : Stp) {n : Nat} (h : DAt S w p s) (g : Good n s) (hn : n ≤ 70368744177664) (hS : ∀ i, w.heap.size ≤ i → S i) (hq : StpOk w q) (hout : q.out S) :
    Calls Try.prog 10 #[.pointer (some ⟨p, 0, none⟩), q.val] w (StepFr S w p s q) := by
  by_cases g5 : pickV q.what 12 = 5
  · exact stepped_read2 S w p s q h (g.ok hn) hS hq g5
  by_cases g10 : pickV q.what 12 = 10
  · exact stepped_list2 S w p s q h (g.ok hn) hS hq g10
  refine (stepped_any S w p s q h g hn hS hq hout).mono fun e w' ⟨c, N, is, vl, vb, ks, bs, t, h1, h2, h3, h4, h5, h6, h7⟩ => ⟨c, N, is, vl, vb, ks, bs, t, h1, h2, h3, h4, h5, h6, h7, fun hne => ?_, fun hne => ?_⟩
  · obtain ⟨k, r, rfl⟩ := List.exists_cons_of_ne_nil hne
    exact absurd ((h3.mem k).1 List.mem_cons_self).1 g10
  · exact absurd (by rw [h3.bs, if_neg fun e => g5 e.1]) hne
end DP
end Go.Proofs.Ytilpidioengnbaa

/- DiskPlays: two answers that are alike. -/
namespace Go.Proofs.Ytilpidioengnbaa
namespace DP
open Go.RowKit Go.Lib

theorem rz_at {w : World} {a : Option Addr} {n : Nat} {z : List Int} (h : Rz w a n z) (i : Nat) (hi : i < n) : ∃ b off, a = some ⟨b, off, none⟩ ∧ w.cell? ⟨b, off + i, none⟩ = some (.int .i64 (z.getD i 0)) := by
  rcases h.2.2.2 with h0 | ⟨b, off, e, hc⟩
  · omega
  · exact ⟨b, off, e, hc i hi⟩
set_option maxRecDepth 100000 in
set_option maxHeartbeats 4000000 in
theorem ints_same (w : World) (a b : Option Addr) (n c d : Nat) (z : List Int) (h1 : Rz w a n z) (h2 : Rz w b n z) :
    Calls Try.prog 43 #[.slice a n c, .slice b n d] w fun e w' => e = .returned (.bool true) ∧ ∃ m, w' = w.drewN m := by
  have H1 := hide fun j hj => rz_at h1 j hj
  have H2 := hide fun j hj => rz_at h2 j hj
  have hl := h1.2.1
  clear h1 h2
  go_enter Try.func43, Try.ntmps43
  go_wp2
  go_loopw [5] (fun i wx => ∃ k m : Nat, k ≤ n ∧ i = .int .i64 (k : Nat) ∧ wx = w.drewN m) (fun i _ => n - (intOf i).toNat)
  case atStart => exact ⟨0, 0, Nat.zero_le _, rfl, rfl⟩
  case round =>
    obtain ⟨k, m, hk, rfl, rfl⟩ := hrel
    by_cases hlt : k < n
    · obtain ⟨g, o, rfl, g1⟩ := H1.out k hlt
      obtain ⟨g', o', rfl, g1'⟩ := H2.out k hlt
      generalize z.getD k 0 = x at *
      go_wp2
      go_region
      all_goals go_wp2
      all_goals exact ⟨⟨k + 1, m + 1, by omega, by go_num, rfl⟩, by simp [intOf]; omega⟩
    · go_wp2
      go_ret
      exact ⟨rfl, m, rfl⟩
set_option maxRecDepth 100000 in
set_option maxHeartbeats 4000000 in
theorem same_any (w : World) (c N : Int) (is : Bool) (a1 a2 b1 b2 : Option Addr) (n m c1 c2 d1 d2 : Nat) (z : List Int) (l : List Nat) (h1 : Rz w a1 n z) (h2 : Rz w a2 n z) (h3 : Rd w b1 m l) (h4 : Rd w b2 m l) :
    Calls Try.prog 12 #[.agg #[.int .i64 c, .int .i64 N, .bool is, .slice a1 n c1, .slice b1 m d1], .agg #[.int .i64 c, .int .i64 N, .bool is, .slice a2 n c2, .slice b2 m d2]] w fun e w' => e = .returned (.bool true) ∧ Keep (fun _ => False) w w' := by
  obtain ⟨w1, hw1⟩ : ∃ w1, w1 = (w.alloc (.cells #[.int .i64 c, .int .i64 N, .bool is, .slice a1 n c1, .slice b1 m d1] 40)).alloc (.cells #[.int .i64 c, .int .i64 N, .bool is, .slice a2 n c2, .slice b2 m d2] 40) := ⟨_, rfl⟩
  have k1 : Keep (fun _ => False) w w1 := by rw [hw1]; exact (Keep.alloc _ _ _).more (Keep.alloc _ _ _)
  have HI := hide (ints_same w1 a1 a2 n c1 c2 z (h1.stay k1 fun _ _ _ _ f => f) (h2.stay k1 fun _ _ _ _ f => f))
  have hk2 : ∀ j, Keep (fun _ => False) w (w1.drewN j) := fun j => k1.more ⟨rfl, rfl, rfl, Nat.le_refl _, fun _ _ _ => rfl⟩
  have z1 := fun j => conv_rd (h3.stay (hk2 j) fun _ _ _ f => f) d1
  have z2 := fun j => conv_rd (h4.stay (hk2 j) fun _ _ _ f => f) d2
  have HK := hide hk2
  have HW := hide hw1
  generalize str l = S at *
  have b0 : w1.heap[w.heap.size]? = some (.cells #[.int .i64 c, .int .i64 N, .bool is, .slice a1 n c1, .slice b1 m d1] 40 (0, 0)) := by rw [hw1]; exact (Keep.alloc (fun _ => False) _ _).blk (heap_alloc_new w _) fun f => f
  have b1' : w1.heap[w.heap.size + 1]? = some (.cells #[.int .i64 c, .int .i64 N, .bool is, .slice a2 n c2, .slice b2 m d2] 40 (0, 0)) := by
    have := heap_alloc_new (w.alloc (.cells #[.int .i64 c, .int .i64 N, .bool is, .slice a1 n c1, .slice b1 m d1] 40)) (.cells #[.int .i64 c, .int .i64 N, .bool is, .slice a2 n c2, .slice b2 m d2] 40)
    rw [alloc_size] at this
    rw [hw1]
    exact this
  have hcc : (c == c) = true := by simp
  have hNN : (N == N) = true := by simp
  have hii : (is == is) = true := by simp
  have hSS : (S.toList == S.toList) = true := by simp
  have x4 := cell_blk b0 4 (v := .slice b1 m d1) rfl
  have y4 := cell_blk b1' 4 (v := .slice b2 m d2) rfl
  clear h1 h2 h3 h4 k1 hk2 hw1 b0 b1'
  go_enter Try.func12, Try.ntmps12
  go_wp2_with (go_at_call 43; simp only [← HW.out]; refine HI.out.mono ?_; rintro e w2 ⟨rfl, j, rfl⟩)
  go_ret
  exact ⟨by simp, HK.out j⟩
end DP
end Go.Proofs.Ytilpidioengnbaa
