/- Package queue, things of two parts: Pop, Remove. -/
import Derived.Test.YtobmnkoohgkiiaaQR4
import Derived.Test.YtobmnkoohgkiiaaQOps
namespace Go.Proofs.Ytobmnkoohgkiiaa
namespace Qu
open Go.RowKit

theorem frontV_F (s : St Rk) : ∃ a b : Int, frontV KF (.agg #[.int .i64 0, .int .i64 0]) s = .agg #[.int .i64 a, .int .i64 b] := by
  unfold frontV
  split
  · exact ⟨_, _, rfl⟩
  · exact ⟨_, _, rfl⟩
set_option maxRecDepth 100000 in
set_option maxHeartbeats 4000000 in
theorem popF {S : Nat → Prop} {P : Nat} {s : St _} (w : World) (h : QAt KF S w P s) (hS : ∀ i, S i → i < w.heap.size) :
    Calls Try.prog 35 #[.pointer (some ⟨P, 0, none⟩)] w fun e w' => e = .returned (.tuple #[frontV KF (.agg #[.int .i64 0, .int .i64 0]) s, .bool (!s.row.isEmpty)]) ∧ QAt KF S w' P (s.take 0) ∧ Keep S w w' := by
  obtain ⟨w1, hw1⟩ : ∃ w1, w1 = w.alloc (.cells #[.int .i64 0, .int .i64 0] 36) := ⟨_, rfl⟩
  have k1 : Keep (fun _ => False) w w1 := by rw [hw1]; exact Keep.alloc _ _ _
  have b1 : w1.heap[w.heap.size]? = some (.cells #[.int .i64 0, .int .i64 0] 36 (0, 0)) := by rw [hw1]; exact heap_alloc_new _ _
  have H1 := hide (h.new k1)
  have FR := hide (frontF w1 H1.out.2.2.choose_spec.choose_spec)
  obtain ⟨a, b, hab⟩ := frontV_F s
  rw [hab] at FR ⊢
  have HS := hide hS
  have B1 := hide b1
  have K1 := hide k1
  clear h hS hab b1 k1
  cases hr : s.row with
  | nil =>
    have hs : s.take 0 = s := by cases s; simp at hr; subst hr; rfl
    rw [hr] at FR
    rw [hs]
    clear hs hr
    go_enter Try.func35, Try.ntmps35
    go_upto_region 1 with fail
    rw [← hw1]
    clear hw1
    go_wp2_with fail
    go_at_call 36
    refine FR.out.mono ?_
    rintro e w2 ⟨rfl, k2⟩
    have B2 := hide (k2.blk B1.out fun f => f)
    have H2 := hide (H1.out.new k2)
    have K2 := hide (K1.out.more k2)
    clear k2
    go_upto_region 4 with fail
    obtain ⟨w3, hw3⟩ : ∃ w3, w3 = w2.alloc (.cells #[.int .i64 a, .int .i64 b] 36) := ⟨_, rfl⟩
    have k3 : Keep (fun _ => False) w2 w3 := by rw [hw3]; exact Keep.alloc _ _ _
    have b4 : w3.heap[w2.heap.size]? = some (.cells #[.int .i64 a, .int .i64 b] 36 (0, 0)) := by rw [hw3]; exact heap_alloc_new _ _
    rw [← hw3]
    have b3 := k3.blk B2.out fun f => f
    have c0 := cell_blk b4 0 (v := .int .i64 a) rfl
    have c1 := cell_blk b4 1 (v := .int .i64 b) rfl
    have y0 := cell_blk b3 0 (v := .int .i64 0) rfl
    have y1 := cell_blk b3 1 (v := .int .i64 0) rfl
    have e0 := frozen_blk b3 0
    have e1 := frozen_blk b3 1
    have HB := hide (put2_blk b3 (.int .i64 a) (.int .i64 b))
    have kp := put2_keep w3 w.heap.size (.int .i64 a) (.int .i64 b)
    have HE : Hid (QAt KF S (put2 w3 w.heap.size (.int .i64 a) (.int .i64 b)) P s ∧ Keep S w (put2 w3 w.heap.size (.int .i64 a) (.int .i64 b))) := ⟨(H2.out.new k3).stay kp fun i _ e1 e2 => by have := HS.out i e1; have e2 : i = w.heap.size := e2; omega, ((K2.out.more k3).trans kp fun i e => .inr (Nat.le_of_eq e.symm)).mono fun _ f => f.elim⟩
    clear hw3 k3 b4 b3 kp
    go_wp2
    exact bodyPost_ret (res_ref rfl _ _ w.heap.size _ _ rfl HB.out) rfl ⟨rfl, HE.out⟩
  | cons e t =>
    have HG : Hid (s.row[0]? = some (e.1, e.2)) := by rw [hr]; rfl
    rw [hr] at FR
    clear hr
    go_enter Try.func35, Try.ntmps35
    go_upto_region 1 with fail
    rw [← hw1]
    clear hw1
    go_wp2_with fail
    go_at_call 36
    refine FR.out.mono ?_
    rintro e' w2 ⟨rfl, k2⟩
    have B2 := hide (k2.blk B1.out fun f => f)
    have H2 := hide (H1.out.new k2)
    have K2 := hide (K1.out.more k2)
    clear k2
    go_upto_region 3 with fail
    obtain ⟨w3, hw3⟩ : ∃ w3, w3 = w2.alloc (.cells #[.int .i64 a, .int .i64 b] 36) := ⟨_, rfl⟩
    have k3 : Keep (fun _ => False) w2 w3 := by rw [hw3]; exact Keep.alloc _ _ _
    have b4 : w3.heap[w2.heap.size]? = some (.cells #[.int .i64 a, .int .i64 b] 36 (0, 0)) := by rw [hw3]; exact heap_alloc_new _ _
    rw [← hw3]
    have TK := hide (takeF (i := 0) w3 (H2.out.new k3) HG.out)
    have B3 := hide (k3.blk B2.out fun f => f)
    have B4 := hide b4
    have K3 := hide (K2.out.more k3)
    clear hw3 k3 b4
    go_wp2_with fail
    go_at_call 52
    refine TK.out.mono ?_
    rintro e' w4 ⟨rfl, q4, k4⟩
    have hsz := K2.out.size
    have b5 := k4.blk B3.out fun e => Nat.lt_irrefl _ (HS.out _ e)
    have b6 := k4.blk B4.out fun e => by have := HS.out _ e; omega
    have c0 := cell_blk b6 0 (v := .int .i64 a) rfl
    have c1 := cell_blk b6 1 (v := .int .i64 b) rfl
    have y0 := cell_blk b5 0 (v := .int .i64 0) rfl
    have y1 := cell_blk b5 1 (v := .int .i64 0) rfl
    have e0 := frozen_blk b5 0
    have e1 := frozen_blk b5 1
    have HB := hide (put2_blk b5 (.int .i64 a) (.int .i64 b))
    have kp := put2_keep w4 w.heap.size (.int .i64 a) (.int .i64 b)
    have HE : Hid (QAt KF S (put2 w4 w.heap.size (.int .i64 a) (.int .i64 b)) P (s.take 0) ∧ Keep S w (put2 w4 w.heap.size (.int .i64 a) (.int .i64 b))) := ⟨q4.stay kp fun i _ e1 e2 => by have := HS.out i e1; have e2 : i = w.heap.size := e2; omega, ((K3.out.mono fun _ f => f.elim).more k4).trans kp fun i e => .inr (Nat.le_of_eq e.symm)⟩
    clear q4 k4 b5 b6 kp hsz
    go_wp2
    exact bodyPost_ret (res_ref rfl _ _ w.heap.size _ _ rfl HB.out) rfl ⟨rfl, HE.out⟩
set_option maxRecDepth 100000 in
set_option maxHeartbeats 4000000 in
theorem removeF {S : Nat → Prop} {P : Nat} {s : St _} (k : Rk) (w : World) (h : QAt KF S w P s) :
    Calls Try.prog 37 #[.pointer (some ⟨P, 0, none⟩), KF.enc k] w fun e w' => e = .returned (.int .i64 ((aheadR s.row k).2 : Nat)) ∧ QAt KF S w' P (s.remove k) ∧ Keep S w w' := by
  obtain ⟨w1, hw1⟩ : ∃ w1, w1 = w.alloc (.cells #[.int .i64 k.1.1, .int .i64 k.1.2] 36) := ⟨_, rfl⟩
  have k1 : Keep (fun _ => False) w w1 := by rw [hw1]; exact Keep.alloc _ _ _
  have b1 : w1.heap[w.heap.size]? = some (.cells #[.int .i64 k.1.1, .int .i64 k.1.2] 36 (0, 0)) := by rw [hw1]; exact heap_alloc_new _ _
  have x0 := cell_blk b1 0 (v := .int .i64 k.1.1) rfl
  have x1 := cell_blk b1 1 (v := .int .i64 k.1.2) rfl
  have H := hide (h.new k1)
  have AH := hide (aheadF k w1 H.out)
  have K1 := hide k1
  unfold KF at AH
  show Calls Try.prog 37 #[.pointer (some ⟨P, 0, none⟩), .agg #[.int .i64 k.1.1, .int .i64 k.1.2]] w _
  clear h k1 b1
  cases hi : idxL s.row k with
  | none =>
    have ha : aheadR s.row k = (0, 83) := by simp [aheadR, hi]
    have hs : s.remove k = s := by simp [St.remove, hi]
    rw [ha] at AH ⊢
    rw [hs]
    clear ha hs hi
    go_enter Try.func37, Try.ntmps37
    go_upto_region 1 with fail
    rw [← hw1]
    clear hw1
    go_wp2_with (go_at_call 38; refine AH.out.mono ?_; rintro e w2 ⟨rfl, k2⟩; have K2 := hide k2; clear k2)
    go_ret
    exact ⟨rfl, H.out.new K2.out, (K1.out.more K2.out).mono fun _ f => f.elim⟩
  | some i =>
    obtain ⟨n, hg, _⟩ := idx_get hi
    have ha : aheadR s.row k = (i, 0) := by simp [aheadR, hi]
    have hs : s.remove k = s.take i := by simp [St.remove, hi]
    rw [ha] at AH ⊢
    rw [hs]
    have HG := hide hg
    clear ha hs hi hg
    go_enter Try.func37, Try.ntmps37
    go_upto_region 1 with fail
    rw [← hw1]
    clear hw1
    go_wp2_with (first
      | (go_at_call 38; refine AH.out.mono ?_; rintro e w2 ⟨rfl, k2⟩; have K2 := hide k2; clear k2)
      | (go_at_call 52; refine (takeF w2 (H.out.new K2.out) HG.out).mono ?_; rintro e w3 ⟨rfl, q1, k1⟩; have Q3 := hide q1; have K3 := hide k1; clear q1 k1))
    go_ret
    exact ⟨rfl, Q3.out, ((K1.out.more K2.out).mono fun _ f => f.elim).more K3.out⟩
end Qu
end Go.Proofs.Ytobmnkoohgkiiaa
