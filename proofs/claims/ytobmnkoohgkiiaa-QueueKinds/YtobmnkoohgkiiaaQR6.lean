/- Package queue, things of two parts: Push. -/
import Derived.Test.YtobmnkoohgkiiaaQR5
import Derived.Test.YtobmnkoohgkiiaaQPus
import Derived.BigQuiet
namespace Go.Proofs.Ytobmnkoohgkiiaa
namespace Qu
open Go.RowKit

theorem three_new (w : World) (a b c : Value) (t : TypeId) (j : Nat) (u : Value) (hu : [a, b, c][j]? = some u) : (w.alloc (.cells #[a, b, c] t)).drew.cell? ((⟨w.heap.size, 0, none⟩ : Addr).add j) = some u := by
  rw [Addr.add_mid, Nat.zero_add]
  exact cell_blk (w := w.alloc (.cells #[a, b, c] t)) (heap_alloc_new _ _) j (by simpa using hu)
set_option maxRecDepth 100000 in
set_option maxHeartbeats 4000000 in
theorem pushF {S : Nat → Prop} {P : Nat} {s : St _} (k : Rk) (w : World) (h : QAt KF S w P s) (hlast : s.last < 9007199254740990) :
    Calls Try.prog 34 #[.pointer (some ⟨P, 0, none⟩), KF.enc k] w (Pushd KF S w P s k) := by
  obtain ⟨w1, hw1⟩ : ∃ w1, w1 = w.alloc (.cells #[.int .i64 k.1.1, .int .i64 k.1.2] 36) := ⟨_, rfl⟩
  have k1 : Keep (fun _ => False) w w1 := by rw [hw1]; exact Keep.alloc _ _ _
  have bx : w1.heap[w.heap.size]? = some (.cells #[.int .i64 k.1.1, .int .i64 k.1.2] 36 (0, 0)) := by rw [hw1]; exact heap_alloc_new _ _
  have hPw : P < w.heap.size := by obtain ⟨_, _, m, v, hh⟩ := h; exact lt_blk hh.blk
  have x0 := cell_blk bx 0 (v := .int .i64 k.1.1) rfl
  have x1 := cell_blk bx 1 (v := .int .i64 k.1.2) rfl
  obtain ⟨hok, hks, m, v, h0⟩ := h
  have hm := h0.ltm
  have h := h0.stay k1 fun _ _ _ f => f
  have hlen := Nat.le_trans hok.len hok.pl
  have hpl := hok.pl
  have c2 := h.c2
  have K1 := hide k1
  have BX := hide bx
  have HQ := hide h
  have HOk := hide hok
  have HKs := hide hks
  have hBP : w.heap.size ≠ P := by omega
  have hBm : w.heap.size ≠ m := by omega
  rcases h.look okF (k := k) trivial with ⟨hn, hl⟩ | ⟨n, hn, hl⟩
  · obtain ⟨a, cap, rfl, hc, _⟩ := h.row.shape
    by_cases hf : s.places ≤ s.row.length
    · have e1 : pushR s k = (0, 82) := by simp [pushR, hn, hf]
      have e2 : s.pushed k = s := by simp [St.pushed, hn, hf]
      have hf' : (s.places : Int) ≤ (s.row.length : Int) := by omega
      unfold Pushd
      rw [e1, e2]
      have HN := hide hn
      have hl' := hl
      unfold KF at hl'
      show Calls Try.prog 34 #[.pointer (some ⟨P, 0, none⟩), .agg #[.int .i64 k.1.1, .int .i64 k.1.2]] w _
      clear h h0 hok hks hl k1 bx hn e1 e2
      go_enter Try.func34, Try.ntmps34
      go_upto_region 1 with fail
      rw [← hw1]
      clear hw1
      go_quiet (fail)
      obtain ⟨wq, hwq⟩ : ∃ x, x = w1.drewN nq := ⟨_, rfl⟩
      rw [← hwq]
      have kq : Keep (fun _ => False) w1 wq := by rw [hwq]; exact ⟨rfl, rfl, rfl, Nat.le_refl _, fun _ _ _ => rfl⟩
      have h := HQ.out.stay kq fun _ _ _ f => f
      have KQ := hide (K1.out.more kq)
      have BQ := hide (kq.blk BX.out fun f => f)
      have x0 := cell_blk BQ.out 0 (v := .int .i64 k.1.1) rfl
      have x1 := cell_blk BQ.out 1 (v := .int .i64 k.1.2) rfl
      clear hwq kq c2 hl'
      have c0 := h.c0
      have c3 := h.c3
      have HH := hide h
      clear h
      go_wp2_with fail
      go_region
      go_wp2
      go_ret2
      exact ⟨rfl, ⟨HOk.out, HKs.out, m, _, (HH.out.stay (Keep.drew (fun _ => False) _) fun _ _ _ f => f).mono fun i e => .inl e⟩, (KQ.out.more (Keep.drew _ _)).mono fun _ f => f.elim⟩
    · have e1 : pushR s k = (s.last + 1, 0) := by simp [pushR, hn, hf]
      have e2 : s.pushed k = s.push k := by simp [St.pushed, hn, hf]
      have hf' : ¬ ((s.places : Int) ≤ (s.row.length : Int)) := by omega
      have hcq : ((s.last + 1 : Nat) : Int) = (s.last : Int) + 1 := by omega
      unfold Pushd
      rw [e1, e2]
      simp only
      rw [hcq]
      have HN := hide hn
      have hl' := hl
      unfold KF at hl'
      show Calls Try.prog 34 #[.pointer (some ⟨P, 0, none⟩), .agg #[.int .i64 k.1.1, .int .i64 k.1.2]] w _
      clear h h0 hok hks hl k1 bx hn e1 e2
      go_enter Try.func34, Try.ntmps34
      go_upto_region 1 with fail
      rw [← hw1]
      clear hw1
      go_quiet (fail)
      obtain ⟨wq, hwq⟩ : ∃ x, x = w1.drewN nq := ⟨_, rfl⟩
      rw [← hwq]
      have kq : Keep (fun _ => False) w1 wq := by rw [hwq]; exact ⟨rfl, rfl, rfl, Nat.le_refl _, fun _ _ _ => rfl⟩
      have h := HQ.out.stay kq fun _ _ _ f => f
      have KQ := hide (K1.out.more kq)
      have BQ := hide (kq.blk BX.out fun f => f)
      have x0 := cell_blk BQ.out 0 (v := .int .i64 k.1.1) rfl
      have x1 := cell_blk BQ.out 1 (v := .int .i64 k.1.2) rfl
      clear hwq kq c2 hl'
      have hszq := KQ.out.size
      have c0 := h.c0
      have c1 := h.c1
      have c2 := h.c2
      have c3 := h.c3
      have f1 := h.fz 1
      obtain ⟨wA, hwA⟩ : ∃ wA, wA = (wq.setCell ⟨P, 1, none⟩ (.int .i64 ((s.last : Int) + 1))).drew := ⟨_, rfl⟩
      have hqd : QIn KF S wq.drew P m _ s := ⟨h.blk, h.mp.of_blk rfl, h.row.far (Keep.drew (fun _ => False) wq) (fun _ _ f => f), h.sp, h.sm⟩
      have kA : Keep (fun i => i = P) wq.drew wA := by rw [hwA]; exact keep_cell wq.drew P 1 _
      obtain ⟨w2, hst, m2, k2, s2⟩ := ((hqd.mp.keep kA (Ne.symm h.ePm)).of_blk (w' := wA.drew) rfl).store okF okF.um (k := k) trivial (by omega) (s.last + 1)
      have b1 : wA.heap[P]? = some (.cells #[nv s.places, .int .i64 ((s.last : Int) + 1), .map (some m), .slice a s.row.length cap] KF.tq (0, 0)) := by rw [hwA]; exact (set_blk hqd.blk 1 _).trans rfl
      have b2 := k2.blk (w := wA.drew) b1 (fun e => h.ePm e)
      have bA := kA.blk (w := wq.drew) BQ.out hBP
      have bB := k2.blk (w := wA.drew) bA hBm
      obtain ⟨W, hW⟩ : ∃ W, W = (w2.alloc (.cells #[.int .i64 ((s.last : Int) + 1), .int .i64 k.1.1, .int .i64 k.1.2] KF.te)).drew := ⟨_, rfl⟩
      have k3 : Keep (fun _ => False) w2 W := by rw [hW]; exact (Keep.alloc _ _ _).more (Keep.drew _ _)
      have hrW : RowAt KF S W (.slice a s.row.length cap) s.row := ((hqd.row.far (kA) (fun i e1 e2 => h.eP okF (e2 ▸ e1))).far (w' := w2) (T := fun i => i = m) ((Keep.drew _ wA).more k2) (fun i e1 e2 => h.em (e2 ▸ e1))).far k3 (fun _ _ f => f)
      obtain ⟨g, off, cap', w4, hap, r4, k4⟩ := hrW.append okF (by omega) (B := w2.heap.size) (n := s.last + 1) (k := k) (c := 1) (fun j u hu => by rw [hW]; exact three_new w2 _ _ _ _ j u (by rw [← hcq]; exact hu)) 72
      have hgP : ∀ i, (Value.slice (some ⟨g, off, none⟩) (s.row.length + 1) cap').ownBlock = some i → i ≠ P := fun i e1 e2 => by
        obtain ⟨_, cs, hcs⟩ := r4.own e1
        have := k4.blk (k3.blk b2 fun f => f) (fun e => h.eP okF e)
        rw [e2, this] at hcs
        injection hcs with hcs
        injection hcs with _ hcs
        exact okF.ne hcs.symm
      have FIN := hide (hqd.put okF (by rw [hwA]; show _ = World.setCell _ _ (.int .i64 ((s.last + 1 : Nat) : Int)); rw [hcq]; rfl) m2 HN.out ((Keep.drew _ wA).more k2) k3 k4 r4 hgP)
      have hsz : wq.drew.heap.size = wq.heap.size := rfl
      rw [hsz] at FIN
      have c0' := cell_blk b1 0 (v := nv s.places) rfl
      have c1' := cell_blk b1 1 (v := .int .i64 ((s.last : Int) + 1)) rfl
      have c2' := cell_blk b1 2 (v := .map (some m)) rfl
      have xA0 := cell_blk bA 0 (v := .int .i64 k.1.1) rfl
      have xA1 := cell_blk bA 1 (v := .int .i64 k.1.2) rfl
      have z0 := cell_blk b2 1 (v := .int .i64 ((s.last : Int) + 1)) rfl
      have z3' := cell_blk b2 3 (v := .slice a s.row.length cap) rfl
      have xB0 := cell_blk bB 0 (v := .int .i64 k.1.1) rfl
      have xB1 := cell_blk bB 1 (v := .int .i64 k.1.2) rfl
      have y1 : w4.cell? ⟨P, 1, none⟩ = some (.int .i64 ((s.last : Int) + 1)) := by rw [← hcq]; exact cell_blk FIN.out.2.2 1 (v := nv (s.last + 1)) rfl
      have y3 := cell_blk FIN.out.2.2 3 (v := .slice a s.row.length cap) rfl
      have y3f := frozen_blk FIN.out.2.2 3
      have HO := hide (HOk.out.push HN.out (by omega))
      have HKs2 : Hid (∀ e ∈ (s.push k).row, KF.ok e.2) := fun e he => trivial
      have z1 : W.cell? ⟨P, 1, none⟩ = some (.int .i64 ((s.last : Int) + 1)) := k3.cell z0 fun f => f
      have z3 : W.cell? ⟨P, 3, none⟩ = some (.slice a s.row.length cap) := k3.cell z3' fun f => f
      have zB0 : W.cell? ⟨w.heap.size, 0, none⟩ = some (.int .i64 k.1.1) := k3.cell xB0 fun f => f
      have zB1 : W.cell? ⟨w.heap.size, 1, none⟩ = some (.int .i64 k.1.2) := k3.cell xB1 fun f => f
      rw [hW] at hap z1 z3 zB0 zB1
      have HAP := hide hap
      clear hap
      rw [show nv (s.last + 1) = .int .i64 ((s.last : Int) + 1) by unfold nv; rw [hcq]] at hst
      have HWA := hide hwA
      unfold KF at hst HAP z1 z3 zB0 zB1
      clear h m2 k2 k3 k4 hrW hqd kA b1 b2 bA bB hW r4 hgP hsz s2 hcq hwA
      go_wp2_with fail
      go_region
      go_wp2_with fail
      rw [← HWA.out]
      go_region
      go_wp2_with fail
      go_region_law (refine step_append_run (by rfl) _ _ 72 (by rfl) _ _ (by rfl) (by rfl) HAP.out ?_)
      all_goals go_wp2
      all_goals go_ret2
      all_goals exact ⟨rfl, ⟨HO.out, HKs2.out, m, _, FIN.out.1.mono fun i e => e.imp (fun x => x) fun e => Nat.le_trans hszq e⟩, (KQ.out.mono fun _ f => f.elim).more ((Keep.drew _ _).more FIN.out.2.1)⟩
  · have e1 : pushR s k = (0, 81) := by simp [pushR, hn]
    have e2 : s.pushed k = s := by simp [St.pushed, hn]
    unfold Pushd
    rw [e1, e2]
    unfold KF at hl
    show Calls Try.prog 34 #[.pointer (some ⟨P, 0, none⟩), .agg #[.int .i64 k.1.1, .int .i64 k.1.2]] w _
    clear h h0 hok hks hn e1 e2 k1 bx
    go_enter Try.func34, Try.ntmps34
    go_upto_region 1 with fail
    rw [← hw1]
    clear hw1
    go_quiet (fail)
    have KD : Keep (fun _ => False) w1 (w1.drewN nq) := ⟨rfl, rfl, rfl, Nat.le_refl _, fun _ _ _ => rfl⟩
    have HKD := hide KD
    clear KD
    go_wp2
    go_ret2
    exact ⟨rfl, ⟨HOk.out, HKs.out, m, v, (HQ.out.stay HKD.out fun _ _ _ f => f).mono fun i e => .inl e⟩, (K1.out.more HKD.out).mono fun _ f => f.elim⟩
end Qu
end Go.Proofs.Ytobmnkoohgkiiaa
