/- QueueAhead: along All the numbers rise; each thing comes off behind just as many as stand ahead of it. -/
import Derived.Test.YtcopldjnkngjcabQPai
import Derived.Deep.QuietTactic
namespace Go.Proofs.Ytcopldjnkngjcab
namespace Qu
open Go.RowKit

/-- so many popped -/
def dropS (s : St Int) (j : Nat) : St Int := { s with row := s.row.drop j }
theorem dropS_take (s : St Int) (j : Nat) : (dropS s j).take 0 = dropS s (j + 1) := by
  unfold dropS St.take
  simp only [St.mk.injEq, true_and]
  rw [List.eraseIdx_zero, List.tail_drop]
theorem dropS_front {s : St Int} {j n : Nat} {k : Int} (h : s.row[j]? = some (n, k)) : frN (dropS s j) = k ∧ (dropS s j).row.isEmpty = false := by
  have hj : j < s.row.length := (List.getElem?_eq_some_iff.1 h).1
  have hr : (dropS s j).row = (n, k) :: s.row.drop (j + 1) := by
    unfold dropS
    simp only
    rw [← List.getElem_cons_drop hj, (List.getElem?_eq_some_iff.1 h).2]
  exact ⟨by simp [frN, hr], by simp [hr]⟩

theorem keep_drewN (w : World) (n : Nat) : Keep (fun _ => False) w (w.drewN n) := ⟨rfl, rfl, rfl, Nat.le_refl _, fun _ _ _ => rfl⟩

set_option maxRecDepth 100000 in
set_option maxHeartbeats 8000000 in
theorem ahead_walk (c : Int) (a : Option Addr) (n cc : Nat) (l : List Sp) (W : World) (h1 : -9223372036854775808 ≤ c) (h2 : c ≤ 9223372036854775807) (hl : RdQ W.heap.size W a n l) :
    Calls Try.prog 3 #[.int .i64 c, .slice a n cc] W fun e W' => e = .returned (.bool true) ∧ Below W.heap.size W W' := by
  have HL := hide hl
  have H12 := hide (And.intro h1 h2)
  clear hl h1 h2
  go_enter Try.func3, Try.ntmps3
  go_wp2_with fail
  go_at_call 4
  refine (known_any W).mono ?_
  rintro e w1 ⟨rfl, k1⟩
  have K1 := hide k1
  have HL1 := hide ((HL.out.keep k1 (fun _ _ f => f)).more k1.size)
  clear k1 HL
  go_wp2_with fail
  go_at_call 5
  refine (filled_any c a n cc l w1 H12.out.1 H12.out.2 HL1.out).mono ?_
  rintro e w2 ⟨P, n0, rfl, _, _, q2, k2⟩
  generalize runQ (fresh n0) l = s at q2
  have hok := q2.1
  have HOk := hide q2.1
  have HKs := hide q2.2.1
  have hlen := Nat.le_trans hok.len hok.pl
  have H2 : Hid (QAt KI (fun i => w1.heap.size ≤ i ∧ i < w2.heap.size) w2 P s) := q2
  have K2 := hide (K1.out.more k2)
  have hw12 := K1.out.size
  clear q2 k2 HL1 hok
  go_wp2_with fail
  go_at_call 6
  refine (whole_any w2 H2.out).mono ?_
  rintro e w3 ⟨ab, cb, rfl, r3, k3⟩
  rw [flat_pairs] at r3
  have HBo := hide r3
  have H3 := hide (H2.out.new k3)
  have K3 := hide (K2.out.more k3)
  have hsz3 := k3.size
  clear r3 k3
  generalize hNN : s.row.length * 2 = N at HBo ⊢
  have HNN := hide hNN
  have hNle : N ≤ 131072 := by omega
  clear hNN
  go_wp2
  go_loopw [8] (fun s8 wr => ∃ i j : Nat, s8 = .int .i64 (i : Nat) ∧ Hid (i = 2 * j) ∧ i ≤ N ∧ Hid (Keep (fun _ => False) w3 wr)) (fun s8 _ => N - (intOf s8).toNat)
  case atStart => exact ⟨0, 0, rfl, hide rfl, Nat.zero_le _, Keep.refl _ _⟩
  case round =>
    obtain ⟨i, j, rfl, HJ, hi, HK⟩ := hrel
    by_cases hlt : i + 1 < N
    · have hjl : j < s.row.length := by have := HJ.out; have := HNN.out; omega
      obtain ⟨⟨m, k⟩, hx⟩ : ∃ x, s.row[j]? = some x := ⟨s.row[j], by simp⟩
      have hB := RdZ.ofOwns (ownsRow_far HBo.out HK.out (fun _ _ f => f))
      obtain ⟨g, off, rfl, x1⟩ := hB.rd (j * 2 + 1) k (pairs_at hx).2
      obtain ⟨g', off', e', x0⟩ := hB.rd (j * 2) (m : Int) (pairs_at hx).1
      injection e' with e'
      injection e' with e1 e2
      subst e1 e2
      rw [Nat.mul_comm j 2, ← HJ.out] at x0 x1
      have hmem := List.mem_of_getElem? hx
      have hm1 := (HOk.out.num _ hmem).1
      have hidx : aheadR s.row k = (j, 0) := by simp [aheadR, get_idx HOk.out.nd hx]
      have AH := hide (aheadI k wr (H3.out.new HK.out) (HKs.out _ hmem))
      rw [hidx] at AH
      have hdiv : ((i : Nat) : Int) / 2 = (j : Int) := by have := HJ.out; omega
      have hm1' : ¬ ((m : Int) < 1) := by simp at hm1; omega
      have hlt' : (i : Int) + 1 < (N : Int) := by omega
      have hi0 : i < N := by omega
      have hcb := hB.cap
      rcases Nat.eq_zero_or_pos j with hj0 | hj0
      · have hgn : (0 < i) = False := by simp; have := HJ.out; omega
        have hgd : decide (0 < i) = false := by simp; have := HJ.out; omega
        clear hx hB hmem hm1 hidx hj0
        go_wp2_with (go_at_call 7; refine AH.out.mono ?_; rintro e w4 ⟨rfl, k4⟩; have y0 := k4.cell x0 fun f => f; have y1 := k4.cell x1 fun f => f; have K4 := hide k4; clear k4)
        go_region
        clear hgn hgd
        go_wp2
        go_roundw
        · exact ⟨i + 2, j + 1, rfl, by show _ = _; have := HJ.out; omega, by have := HJ.out; have := HNN.out; omega, HK.out.more (K4.out.more (Keep.drew _ _))⟩
        · show N - ((i : Int) + 2).toNat < N - (i : Int).toNat
          omega
      · obtain ⟨⟨m', k'⟩, hx'⟩ : ∃ x, s.row[j - 1]? = some x := ⟨s.row[j - 1], by simp⟩
        have hmm := HOk.out.lt (by omega) hx' hx
        obtain ⟨g', off', e', xm⟩ := hB.rd ((j - 1) * 2) (m' : Int) (pairs_at hx').1
        injection e' with e'
        injection e' with e1 e2
        subst e1 e2
        obtain ⟨t, rfl⟩ : ∃ t, i = t + 2 := ⟨i - 2, by have := HJ.out; omega⟩
        rw [show (j - 1) * 2 = t by have := HJ.out; omega] at xm
        have hmm' : ¬ ((m : Int) ≤ (m' : Int)) := by simp at hmm; omega
        have hme : (m ≤ m') = False := by simp; omega
        have hmd : decide (m ≤ m') = false := by simp; omega
        have hmz : (m = 0) = False := by simp; omega
        have htN : t < N := by omega
        have hcast : ((t + 2 : Nat) : Int) = (t : Int) + 2 := by omega
        have hpos : 0 < t + 2 := by omega
        have hposI : (0 : Int) < (t : Int) + 2 := by omega
        have hi2 : (t : Int) + 2 < (N : Int) := by omega
        have hi3 : (0 : Int) ≤ (t : Int) + 2 := by omega
        have hi4 : ((t : Int) + 2).toNat = t + 2 := by omega
        rw [hcast] at hdiv hlt'
        clear hx hB hmem hm1 hidx hj0 hx' hmm hcast
        go_wp2_with (go_at_call 7; refine AH.out.mono ?_; rintro e w4 ⟨rfl, k4⟩; have y0 := k4.cell x0 fun f => f; have y1 := k4.cell x1 fun f => f; have ym := k4.cell xm fun f => f; have K4 := hide k4; clear k4)
        have htd : ((t : Int) + 2).tdiv 2 = (j : Int) := by rw [Int.tdiv_eq_ediv_of_nonneg (by omega)]; exact hdiv
        have hwj : IntKind.i64.wrap (j : Int) = (j : Int) := wrapI (by omega)
        have hwt : IntKind.i64.wrap (t : Int) = (t : Int) := wrapI (by omega)
        go_quiet (fail)
        clear htd hwj hwt hme hmd hmz
        go_wp2
        go_roundw
        · exact ⟨t + 2 + 2, j + 1, rfl, by show _ = _; have := HJ.out; omega, by have := HJ.out; have := HNN.out; omega, HK.out.more (K4.out.more (keep_drewN _ _))⟩
        · show N - ((t : Int) + 2 + 2).toNat < N - ((t : Int) + 2).toNat
          omega
    · obtain ⟨_, _, m9, v9, q9⟩ := H3.out.new HK.out
      have LN := hide (lenI wr q9)
      have hN2 : 2 * (s.row.length : Int) = (N : Int) := by have := HNN.out; omega
      have HBo4 := hide (ownsRow_far HBo.out HK.out (fun _ _ f => f))
      have H4 : Hid (QAt KI (fun i => w1.heap.size ≤ i ∧ i < w2.heap.size) wr P (dropS s 0)) := H3.out.new HK.out
      have K4 := hide (K3.out.more HK.out)
      have hsz4 := HK.out.size
      have hs2 : w2.heap.size ≤ wr.heap.size := by omega
      clear q9 HJ
      generalize hwr : wr = w4 at *
      clear hwr
      go_wp2_with (go_at_call 8; refine LN.out.mono ?_; rintro e w8 ⟨rfl, rfl⟩)
      clear hN2 LN
      go_loopw [11] (fun s11 wx => ∃ i j : Nat, s11 = .int .i64 (i : Nat) ∧ Hid (i = 2 * j) ∧ i ≤ N ∧ Hid (QAt KI (fun i => w1.heap.size ≤ i ∧ i < w2.heap.size) wx P (dropS s j) ∧ Keep (fun i => w1.heap.size ≤ i ∧ i < w2.heap.size) w8 wx)) (fun s11 _ => N - (intOf s11).toNat)
      case atStart => exact ⟨0, 0, rfl, hide rfl, Nat.zero_le _, H4.out, Keep.refl _ _⟩
      case round =>
        obtain ⟨i, j, rfl, HJ, hi, HQ⟩ := hrel
        by_cases hlt : i + 1 < N
        · have hjl : j < s.row.length := by have := HJ.out; have := HNN.out; omega
          obtain ⟨⟨m, k⟩, hx⟩ : ∃ x, s.row[j]? = some x := ⟨s.row[j], by simp⟩
          have hB := RdZ.ofOwns (ownsRow_far HBo4.out HQ.out.2 (fun q e1 e2 => by have := e2.2; omega))
          obtain ⟨g, off, rfl, x1⟩ := hB.rd (j * 2 + 1) k (pairs_at hx).2
          rw [Nat.mul_comm j 2, ← HJ.out] at x1
          have hcb := hB.cap
          obtain ⟨_, _, m9, v9, q9⟩ := HQ.out.1
          have FR := hide (frontI wr q9)
          have PP := hide (popI wr HQ.out.1)
          rw [dropS_take, frontV_I, (dropS_front hx).1, (dropS_front hx).2] at PP
          rw [frontV_I, (dropS_front hx).1, (dropS_front hx).2] at FR
          have hlt' : (i : Int) + 1 < (N : Int) := by omega
          clear hx hB q9
          go_wp2_with (first
            | (go_at_call 10; refine PP.out.mono ?_; rintro e w9 ⟨rfl, q5, k5⟩
               have z1 := k5.cell x1 (fun e => by have h1 : w2.heap.size ≤ g := (HBo4.out.lt g rfl).1; have h2 : g < w2.heap.size := e.2; omega)
               have Q5 := hide q5; have K5 := hide k5; clear q5 k5)
            | (go_at_call 9; refine FR.out.mono ?_; rintro e w8 ⟨rfl, rfl⟩))
          go_roundw
          · exact ⟨i + 2, j + 1, rfl, by show _ = _; have := HJ.out; omega, by have := HJ.out; have := HNN.out; omega, Q5.out, HQ.out.2.more K5.out⟩
          · show N - ((i : Int) + 2).toNat < N - (i : Int).toNat
            omega
        · have hjn : s.row.length ≤ j := by have := HJ.out; have := HNN.out; omega
          have hr0 : (dropS s j).row = [] := List.drop_eq_nil_of_le hjn
          have PP := hide (popI wr HQ.out.1)
          rw [dropS_take, frontV_I, hr0, show frN (dropS s j) = 0 by simp [frN, hr0]] at PP
          have hr1 : (dropS s (j + 1)).row = [] := List.drop_eq_nil_of_le (by omega)
          have HR1 := hide hr1
          have hlt' : ¬ ((i : Int) + 1 < (N : Int)) := by omega
          clear hr0 hr1 hjn
          go_wp2_with (first
            | (go_at_call 10; refine PP.out.mono ?_; rintro e w9 ⟨rfl, q5, k5⟩
               obtain ⟨_, _, m6, v6, q6⟩ := q5
               have LN := hide (lenI w9 q6)
               rw [HR1.out] at LN
               have K5 := hide k5; clear k5 q6)
            | (go_at_call 8; refine LN.out.mono ?_; rintro e w8 ⟨rfl, rfl⟩))
          go_ret
          exact ⟨rfl, ((K4.out.trans HQ.out.2 fun q e => .inr (Nat.le_trans hw12 e.1)).trans K5.out fun q e => .inr (Nat.le_trans hw12 e.1)).below (Nat.le_refl _) fun _ f => f.elim⟩

end Qu
end Go.Proofs.Ytcopldjnkngjcab
