/- PlanCycles: the walk. -/
import Derived.Test.YtcboeodnjnfamaaGWai
import Derived.Test.YtcboeodnjnfamaaGCyM
namespace Go.Proofs.Ytcboeodnjnfamaa
namespace Gr
open Go.RowKit

set_option maxRecDepth 100000 in
set_option maxHeartbeats 4000000 in
theorem cycles_walk (nm : ByteArray) (dl : Int) (s : Option Addr × Nat × Nat) (xs : List No) (w : World) (hP : RdP w.heap.size w s xs) (hs : Sz nm xs) (hc : Caps xs) :
    Calls Try.prog 8 #[.agg #[.string nm, .int .i64 dl, .slice s.1 s.2.1 s.2.2]] w fun e w' => e = .returned (.bool true) ∧ Below w.heap.size w w' := by
  obtain ⟨a, n, c⟩ := s
  have HN : Hid (n = xs.length) := hP.1
  have KW := hide (Keep.alloc (fun _ => False) w (.cells #[.string nm, .int .i64 dl, .slice a n c] 24))
  have BW := hide (heap_alloc_new w (.cells #[.string nm, .int .i64 dl, .slice a n c] 24))
  have HP := hide (hP.new KW.out)
  have HSz := hide hs
  clear hP hs
  go_enter Try.func8, Try.ntmps8
  go_wp2_with fail
  go_at_call 9
  refine (awake_any _).mono ?_
  rintro e w1 ⟨rfl, k1⟩
  generalize w.alloc (.cells #[.string nm, .int .i64 dl, .slice a n c] 24) = w0 at *
  have K1 := hide k1
  have b1 := k1.blk BW.out fun f => f
  have c0 := cell_blk b1 0 (v := .string nm) rfl
  have c1 := cell_blk b1 1 (v := .int .i64 dl) rfl
  have c2 := cell_blk b1 2 (v := .slice a n c) rfl
  have SM := hide (small_any nm dl _ _ _ _ (HP.out.new k1))
  clear k1 b1
  go_wp2_with fail
  go_at_call 10
  refine SM.out.mono ?_
  rintro e w2 ⟨⟨b, rfl, hb⟩, k2⟩
  have K2 := hide (K1.out.more k2)
  have c0 := k2.cell c0 fun f => f
  have c1 := k2.cell c1 fun f => f
  have c2 := k2.cell c2 fun f => f
  have HB := hide hb
  clear k2 hb SM
  cases b
  · go_wp2_with fail
    go_ret
    exact ⟨rfl, (KW.out.more K2.out).below (Nat.le_refl _) fun _ f => f.elim⟩
  have HED : Hid (edges xs ≤ 20000) := by have := HB.out rfl; exact Nat.le_trans (Nat.le_add_left _ _) this
  have hs0 : w.heap.size ≤ w0.heap.size := KW.out.size
  have CK := hide (check_any nm dl _ _ _ w2 (HP.out.new K2.out) (Nat.le_trans hs0 K2.out.size) HSz.out)
  go_wp2_with fail
  go_at_call 12
  refine CK.out.mono ?_
  rintro e w3 ⟨rfl, k3⟩
  have K3 := hide (K2.out.more k3)
  have c0 := k3.cell c0 fun f => f
  have c1 := k3.cell c1 fun f => f
  have c2 := k3.cell c2 fun f => f
  clear k3 CK
  have HCS := hide (chk_cases nm dl xs)
  generalize chk nm dl xs = R at *
  obtain ⟨r1, r2⟩ := R
  rcases HCS.out with ⟨hR, hl1, hv, hno⟩ | ⟨m, hR, hm, hv, hw1, hw2⟩ | ⟨hR1, hR2, hR3⟩
  · obtain ⟨rfl, rfl⟩ := Prod.mk.inj hR
    have HNO := hide hno
    have hn1 : 1 ≤ n := by have := HN.out; omega
    have hn64 : n ≤ 64 := by have := HN.out; have := hv.1; omega
    have WA := hide (fun (i : Nat) w' (hi : i < n) (k : Keep (fun _ => False) w0 w') => waits_any nm dl _ _ i i false _ w' (HP.out.new k) (Nat.le_trans hs0 k.size) hv hc (show i < xs.length by have := HN.out; omega) HED.out)
    clear hR hno hv HCS HB
    go_wp2_with fail
    go_loopw [7] (fun iv wr => ∃ i : Nat, iv = .int .i64 (i : Nat) ∧ i ≤ n ∧ wr.cell? ⟨w.heap.size, 0, none⟩ = some (.string nm) ∧ wr.cell? ⟨w.heap.size, 1, none⟩ = some (.int .i64 dl) ∧ wr.cell? ⟨w.heap.size, 2, none⟩ = some (.slice a n c) ∧ Hid (Keep (fun _ => False) w0 wr)) (fun iv _ => n - (intOf iv).toNat)
    case atStart => exact ⟨0, rfl, Nat.zero_le _, c0, c1, c2, K3.out⟩
    case round =>
      obtain ⟨i, rfl, hi, d0, d1, d2, HD⟩ := hrel
      by_cases hlt : i < n
      · have W1 := hide (WA.out i wr hlt HD.out)
        go_wp2_with fail
        go_at_call 26
        refine W1.out.mono ?_
        rintro e w4 ⟨⟨r, rfl, hr⟩, k4⟩
        have HD4 := hide (HD.out.more k4)
        have d0 := k4.cell d0 fun f => f
        have d1 := k4.cell d1 fun f => f
        have d2 := k4.cell d2 fun f => f
        have HRR := hide hr
        clear k4 hr W1
        cases r
        · have hne : ¬ ((i : Int) + 1 = 0) := by omega
          go_wp2_with fail
          go_roundw
          · exact ⟨i + 1, rfl, by omega, d0, d1, d2, HD4.out⟩
          · show n - ((i : Int) + 1).toNat < n - (i : Int).toNat
            omega
        · exact absurd (HRR.out.1 rfl) (HNO.out i)
      · obtain rfl : i = n := by omega
        go_wp2_with fail
        go_ret
        exact ⟨rfl, (KW.out.more HD.out).below (Nat.le_refl _) fun _ f => f.elim⟩
  · obtain ⟨rfl, rfl⟩ := Prod.mk.inj hR
    have HW1 := hide hw1
    have HW2 := hide hw2
    have hn1 : 1 ≤ n := by have := HN.out; omega
    have hn64 : n ≤ 64 := by have := HN.out; have := hv.1; omega
    have hmn : m < n := by have := HN.out; omega
    have WA := hide (fun (i : Nat) w' (hi : i < n) (k : Keep (fun _ => False) w0 w') => waits_any nm dl _ _ i i false _ w' (HP.out.new k) (Nat.le_trans hs0 k.size) hv hc (show i < xs.length by have := HN.out; omega) HED.out)
    clear hR hw1 hw2 hv HCS HB
    go_wp2_with fail
    go_loopw [7] (fun iv wr => ∃ i : Nat, iv = .int .i64 (i : Nat) ∧ i ≤ n ∧ wr.cell? ⟨w.heap.size, 0, none⟩ = some (.string nm) ∧ wr.cell? ⟨w.heap.size, 1, none⟩ = some (.int .i64 dl) ∧ wr.cell? ⟨w.heap.size, 2, none⟩ = some (.slice a n c) ∧ Hid (Keep (fun _ => False) w0 wr)) (fun iv _ => n - (intOf iv).toNat)
    case atStart => exact ⟨0, rfl, Nat.zero_le _, c0, c1, c2, K3.out⟩
    case round =>
      obtain ⟨i, rfl, hi, d0, d1, d2, HD⟩ := hrel
      by_cases hlt : i < n
      · have W1 := hide (WA.out i wr hlt HD.out)
        go_wp2_with fail
        go_at_call 26
        refine W1.out.mono ?_
        rintro e w4 ⟨⟨r, rfl, hr⟩, k4⟩
        have HD4 := hide (HD.out.more k4)
        have d0 := k4.cell d0 fun f => f
        have d1 := k4.cell d1 fun f => f
        have d2 := k4.cell d2 fun f => f
        have HRR := hide hr
        clear k4 hr W1
        cases r
        · have hne0 : i ≠ m := fun e => Bool.false_ne_true (HRR.out.2 (by rw [e]; exact HW1.out))
          have hne : ¬ ((i : Int) + 1 = (m : Int) + 1) := by omega
          go_wp2_with fail
          go_roundw
          · exact ⟨i + 1, rfl, by omega, d0, d1, d2, HD4.out⟩
          · show n - ((i : Int) + 1).toNat < n - (i : Int).toNat
            omega
        · have hle := HW2.out i (HRR.out.1 rfl)
          have hne : ¬ ((i : Int) + 1 < (m : Int) + 1) := by omega
          go_wp2_with fail
          go_roundw
          · exact ⟨i + 1, rfl, by omega, d0, d1, d2, HD4.out⟩
          · show n - ((i : Int) + 1).toNat < n - (i : Int).toNat
            omega
      · obtain rfl : i = n := by omega
        go_wp2_with fail
        go_ret
        exact ⟨rfl, (KW.out.more HD.out).below (Nat.le_refl _) fun _ f => f.elim⟩
  · have h1 : ((r2 : Int) != 0) = true := by simp at hR1; simp; omega
    have h2 : ((r2 : Int) != 106) = true := by simp at hR2; simp; omega
    have h3 : ((r1 : Int) ≤ n) := by simp at hR3; have := HN.out; omega
    clear hR1 hR2 hR3 HCS
    go_wp2_with fail
    go_ret
    exact ⟨rfl, (KW.out.more K3.out).below (Nat.le_refl _) fun _ f => f.elim⟩
end Gr
end Go.Proofs.Ytcboeodnjnfamaa
