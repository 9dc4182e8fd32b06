/- DiskSynced: the walk. -/
import Derived.Test.YtbjianhpdadhcaaDScr
namespace Go.Proofs.Ytbjianhpdadhcaa
open Go.RowKit Go.Lib

theorem sync_cases (s : St) : (s.sync.1 = 56 ∧ s.sync.2.down = true) ∨ (s.sync.1 = 0 ∧ s.sync.2.safe = s.sync.2.there ∧ s.sync.2.down = false) := by
  obtain ⟨c, u, t, sf, lf, d⟩ := s
  cases d with
  | true => exact .inl ⟨rfl, rfl⟩
  | false =>
    cases lf with
    | none => exact .inr ⟨rfl, rfl, rfl⟩
    | some n =>
      cases n with
      | zero => exact .inl ⟨rfl, rfl⟩
      | succ n => exact .inr ⟨rfl, rfl, rfl⟩

set_option maxRecDepth 100000 in
set_option maxHeartbeats 8000000 in
theorem synced_walk (cp : Int) (a : Option Addr) (n c : Nat) (fa : Option Addr) (fn fc : Nat) (qs : List Stp) (z : List Int) (W : World) (h1 : -9223372036854775808 ≤ cp) (h2 : cp ≤ 9223372036854775807) (hq : RdQ W a n qs) (hz : Rz W fa fn z) :
    Calls Try.prog 7 #[.int .i64 cp, .slice a n c, .slice fa fn fc] W fun e w' => e = .returned (.bool true) ∧ Below W.heap.size W w' := by
  have HKn := hide (known_any W)
  have HQ := hide hq
  have HZ := hide hz
  have HMd := hide fun w => made_any cp w h1 h2
  have hn41 := hq.2.1
  clear hq hz h1 h2
  go_enter Try.func7, Try.ntmps7
  go_wp2_with (first
    | (go_at_call 9; refine HKn.out.mono ?_; rintro e w1 ⟨rfl, hk⟩; have HK1 := hide hk; clear hk)
    | (go_at_call 16
       refine (HMd.out _).mono ?_
       rintro e w2 ⟨p, rfl, hd, hk⟩
       have HM0 := hide (Mids.start HK1.out hd hk)
       clear hd hk))
  go_loopw [9] (fun iv wr => ∃ (q : Nat) (s : St), q ≤ n ∧ iv = .int .i64 (q : Nat) ∧ Hid (Mids W wr p s q)) (fun iv _ => n - (intOf iv).toNat)
  case atStart => exact ⟨0, _, Nat.zero_le _, rfl, HM0⟩
  case round =>
    obtain ⟨q, s, hqm, rfl, HM⟩ := hrel
    by_cases hq : q < n
    · have hqk : q < qs.length := by rw [← HQ.out.1]; exact hq
      obtain ⟨b, off, rfl, x0, x1, x2, x3, x4, x5, x6, x7⟩ := HQ.out.2.2.2 q hqk
      have hbl := block_lt_of_cell x0
      have kb : ¬ W.heap.size ≤ b := Nat.not_le.2 hbl
      have y0 := HM.out.k.cell x0 kb
      have y1 := HM.out.k.cell x1 kb
      have y2 := HM.out.k.cell x2 kb
      have y3 := HM.out.k.cell x3 kb
      have y4 := HM.out.k.cell x4 kb
      have y5 := HM.out.k.cell x5 kb
      have y6 := HM.out.k.cell x6 kb
      have y7 := HM.out.k.cell x7 kb
      have HS := hide (HM.out.step (by omega) (HQ.out.2.2.1 _ (List.getElem_mem hqk)))
      unfold Stp.val at HS
      have hq0 : (q : Int) < n := by omega
      have hw : wrap64 ((q : Int) + 1) = ((q + 1 : Nat) : Int) := wr' (by omega) (by omega) (by omega)
      have HN := hide (show q + 1 ≤ n by omega)
      generalize qs[q] = qq at *
      clear x0 x1 x2 x3 x4 x5 x6 x7 hbl kb hqm hqk
      go_wp2_with (go_at_call 20
                   refine HS.out.mono ?_
                   rintro e w3 ⟨c', N', is', vl, vb, t, rfl, _, _, hm, _, _⟩
                   have HM3 := hide hm
                   clear hm)
      go_roundw
      case rel => exact ⟨q + 1, t, HN.out, rfl, HM3⟩
      case measure => show n - (((q + 1 : Nat) : Int)).toNat < n - ((q : Int)).toNat; have := HN.out; omega
    · obtain rfl : q = n := by omega
      have hqq : ¬ (q : Int) < q := by omega
      have HG := hide HM.out.g
      have HSy := hide (sync_any _ wr p s HM.out.d (HM.out.g.ok (by omega)))
      have HKw := hide HM.out.k
      have HGs := hide HM.out.g.sync
      clear HM hqm hq
      rcases sync_cases s with ⟨hc, hdn⟩ | ⟨hc, hsf, hdn⟩
      · have HDn := hide hdn
        clear hdn
        go_wp2_with fail
        go_at_call 37
        refine HSy.out.mono ?_
        rintro e w3 ⟨rfl, hd, hk⟩
        rw [hc]
        have HDw : Hid (Calls Try.prog 15 #[.pointer (some ⟨p, 0, none⟩)] w3 fun e w' => e = .returned (.bool true) ∧ w' = w3) := by
          have := down_any _ w3 p s.sync.2 hd
          rw [HDn.out] at this
          exact this
        have HK3 := hide hk
        clear hd hk hc
        go_wp2_with fail
        go_at_call 15
        refine HDw.out.mono ?_
        rintro e w4 ⟨rfl, rfl⟩
        go_wp2_with fail
        go_ret
        exact ⟨rfl, (HKw.out.more HK3.out).below (Nat.le_refl _) fun i e => e⟩
      · have HDn := hide hdn
        have HSf := hide hsf
        clear hdn hsf
        go_wp2_with fail
        go_at_call 37
        refine HSy.out.mono ?_
        rintro e w3 ⟨rfl, hd, hk⟩
        rw [hc]
        have HKw3 : Hid (Keep (fun i => W.heap.size ≤ i) W w3) := HKw.out.more hk
        have HD := hide hd.low
        generalize s.sync.2 = s2 at *
        have HSe := hide (seen_any _ w3 p s2 HD.out (HGs.out.ok (by omega)))
        clear hd hk hc
        go_wp2_with fail
        go_at_call 24
        refine HSe.out.mono ?_
        rintro e w4 ⟨a4, c4, L4, rfl, hr4, hl4, _, hk4⟩
        rw [HDn.out]
        have HR4 := hide hr4
        have HS4 := hide (hl4 HDn.out)
        have HK4 := hide hk4
        have HZ4 : Hid (Rz w4 fa fn z) := (HZ.out.stay HKw3.out fun g off e h0 hg => Nat.not_lt.2 hg (HZ.out.lt g off e h0)).stay hk4 fun _ _ _ _ f => f
        have HLo := hide (lost_any _ w4 p s2 fa fn fc z (HD.out.stay hk4 fun _ _ _ f => f) HGs.out (by omega) HZ4.out HZ4.out.lt)
        clear hr4 hl4 hk4 HSe
        go_wp2_with fail
        go_at_call 34
        refine HLo.out.mono ?_
        rintro e w5 ⟨a5, c5, L5, t5, rfl, hr5, hc5, hl5, hk5⟩
        obtain rfl : L5 = L4 := hl5.uniq HS4.out (hc5.safe_ HSf.out)
        have HR5 := hide hr5
        have HK5 := hide hk5
        have HKa : Hid (Keep (fun _ => False) w3 w5) := HK4.out.more hk5
        have HCr := hide (crash_any _ w5 p s2 none 0 0 [] (HD.out.stay HKa.out fun _ _ _ f => f) (HGs.out.ok (by omega)) (by rw [tot_away]; exact HGs.out.bud.held (by omega)) ⟨rfl, by omega, (fun x hx => by cases hx), .inl rfl⟩ (fun g off e _ => by cases e))
        clear hr5 hc5 hl5 hk5 HLo
        go_wp2_with fail
        go_at_call 28
        refine HCr.out.mono ?_
        rintro e w6 ⟨rfl, t6, hc6, hd6, hk6⟩
        have HK6 := hide hk6
        have HT6 : Hid (t6.there = s2.there) := hc6.safe_ HSf.out
        have HDn6 := hide hc6.down
        have HSe6 := hide (seen_any _ w6 p t6 hd6 ((HGs.out.crash hc6).ok (by omega)))
        clear hc6 hd6 hk6 HCr
        go_wp2_with fail
        go_at_call 24
        refine HSe6.out.mono ?_
        rintro e w7 ⟨a7, c7, L7, rfl, hr7, hl7, _, hk7⟩
        rw [HDn6.out]
        obtain rfl : L7 = L5 := (hl7 HDn6.out).uniq HS4.out HT6.out
        have HR7 := hide hr7
        have HK7 := hide hk7
        have HR4' : Hid (RdS w3.heap.size w7 a4 L7) := ((HR4.out.keep HK5.out fun _ _ _ f => f).keep HK6.out fun g h1 _ h2 => by omega).keep hk7 fun _ _ _ f => f
        have HR5' : Hid (RdS w4.heap.size w7 a5 L7) := (HR5.out.keep HK6.out fun g h1 _ h2 => by have := HK4.out.size; omega).keep hk7 fun _ _ _ f => f
        have HA1 := hide (alike_any w7 _ _ a4 a5 c4 c5 L7 HR4'.out HR5'.out (HS4.out.len HGs.out))
        clear hr7 hl7 hk7 HSe6
        go_wp2_with fail
        go_at_call 26
        refine HA1.out.mono ?_
        rintro e w8 ⟨rfl, hk8⟩
        have HA2 := hide (alike_any w8 _ _ a4 a7 c4 c7 L7 (HR4'.out.keep hk8 fun _ _ _ f => f) (HR7.out.keep hk8 fun _ _ _ f => f) (HS4.out.len HGs.out))
        have HK8 := hide hk8
        clear hk8
        go_wp2_with fail
        go_at_call 26
        refine HA2.out.mono ?_
        rintro e w9 ⟨rfl, hk9⟩
        have HK9 := hide hk9
        clear hk9
        go_wp2_with fail
        go_ret
        refine ⟨rfl, ?_⟩
        have kend : Keep (fun i => W.heap.size ≤ i) W w9 := ((((HKw3.out.more (HKa.out.mono fun _ f => f.elim)).more (HK6.out.mono fun i e => e.1)).more (HK7.out.mono fun _ f => f.elim)).more (HK8.out.mono fun _ f => f.elim)).more (HK9.out.mono fun _ f => f.elim)
        exact kend.below (Nat.le_refl _) fun i e => e

end Go.Proofs.Ytbjianhpdadhcaa
