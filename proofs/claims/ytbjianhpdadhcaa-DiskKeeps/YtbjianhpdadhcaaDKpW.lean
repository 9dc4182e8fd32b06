/- DiskKeeps: the walk. -/
import Derived.Test.YtbjianhpdadhcaaDScr
import Derived.Test.YtbjianhpdadhcaaDBeg
namespace Go.Proofs.Ytbjianhpdadhcaa
open Go.RowKit Go.Lib

set_option maxRecDepth 100000 in
set_option maxHeartbeats 8000000 in
theorem keeps_walk (cp : Int) (a : Option Addr) (n c : Nat) (fa : Option Addr) (fn fc : Nat) (qs : List Stp) (z : List Int) (W : World) (h1 : -9223372036854775808 ≤ cp) (h2 : cp ≤ 9223372036854775807) (hq : RdQ W a n qs) (hz : Rz W fa fn z) :
    Calls Try.prog 6 #[.int .i64 cp, .slice a n c, .slice fa fn fc] W fun e w' => e = .returned (.bool true) ∧ Below W.heap.size W w' := by
  have HKn := hide (known_any W)
  have HQ := hide hq
  have HZ := hide hz
  have HMd := hide fun w => made_any cp w h1 h2
  have hn41 := hq.2.1
  clear hq hz h1 h2
  go_enter Try.func6, Try.ntmps6
  go_wp2_with (first
    | (go_at_call 9; refine HKn.out.mono ?_; rintro e w1 ⟨rfl, hk⟩; have HK1 := hide hk; clear hk)
    | (go_at_call 16
       refine (HMd.out _).mono ?_
       rintro e w2 ⟨p, rfl, hd, hk⟩
       have HM0 := hide (Mids.start HK1.out hd hk)
       clear hd hk))
  go_loopw [9] (fun iv wr => ∃ (q : Nat) (s : St), q ≤ n ∧ iv = .int .i64 (q : Nat) ∧ Hid (Mids W wr p s q)) (fun iv _ => n - (intOf iv).toNat)
  case atStart => exact ⟨0, _, Nat.zero_le _, rfl, HM0⟩
  case round =>
    obtain ⟨q, s, hqm, rfl, HM⟩ := hrel
    by_cases hq : q < n
    · have hqk : q < qs.length := by rw [← HQ.out.1]; exact hq
      obtain ⟨b, off, rfl, x0, x1, x2, x3, x4, x5, x6, x7⟩ := HQ.out.2.2.2 q hqk
      have hbl := block_lt_of_cell x0
      have kb : ¬ W.heap.size ≤ b := Nat.not_le.2 hbl
      have y0 := HM.out.k.cell x0 kb
      have y1 := HM.out.k.cell x1 kb
      have y2 := HM.out.k.cell x2 kb
      have y3 := HM.out.k.cell x3 kb
      have y4 := HM.out.k.cell x4 kb
      have y5 := HM.out.k.cell x5 kb
      have y6 := HM.out.k.cell x6 kb
      have y7 := HM.out.k.cell x7 kb
      have HS := hide (HM.out.step (by omega) (HQ.out.2.2.1 _ (List.getElem_mem hqk)))
      unfold Stp.val at HS
      have hq0 : (q : Int) < n := by omega
      have hw : wrap64 ((q : Int) + 1) = ((q + 1 : Nat) : Int) := wr' (by omega) (by omega) (by omega)
      have HN := hide (show q + 1 ≤ n by omega)
      generalize qs[q] = qq at *
      clear x0 x1 x2 x3 x4 x5 x6 x7 hbl kb hqm hqk
      go_wp2_with (go_at_call 20
                   refine HS.out.mono ?_
                   rintro e w3 ⟨c', N', is', vl, vb, t, rfl, _, _, hm, _, _⟩
                   have HM3 := hide hm
                   clear hm)
      go_roundw
      case rel => exact ⟨q + 1, t, HN.out, rfl, HM3⟩
      case measure => show n - (((q + 1 : Nat) : Int)).toNat < n - ((q : Int)).toNat; have := HN.out; omega
    · obtain rfl : q = n := by omega
      obtain ⟨w0, hw0⟩ : ∃ w0, w0 = wr := ⟨_, rfl⟩
      subst hw0
      have hqq : ¬ (q : Int) < q := by omega
      have HG := hide HM.out.g
      have HD := hide HM.out.d.low
      have HKw := hide HM.out.k
      have HL0 := hide (lost_any _ w0 p s none 0 0 [] HD.out HG.out (by omega) ⟨rfl, by omega, (fun x hx => by cases hx), .inl rfl⟩ (fun g off e _ => by cases e))
      clear HM hqm hq
      go_wp2_with (first
        | (go_at_call 34
           refine HL0.out.mono ?_
           rintro e w3 ⟨a0, c0, L0, t0, rfl, hr0, hc0, hl0, hk0⟩
           have HR0 := hide hr0
           have HC0 := hide hc0
           have HS0 := hide hl0
           have HK0 := hide hk0
           have HAl := hide (all_any w3 q hn41)
           clear hr0 hc0 hl0 hk0 HL0))
      go_at_call 23
      refine HAl.out.mono ?_
      rintro e w4 ⟨aa, ac, rfl, hra, hk4, hla⟩
      have HK4 := hide hk4
      have HL1 := hide (lost_any _ w4 p s aa q ac _ ((HD.out.stay HK0.out fun _ _ _ f => f).stay hk4 fun _ _ _ f => f) HG.out (by omega) hra (fun g off e _ => hla g off e))
      clear hra hla hk4 HAl
      go_wp2_with fail
      go_at_call 34
      refine HL1.out.mono ?_
      rintro e w5 ⟨a1, c1, L1, t1, rfl, hr1, hc1, hl1, hk1⟩
      have HR1 := hide hr1
      have HC1 := hide hc1
      have HS1 := hide hl1
      have HK5 := hide hk1
      have HKa : Hid (Keep (fun _ => False) w0 w5) := (HK0.out.more HK4.out).more HK5.out
      have HZ5 : Hid (Rz w5 fa fn z) := (HZ.out.stay HKw.out fun g off e h0 hg => Nat.not_lt.2 hg (HZ.out.lt g off e h0)).stay HKa.out fun _ _ _ _ f => f
      have HL2 := hide (lost_any _ w5 p s fa fn fc z (HD.out.stay HKa.out fun _ _ _ f => f) HG.out (by omega) HZ5.out HZ5.out.lt)
      clear hr1 hc1 hl1 hk1 HL1
      go_wp2_with fail
      go_at_call 34
      refine HL2.out.mono ?_
      rintro e w6 ⟨a2, c2, L2, t2, rfl, hr2, hc2, hl2, hk2⟩
      have HR2 := hide hr2
      have HC2 := hide hc2
      have HS2 := hide hl2
      have HK6 := hide hk2
      have HB1 := hide (begins_any w6 _ _ a0 a2 c0 c2 L0 L2 (HR0.out.keep ((HK4.out.more HK5.out).more hk2) fun _ _ _ f => f) hr2 (HS0.out.len (HG.out.crash HC0.out)) (HS2.out.len (HG.out.crash HC2.out)) HS2.out.1 (HC0.out.least HC2.out HS0.out HS2.out))
      clear hr2 hc2 hl2 hk2 HL2
      go_wp2_with fail
      go_at_call 35
      refine HB1.out.mono ?_
      rintro e w7 ⟨rfl, hk7⟩
      have HK7 := hide hk7
      have HB2 := hide (begins_any w7 _ _ a2 a1 c2 c1 L2 L1 (HR2.out.keep hk7 fun _ _ _ f => f) ((HR1.out.keep HK6.out fun _ _ _ f => f).keep hk7 fun _ _ _ f => f) (HS2.out.len (HG.out.crash HC2.out)) (HS1.out.len (HG.out.crash HC1.out)) HS1.out.1 (HC1.out.most HG.out HC2.out HS1.out HS2.out))
      clear hk7 HB1
      go_wp2_with fail
      go_at_call 35
      refine HB2.out.mono ?_
      rintro e w8 ⟨rfl, hk8⟩
      have HK8 : Hid (Keep (fun _ => False) w6 w8) := HK7.out.more hk8
      have HKb : Hid (Keep (fun _ => False) w0 w8) := (HKa.out.more HK6.out).more HK8.out
      have HD8 : Hid (DAt (fun i => W.heap.size ≤ i ∧ i < w0.heap.size) w8 p s) := HD.out.stay HKb.out fun _ _ _ f => f
      have HSn := hide (seen_any _ w8 p s HD8.out (HG.out.ok (by omega)))
      clear hk8 HB2
      go_wp2_with fail
      go_at_call 24
      refine HSn.out.mono ?_
      rintro e w9 ⟨a9, c9, L9, rfl, hr9, hl9, _, hk9⟩
      have HR9 := hide hr9
      have HS9 := hide hl9
      have HK9 := hide hk9
      have HDn9 := hide (down_any _ w9 p s (HD8.out.stay hk9 fun _ _ _ f => f))
      clear hr9 hl9 hk9 HSn
      cases hdn : s.down with
      | true =>
        rw [hdn] at HDn9
        go_wp2_with fail
        go_at_call 15
        refine HDn9.out.mono ?_
        rintro e w9' ⟨rfl, rfl⟩
        clear hdn
        go_wp2_with fail
        go_loopw [18] (fun iv wx => ∃ (q : Nat), q = 0 ∧ iv = .int .i64 (q : Nat) ∧ Hid (Keep (fun _ => False) w9' wx)) (fun iv _ => 1 - (intOf iv).toNat)
        case atStart => exact ⟨0, rfl, rfl, Keep.refl _ _⟩
        case round =>
          obtain ⟨q2, rfl, rfl, HKx⟩ := hrel
          have KZ6 : Hid (Keep (fun _ => False) w6 wr) := (HK8.out.more HK9.out).more HKx.out
          have KZ : Hid (Keep (fun _ => False) w0 wr) := (HKb.out.more HK9.out).more HKx.out
          have KZ5 : Hid (Keep (fun _ => False) w5 wr) := HK6.out.more KZ6.out
          go_wp2_with fail
          all_goals
            have HDz : Hid (DAt (fun i => W.heap.size ≤ i ∧ i < w0.heap.size) wr p s) := HD.out.stay KZ.out fun _ _ _ f => f
            have HZz : Hid (Rz wr fa fn z) := HZ5.out.stay KZ5.out fun _ _ _ _ f => f
            have HCr := hide (crash_any _ wr p s fa fn fc z HDz.out (HG.out.ok (by omega)) (by rw [tot_away]; exact HG.out.bud.held (by omega)) HZz.out (fun g off e h0 hg => Nat.not_lt.2 hg.1 (HZ.out.lt g off e h0)))
            go_at_call 28
            refine HCr.out.mono ?_
            rintro e w10 ⟨rfl, t5, hc5, hd5, hk5⟩
            have HC5 := hide hc5
            have HD5 := hide hd5
            have HK10 := hide hk5
            have HG5 := hide (HG.out.crash hc5)
            have HT5 : Hid (t5.there = t2.there) := hc5.uniq HC2.out
            obtain ⟨W11, hW11⟩ : ∃ W11, W11 = w10.alloc (.cells #[.int .i64 (-1), .int .i64 0, .int .i64 (-1), .int .i64 0] 3) := ⟨_, rfl⟩
            have k11 : Keep (fun _ => False) w10 W11 := by rw [hW11]; exact Keep.alloc _ _ _
            have hb11 : W11.heap[w10.heap.size]? = some (.cells #[.int .i64 (-1), .int .i64 0, .int .i64 (-1), .int .i64 0] 3 (0, 0)) := by rw [hW11]; exact heap_alloc_new w10 _
            have hrz : Rz W11 (some ⟨w10.heap.size, 0, none⟩) 4 [-1, 0, -1, 0] := ⟨rfl, by decide, (fun x hx => by simp at hx; omega), .inr ⟨w10.heap.size, 0, rfl, fun i hi => by
              rw [Nat.zero_add]
              refine cell_blk hb11 i ?_
              match i, hi with
              | 0, _ => rfl
              | 1, _ => rfl
              | 2, _ => rfl
              | 3, _ => rfl⟩⟩
            have HL3 := hide (lost_any _ W11 p t5 (some ⟨w10.heap.size, 0, none⟩) 4 4 _ (hd5.stay k11 fun _ _ _ f => f) HG5.out (by omega) hrz hrz.lt)
            have HK11 := hide k11
            have HW11 := hide hW11
            rw [hW11] at HL3
            clear hc5 hd5 hk5 k11 hb11 hrz hW11 HCr
            go_wp2_with fail
            go_at_call 34
            refine HL3.out.mono ?_
            rintro e w12 ⟨a3, c3, L3, t3, rfl, hr3, hc3, hl3, hk3⟩
            rw [← HW11.out] at hr3 hk3
            obtain rfl : L3 = L2 := hl3.uniq HS2.out ((hc3.safe_ HC5.out.safe).trans HT5.out)
            have HR3 := hide hr3
            have HK12 := hide hk3
            have HKt : Hid (Keep (fun _ => False) w10 w12) := HK11.out.more hk3
            have HSe := hide (seen_any _ w12 p t5 (HD5.out.stay HKt.out fun _ _ _ f => f) (HG5.out.ok (by omega)))
            clear hr3 hc3 hl3 hk3 HL3
            go_wp2_with fail
            go_at_call 24
            refine HSe.out.mono ?_
            rintro e w13 ⟨a4, c4, L4, rfl, hr4, hl4, _, hk4⟩
            have hdn := HC5.out.down
            rw [hdn]
            obtain rfl : L4 = L3 := (hl4 hdn).uniq HS2.out HT5.out
            have HR4 := hide hr4
            have HK13 := hide hk4
            have HDn : Hid (Calls Try.prog 15 #[.pointer (some ⟨p, 0, none⟩)] w13 fun e w' => e = .returned (.bool false) ∧ w' = w13) := by
              have := down_any _ w13 p t5 ((HD5.out.stay HKt.out fun _ _ _ f => f).stay hk4 fun _ _ _ f => f)
              rw [hdn] at this
              exact this
            have HR2' : Hid (RdS w5.heap.size w13 a2 L4) := (((HR2.out.keep KZ6.out fun _ _ _ f => f).keep HK10.out fun g h1 _ h2 => by have := HKa.out.size; omega).keep HKt.out fun _ _ _ f => f).keep hk4 fun _ _ _ f => f
            have HA1 := hide (alike_any w13 _ _ a3 a2 c3 c2 L4 (HR3.out.keep hk4 fun _ _ _ f => f) HR2'.out (HS2.out.len (HG.out.crash HC2.out)))
            clear hr4 hl4 hk4 hdn HSe
            go_wp2_with fail
            go_at_call 15
            refine HDn.out.mono ?_
            rintro e w14 ⟨rfl, rfl⟩
            go_wp2_with fail
            go_at_call 26
            refine HA1.out.mono ?_
            rintro e w15 ⟨rfl, hk15⟩
            have HA2 := hide (alike_any w15 _ _ a4 a2 c4 c2 L4 (HR4.out.keep hk15 fun _ _ _ f => f) (HR2'.out.keep hk15 fun _ _ _ f => f) (HS2.out.len (HG.out.crash HC2.out)))
            have HK15 := hide hk15
            clear hk15
            go_wp2_with fail
            go_at_call 26
            refine HA2.out.mono ?_
            rintro e w16 ⟨rfl, hk16⟩
            have HK16 := hide hk16
            clear hk16
            go_wp2_with fail
            go_ret
            refine ⟨rfl, ?_⟩
            have kend : Keep (fun i => W.heap.size ≤ i) W w16 := (((((HKw.out.more (KZ.out.mono fun _ f => f.elim)).more (HK10.out.mono fun i e => e.1)).more (HKt.out.mono fun _ f => f.elim)).more (HK13.out.mono fun _ f => f.elim)).more (HK15.out.mono fun _ f => f.elim)).more (HK16.out.mono fun _ f => f.elim)
            exact kend.below (Nat.le_refl _) fun i e => e
      | false =>
        have HS9' := hide (HS9.out hdn)
        rw [hdn] at HDn9
        go_wp2_with fail
        go_at_call 15
        refine HDn9.out.mono ?_
        rintro e w9' ⟨rfl, rfl⟩
        clear hdn HS9
        have hl2 := HR2.out.1
        obtain ⟨m2, em2⟩ : ∃ m2, m2 = L2.length := ⟨_, rfl⟩
        have HM2 := hide em2
        rw [← em2] at hl2
        go_wp2_with fail
        rw [← em2]
        clear em2
        go_loopw [18] (fun iv wx => ∃ (q : Nat), q ≤ m2 ∧ iv = .int .i64 (q : Nat) ∧ Hid (Keep (fun _ => False) w9' wx)) (fun iv _ => m2 - (intOf iv).toNat)
        case atStart => exact ⟨0, Nat.zero_le _, rfl, Keep.refl _ _⟩
        case round =>
          obtain ⟨q2, hq2m, rfl, HKx⟩ := hrel
          have KZ6 : Hid (Keep (fun _ => False) w6 wr) := (HK8.out.more HK9.out).more HKx.out
          by_cases hq2 : q2 < m2
          · have hq2k : q2 < L2.length := by rw [← HM2.out]; exact hq2
            obtain ⟨g, rfl, x1, ba, bc, x2, g3, _, _⟩ := (HR2.out.keep KZ6.out fun _ _ _ f => f).at' q2 hq2k (HS2.out.len (HG.out.crash HC2.out))
            have HMem := hide (List.getElem_mem hq2k)
            have HX : Hid (∀ n, (convert 41 9 (.slice ba L2[q2].2.length bc)).run Try.prog (wr.drewN n) = .ok (.string (str L2[q2].2)) (wr.drewN n)) := fun n => conv_rd (g3.stay (S := fun _ => False) (w' := wr.drewN n) ⟨rfl, rfl, rfl, Nat.le_refl _, fun _ _ _ => rfl⟩ fun _ _ _ f => f) bc
            have hq0 : (q2 : Int) < m2 := by omega
            have hw : wrap64 ((q2 : Int) + 1) = ((q2 + 1 : Nat) : Int) := wr' (by omega) (by omega) (by omega)
            have HN2 := hide (show q2 + 1 ≤ m2 by omega)
            generalize L2[q2] = x at *
            obtain ⟨xk, xb⟩ := x
            simp only at x1 x2 HX
            have HAt := hide (at_any wr _ a9 c9 L9 xk (HR9.out.keep HKx.out fun _ _ _ f => f) (HS9'.out.len HG.out))
            clear g3 hq2m
            go_wp2_with fail
            go_at_call 36
            refine HAt.out.mono ?_
            rintro e w20 ⟨rfl, hat⟩
            rcases hat with ⟨ya, yc, y, rfl, hy, hr, hyc, _⟩ | ⟨rfl, _⟩
            · obtain ⟨hy1, hy2⟩ := HC2.out.begun HS2.out HS9'.out HMem.out hy
              have hsl := slice_hi_run' ya y.length yc xb.length (by omega)
              have hcy := fun n => conv_rd ((hr.front xb.length hy1).stay (S := fun _ => False) (w' := w20.drewN n) ⟨rfl, rfl, rfl, Nat.le_refl _, fun _ _ _ => rfl⟩ fun _ _ _ f => f) yc
              rw [hy2] at hcy
              have hcx := HX.out
              have hyn : ¬ y.length < xb.length := by omega
              have hyd : decide (y.length < xb.length) = false := decide_eq_false hyn
              generalize y.length = yn at *
              generalize str xb = S at *
              generalize xb.length = xn at *
              clear hr hy1 hy2 hyc HX hy HAt
              go_wp2_with fail
              go_quiet (fail)
              go_wp2_with fail
              go_roundw
              case rel => exact ⟨q2 + 1, HN2.out, rfl, HKx.out.more ⟨rfl, rfl, rfl, Nat.le_refl _, fun _ _ _ => rfl⟩⟩
              case measure => show m2 - (((q2 + 1 : Nat) : Int)).toNat < m2 - ((q2 : Int)).toNat; have := HN2.out; omega
            · clear HX HAt
              go_wp2_with fail
              go_quiet (fail)
              go_wp2_with fail
              go_roundw
              case rel => exact ⟨q2 + 1, HN2.out, rfl, HKx.out.more ⟨rfl, rfl, rfl, Nat.le_refl _, fun _ _ _ => rfl⟩⟩
              case measure => show m2 - (((q2 + 1 : Nat) : Int)).toNat < m2 - ((q2 : Int)).toNat; have := HN2.out; omega
          · obtain rfl : q2 = m2 := by omega
            have hq2n : ¬ (q2 : Int) < q2 := by omega
            have HB3 := hide (begins_any wr _ _ a9 a1 c9 c1 L9 L1 (HR9.out.keep HKx.out fun _ _ _ f => f) ((HR1.out.keep HK6.out fun _ _ _ f => f).keep KZ6.out fun _ _ _ f => f) (HS9'.out.len HG.out) (HS1.out.len (HG.out.crash HC1.out)) HS1.out.1 (HC1.out.there_most HG.out HS1.out HS9'.out))
            rw [HM2.out]
            clear hq2 hq2m hl2
            go_wp2_with fail
            go_at_call 35
            refine HB3.out.mono ?_
            rintro e w21 ⟨rfl, hk21⟩
            have KZ : Hid (Keep (fun _ => False) w0 w21) := ((HKb.out.more HK9.out).more HKx.out).more hk21
            have KZ6' : Hid (Keep (fun _ => False) w6 w21) := KZ6.out.more hk21
            have KZ5 : Hid (Keep (fun _ => False) w5 w21) := HK6.out.more KZ6'.out
            clear hk21 KZ6
            have KZ6 := KZ6'
            go_wp2_with fail
            have HDz : Hid (DAt (fun i => W.heap.size ≤ i ∧ i < w0.heap.size) w21 p s) := HD.out.stay KZ.out fun _ _ _ f => f
            have HZz : Hid (Rz w21 fa fn z) := HZ5.out.stay KZ5.out fun _ _ _ _ f => f
            have HCr := hide (crash_any _ w21 p s fa fn fc z HDz.out (HG.out.ok (by omega)) (by rw [tot_away]; exact HG.out.bud.held (by omega)) HZz.out (fun g off e h0 hg => Nat.not_lt.2 hg.1 (HZ.out.lt g off e h0)))
            go_at_call 28
            refine HCr.out.mono ?_
            rintro e w10 ⟨rfl, t5, hc5, hd5, hk5⟩
            have HC5 := hide hc5
            have HD5 := hide hd5
            have HK10 := hide hk5
            have HG5 := hide (HG.out.crash hc5)
            have HT5 : Hid (t5.there = t2.there) := hc5.uniq HC2.out
            obtain ⟨W11, hW11⟩ : ∃ W11, W11 = w10.alloc (.cells #[.int .i64 (-1), .int .i64 0, .int .i64 (-1), .int .i64 0] 3) := ⟨_, rfl⟩
            have k11 : Keep (fun _ => False) w10 W11 := by rw [hW11]; exact Keep.alloc _ _ _
            have hb11 : W11.heap[w10.heap.size]? = some (.cells #[.int .i64 (-1), .int .i64 0, .int .i64 (-1), .int .i64 0] 3 (0, 0)) := by rw [hW11]; exact heap_alloc_new w10 _
            have hrz : Rz W11 (some ⟨w10.heap.size, 0, none⟩) 4 [-1, 0, -1, 0] := ⟨rfl, by decide, (fun x hx => by simp at hx; omega), .inr ⟨w10.heap.size, 0, rfl, fun i hi => by
              rw [Nat.zero_add]
              refine cell_blk hb11 i ?_
              match i, hi with
              | 0, _ => rfl
              | 1, _ => rfl
              | 2, _ => rfl
              | 3, _ => rfl⟩⟩
            have HL3 := hide (lost_any _ W11 p t5 (some ⟨w10.heap.size, 0, none⟩) 4 4 _ (hd5.stay k11 fun _ _ _ f => f) HG5.out (by omega) hrz hrz.lt)
            have HK11 := hide k11
            have HW11 := hide hW11
            rw [hW11] at HL3
            clear hc5 hd5 hk5 k11 hb11 hrz hW11 HCr
            go_wp2_with fail
            go_at_call 34
            refine HL3.out.mono ?_
            rintro e w12 ⟨a3, c3, L3, t3, rfl, hr3, hc3, hl3, hk3⟩
            rw [← HW11.out] at hr3 hk3
            obtain rfl : L3 = L2 := hl3.uniq HS2.out ((hc3.safe_ HC5.out.safe).trans HT5.out)
            have HR3 := hide hr3
            have HK12 := hide hk3
            have HKt : Hid (Keep (fun _ => False) w10 w12) := HK11.out.more hk3
            have HSe := hide (seen_any _ w12 p t5 (HD5.out.stay HKt.out fun _ _ _ f => f) (HG5.out.ok (by omega)))
            clear hr3 hc3 hl3 hk3 HL3
            go_wp2_with fail
            go_at_call 24
            refine HSe.out.mono ?_
            rintro e w13 ⟨a4, c4, L4, rfl, hr4, hl4, _, hk4⟩
            have hdn := HC5.out.down
            rw [hdn]
            obtain rfl : L4 = L3 := (hl4 hdn).uniq HS2.out HT5.out
            have HR4 := hide hr4
            have HK13 := hide hk4
            have HDn : Hid (Calls Try.prog 15 #[.pointer (some ⟨p, 0, none⟩)] w13 fun e w' => e = .returned (.bool false) ∧ w' = w13) := by
              have := down_any _ w13 p t5 ((HD5.out.stay HKt.out fun _ _ _ f => f).stay hk4 fun _ _ _ f => f)
              rw [hdn] at this
              exact this
            have HR2' : Hid (RdS w5.heap.size w13 a2 L4) := (((HR2.out.keep KZ6.out fun _ _ _ f => f).keep HK10.out fun g h1 _ h2 => by have := HKa.out.size; omega).keep HKt.out fun _ _ _ f => f).keep hk4 fun _ _ _ f => f
            have HA1 := hide (alike_any w13 _ _ a3 a2 c3 c2 L4 (HR3.out.keep hk4 fun _ _ _ f => f) HR2'.out (HS2.out.len (HG.out.crash HC2.out)))
            clear hr4 hl4 hk4 hdn HSe
            go_wp2_with fail
            go_at_call 15
            refine HDn.out.mono ?_
            rintro e w14 ⟨rfl, rfl⟩
            go_wp2_with fail
            go_at_call 26
            refine HA1.out.mono ?_
            rintro e w15 ⟨rfl, hk15⟩
            have HA2 := hide (alike_any w15 _ _ a4 a2 c4 c2 L4 (HR4.out.keep hk15 fun _ _ _ f => f) (HR2'.out.keep hk15 fun _ _ _ f => f) (HS2.out.len (HG.out.crash HC2.out)))
            have HK15 := hide hk15
            clear hk15
            go_wp2_with fail
            go_at_call 26
            refine HA2.out.mono ?_
            rintro e w16 ⟨rfl, hk16⟩
            have HK16 := hide hk16
            clear hk16
            go_wp2_with fail
            go_ret
            refine ⟨rfl, ?_⟩
            have kend : Keep (fun i => W.heap.size ≤ i) W w16 := (((((HKw.out.more (KZ.out.mono fun _ f => f.elim)).more (HK10.out.mono fun i e => e.1)).more (HKt.out.mono fun _ f => f.elim)).more (HK13.out.mono fun _ f => f.elim)).more (HK15.out.mono fun _ f => f.elim)).more (HK16.out.mono fun _ f => f.elim)
            exact kend.below (Nat.le_refl _) fun i e => e

end Go.Proofs.Ytbjianhpdadhcaa
