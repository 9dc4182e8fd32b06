/- DiskSpoils: the walk. -/
import Derived.Test.YtejbacgkipbmeaaDSlM
import Derived.Test.YtejbacgkipbmeaaDTrw
namespace Go.Proofs.Ytejbacgkipbmeaa
open Go.RowKit Go.Lib

theorem rdQ_new {w w' : World} {a : Option Addr} {n : Nat} {qs : List Stp} (h : RdQ w a n qs) (k : Keep (fun _ => False) w w') : RdQ w' a n qs := by
  refine ⟨h.1, h.2.1, fun q hq => (h.2.2.1 q hq).stay k ⟨fun _ _ _ _ f => f, fun _ _ _ _ f => f⟩, fun i hi => ?_⟩
  obtain ⟨b, off, e, x0, x1, x2, x3, x4, x5, x6, x7⟩ := h.2.2.2 i hi
  exact ⟨b, off, e, k.cell x0 fun f => f, k.cell x1 fun f => f, k.cell x2 fun f => f, k.cell x3 fun f => f, k.cell x4 fun f => f, k.cell x5 fun f => f, k.cell x6 fun f => f, k.cell x7 fun f => f⟩
theorem rz_nil (w : World) : Rz w none 0 [] := ⟨rfl, by omega, (fun x hx => by cases hx), .inl rfl⟩

set_option maxRecDepth 100000 in
set_option maxHeartbeats 20000000 in
theorem spoils_walk (cp : Int) (a : Option Addr) (n c : Nat) (qs : List Stp) (q0 : Stp) (W : World) (h1 : -9223372036854775808 ≤ cp) (h2 : cp ≤ 9223372036854775807) (hq : RdQ W a n qs) (hq0 : StpOk W q0) :
    Calls Try.prog 3 #[.int .i64 cp, .slice a n c, q0.val] W fun e w' => e = .returned (.bool true) ∧ Below W.heap.size W w' := by
  have KB := hide (Keep.alloc (fun _ => False) W (.cells #[.int .i64 q0.which, .bool q0.copy, .int .i64 q0.what, .int .i64 q0.seg, .int .i64 q0.n, .int .u8 (q0.mask : Nat), .slice q0.ba q0.b.length q0.bc, .slice q0.fa q0.fate.length q0.fc] 26))
  have BB := hide (heap_alloc_new W (.cells #[.int .i64 q0.which, .bool q0.copy, .int .i64 q0.what, .int .i64 q0.seg, .int .i64 q0.n, .int .u8 (q0.mask : Nat), .slice q0.ba q0.b.length q0.bc, .slice q0.fa q0.fate.length q0.fc] 26))
  have HKn := hide (fun w => known_any w)
  have HQ := hide (rdQ_new hq KB.out)
  have HMd := hide fun w => made_any cp w h1 h2
  have hn41 := hq.2.1
  have hsg := hq0.seg
  have hmk := hq0.mask
  unfold Stp.val
  clear hq hq0 h1 h2
  go_enter Try.func3, Try.ntmps3
  go_upto_region 1 with fail
  generalize W.alloc (.cells #[.int .i64 q0.which, .bool q0.copy, .int .i64 q0.what, .int .i64 q0.seg, .int .i64 q0.n, .int .u8 (q0.mask : Nat), .slice q0.ba q0.b.length q0.bc, .slice q0.fa q0.fate.length q0.fc] 26) = W0 at *
  have hWW : Hid (W.heap.size < W0.heap.size) := (Array.getElem?_eq_some_iff.1 BB.out).1
  go_wp2_with (first
    | (go_at_call 4; refine (HKn.out _).mono ?_; rintro e w1 ⟨rfl, hk⟩; have HK1 := hide hk; clear hk)
    | (go_at_call 5
       refine (HMd.out _).mono ?_
       rintro e w2 ⟨p, rfl, hd, hk⟩
       have HM0 := hide (Mids.start HK1.out hd hk)
       clear hd hk))
  go_loopw [9] (fun iv wr => ∃ (q : Nat) (s : St), q ≤ n ∧ iv = .int .i64 (q : Nat) ∧ Hid (Mids W0 wr p s q)) (fun iv _ => n - (intOf iv).toNat)
  case atStart => exact ⟨0, _, Nat.zero_le _, rfl, HM0⟩
  case round => as_aux_lemma =>
    obtain ⟨q, s, hqm, rfl, HM⟩ := hrel
    by_cases hq : q < n
    · as_aux_lemma =>
      have hqk : q < qs.length := by rw [← HQ.out.1]; exact hq
      obtain ⟨b, off, rfl, x0, x1, x2, x3, x4, x5, x6, x7⟩ := HQ.out.2.2.2 q hqk
      have hbl := block_lt_of_cell x0
      have kb : ¬ W0.heap.size ≤ b := Nat.not_le.2 hbl
      have y0 := HM.out.k.cell x0 kb
      have y1 := HM.out.k.cell x1 kb
      have y2 := HM.out.k.cell x2 kb
      have y3 := HM.out.k.cell x3 kb
      have y4 := HM.out.k.cell x4 kb
      have y5 := HM.out.k.cell x5 kb
      have y6 := HM.out.k.cell x6 kb
      have y7 := HM.out.k.cell x7 kb
      have HS := hide (HM.out.step (by omega) (HQ.out.2.2.1 _ (List.getElem_mem hqk)))
      unfold Stp.val at HS
      have hq0 : (q : Int) < n := by omega
      have hw : wrap64 ((q : Int) + 1) = ((q + 1 : Nat) : Int) := wr' (by omega) (by omega) (by omega)
      have HN := hide (show q + 1 ≤ n by omega)
      generalize qs[q] = qq at *
      clear x0 x1 x2 x3 x4 x5 x6 x7 hbl kb hqm hqk
      go_wp2_with (go_at_call 6
                   refine HS.out.mono ?_
                   rintro e w3 ⟨c', N', is', vl, vb, t, rfl, _, _, hm, _, _⟩
                   have HM3 := hide hm
                   clear hm)
      go_roundw
      case rel => exact ⟨q + 1, t, HN.out, rfl, HM3⟩
      case measure => show n - (((q + 1 : Nat) : Int)).toNat < n - ((q : Int)).toNat; have := HN.out; omega
    · as_aux_lemma =>
      obtain rfl : q = n := by omega
      have hqq : ¬ (q : Int) < q := by omega
      have HG := hide HM.out.g
      have HD := hide HM.out.d.low
      have HKw := hide HM.out.k
      have HB0 : Hid (∀ w', Keep (fun i => W0.heap.size ≤ i) W0 w' → w'.cell? ⟨W.heap.size, 3, none⟩ = some (.int .i64 q0.seg) ∧ w'.cell? ⟨W.heap.size, 4, none⟩ = some (.int .i64 q0.n) ∧ w'.cell? ⟨W.heap.size, 5, none⟩ = some (.int .u8 (q0.mask : Nat)) ∧ w'.heap[W.heap.size]? = some (.cells #[.int .i64 q0.which, .bool q0.copy, .int .i64 q0.what, .int .i64 q0.seg, .int .i64 q0.n, .int .u8 (q0.mask : Nat), .slice q0.ba q0.b.length q0.bc, .slice q0.fa q0.fate.length q0.fc] 26 (0, 0))) := fun w' k => by
        have hb : w'.heap[W.heap.size]? = _ := (k.block W.heap.size hWW.out (by have := hWW.out; omega)).trans BB.out
        exact ⟨by rw [cell_of_row _ _ _ _ _ _ hb]; rfl, by rw [cell_of_row _ _ _ _ _ _ hb]; rfl, by rw [cell_of_row _ _ _ _ _ _ hb]; rfl, hb⟩
      have HKF : Hid (∀ w', Keep (fun i => W0.heap.size ≤ i) W0 w' → Below W.heap.size W w') := fun w' k => ((KB.out.mono (T := fun i => W0.heap.size ≤ i) fun _ f => f.elim).more k).below (Nat.le_refl _) fun i e => by have := hWW.out; omega
      have HDw := hide (down_any _ wr p s HM.out.d)
      obtain ⟨b3, b4, b5, _⟩ := HB0.out wr HKw.out
      clear HM hqm hq BB KB HQ HMd HKn
      cases hdn : s.down with
      | true =>
        have HSp := hide (spoil_any _ wr p s q0.seg q0.n q0.mask HD.out (HG.out.ok (by omega)) hsg.1 hsg.2 hmk)
        have e56 : s.spoil q0.seg q0.n q0.mask = (56, s) := by unfold St.spoil; rw [hdn]; rfl
        rw [e56] at HSp
        rw [hdn] at HDw
        clear e56 hdn
        go_wp2_with fail
        go_at_call 7
        refine HDw.out.mono ?_
        rintro e w4 ⟨rfl, rfl⟩
        go_wp2_with fail
        go_at_call 8
        refine HSp.out.mono ?_
        rintro e w5 ⟨rfl, _, hk5⟩
        have KE := hide (HKF.out w5 (HKw.out.more (hk5.mono fun i h => h.1)))
        clear hk5
        go_wp2_with fail
        go_ret
        exact ⟨rfl, KE.out⟩
      | false =>
        have HDn := hide hdn
        rw [hdn] at HDw
        clear hdn
        go_wp2_with fail
        go_at_call 7
        refine HDw.out.mono ?_
        rintro e w4 ⟨rfl, rfl⟩
        have HSe := hide (seen_any _ w4 p s HD.out (HG.out.ok (by omega)))
        go_wp2_with fail
        go_at_call 9
        refine HSe.out.mono ?_
        rintro e w5 ⟨a5, c5, L, rfl, hr5, hl5, _, hk5⟩
        rw [HDn.out]
        have HR5 := hide hr5
        have HL5 := hide (hl5 HDn.out)
        have HK5 := hide hk5
        have HLo := hide (lost_any _ w5 p s none 0 0 [] (HD.out.stay hk5 fun _ _ _ f => f) HG.out (by omega) (rz_nil _) (fun g off e _ => by cases e))
        clear hr5 hl5 hk5 HSe
        go_wp2_with fail
        go_at_call 10
        refine HLo.out.mono ?_
        rintro e w6 ⟨a6, c6, Lh, t, rfl, hr6, hc6, hl6, hk6⟩
        have HR6 := hide hr6
        have HC6 := hide hc6
        have HL6 := hide hl6
        have HK6 := hide (HK5.out.more hk6)
        have HD6 := hide (HD.out.stay HK6.out fun _ _ _ f => f)
        have HSp := hide (spoil_any _ w6 p s q0.seg q0.n q0.mask HD6.out (HG.out.ok (by omega)) hsg.1 hsg.2 hmk)
        have HR56 := hide (HR5.out.keep hk6 fun _ _ _ f => f)
        have HKw6 := hide (HKw.out.more (HK6.out.mono fun _ f => f.elim))
        clear b3 b4 b5
        obtain ⟨b3, b4, b5, _⟩ := HB0.out w6 HKw6.out
        have HG1 := hide (HG.out.spoil q0.seg q0.n q0.mask)
        have hdn1 : (s.spoil q0.seg q0.n q0.mask).2.down = false := by
          unfold St.spoil
          rw [HDn.out]
          cases s.there q0.seg with
          | none => exact HDn.out
          | some l =>
            simp only [Bool.false_eq_true, if_false]
            split
            · exact HDn.out
            · exact HDn.out
        have HDn1 := hide hdn1
        obtain ⟨r, hr⟩ : ∃ r, r = s.spoil q0.seg q0.n q0.mask := ⟨_, rfl⟩
        have HR := hide hr
        rw [← hr] at HSp HG1 HDn1
        obtain ⟨ec, s1⟩ := r
        simp only at HSp HG1 HDn1
        clear hr6 hc6 hl6 hk6 HLo hdn1 hr HR5
        go_wp2_with fail
        go_at_call 8
        refine HSp.out.mono ?_
        rintro e w7 ⟨rfl, hd7, hk7⟩
        have HD7 := hide hd7
        have HR57 := hide (HR56.out.keep hk7 fun g h1 _ h2 => by have := h2.2; omega)
        have HR67 := hide (HR6.out.keep hk7 fun g h1 _ h2 => by have := h2.2; have := HK5.out.size; omega)
        have HKw7 := hide (HKw6.out.more (hk7.mono fun i h => h.1))
        have HSe := hide (seen_any _ w7 p s1 hd7 (HG1.out.ok (by omega)))
        clear hd7 hk7 HSp HR56 HR6 b3 b4 b5
        go_wp2_with fail
        go_at_call 9
        refine HSe.out.mono ?_
        rintro e w8 ⟨a8, c8, L1, rfl, hr8, hl8, _, hk8⟩
        rw [HDn1.out]
        have HR8 := hide hr8
        have HL8 := hide (hl8 HDn1.out)
        have HK8 := hide hk8
        have HLo := hide (lost_any _ w8 p s1 none 0 0 [] (HD7.out.stay hk8 fun _ _ _ f => f) HG1.out (by omega) (rz_nil _) (fun g off e _ => by cases e))
        clear hr8 hl8 hk8 HSe
        go_wp2_with fail
        go_at_call 10
        refine HLo.out.mono ?_
        rintro e w9 ⟨a9, c9, Lh1, t1, rfl, hr9, hc9, hl9, hk9⟩
        have HK9 := hide (HK8.out.more hk9)
        have HR59 := hide (HR57.out.keep HK9.out fun _ _ _ f => f)
        have HR69 := hide (HR67.out.keep HK9.out fun _ _ _ f => f)
        have HR89 := hide (HR8.out.keep hk9 fun _ _ _ f => f)
        have HR9 := hide hr9
        have HC9 := hide hc9
        have HL9 := hide hl9
        have HKw9 := hide (HKw7.out.more (HK9.out.mono fun _ f => f.elim))
        have HD9 := hide (HD7.out.stay HK9.out fun _ _ _ f => f)
        clear hr9 hc9 hl9 hk9 HLo HR57 HR67 HR8 HK8 HK9 HKw7 HD7 HKw6 HD6 HK6
        obtain ⟨b3, b4, b5, _⟩ := HB0.out w9 HKw9.out
        have HAt := hide (at_any w9 _ a5 c5 L q0.seg HR59.out (HL5.out.len HG.out))
        go_wp2_with fail
        go_at_call 11
        refine HAt.out.mono ?_
        rintro e w10 ⟨rfl, hat⟩
        clear HAt
        rcases hat with ⟨ba, bc, b, rfl, hb, _, _, _⟩ | ⟨rfl, hno⟩
        · as_aux_lemma =>
          by_cases hin : 0 ≤ q0.n ∧ q0.n < (b.length : Int)
          · as_aux_lemma =>
            have hsp := spoil_yes (q := q0) HDn.out (HL5.out.get hb) hin.1 hin.2
            rw [← HR.out] at hsp
            injection hsp with h1 h2
            subst h1
            have e1 : L1 = turnL q0 L := HL8.out.uniq (lst_turn (q := q0) (t := s1) (fun k => by rw [h2]; exact turn_there hin.1 k) HL5.out) rfl
            have e2 : Lh1 = turnL q0 Lh := HL9.out.uniq (lst_turn (q := q0) (t := t1) (fun k => by have hc := HC9.out; rw [h2] at hc; exact crash_turn HG.out hin.1 HC6.out hc k) HL6.out) rfl
            subst e1
            subst e2
            have i1 : ¬ q0.n < 0 := by omega
            have i2 : ¬ ((b.length : Int) ≤ q0.n) := by omega
            have j1 : decide (q0.n < 0) = false := decide_eq_false i1
            have j2 : decide ((b.length : Int) ≤ q0.n) = false := decide_eq_false i2
            have HS1 := hide h2
            have HBB := hide hb
            have HIN := hide hin
            have T1 := hide (turned_any w10 _ a5 c5 L q0 HR59.out (HL5.out.len2 HG.out) hmk)
            unfold Stp.val at T1
            have CB : Hid (∀ w', Keep (fun i => W0.heap.size ≤ i) W0 w' → w'.cell? ⟨W.heap.size, 0, none⟩ = some (.int .i64 q0.which) ∧ w'.cell? ⟨W.heap.size, 1, none⟩ = some (.bool q0.copy) ∧ w'.cell? ⟨W.heap.size, 2, none⟩ = some (.int .i64 q0.what) ∧ w'.cell? ⟨W.heap.size, 3, none⟩ = some (.int .i64 q0.seg) ∧ w'.cell? ⟨W.heap.size, 4, none⟩ = some (.int .i64 q0.n) ∧ w'.cell? ⟨W.heap.size, 5, none⟩ = some (.int .u8 (q0.mask : Nat)) ∧ w'.cell? ⟨W.heap.size, 6, none⟩ = some (.slice q0.ba q0.b.length q0.bc) ∧ w'.cell? ⟨W.heap.size, 7, none⟩ = some (.slice q0.fa q0.fate.length q0.fc)) := fun w' k => by
              have hb := (HB0.out w' k).2.2.2
              exact ⟨by rw [cell_of_row _ _ _ _ _ _ hb]; rfl, by rw [cell_of_row _ _ _ _ _ _ hb]; rfl, by rw [cell_of_row _ _ _ _ _ _ hb]; rfl, by rw [cell_of_row _ _ _ _ _ _ hb]; rfl, by rw [cell_of_row _ _ _ _ _ _ hb]; rfl, by rw [cell_of_row _ _ _ _ _ _ hb]; rfl, by rw [cell_of_row _ _ _ _ _ _ hb]; rfl, by rw [cell_of_row _ _ _ _ _ _ hb]; rfl⟩
            clear hb hin h2 b3 b4 b5
            obtain ⟨b0, b1, b2, b3, b4, b5, b6, b7⟩ := CB.out w10 HKw9.out
            go_wp2_with fail
            go_at_call 13
            refine T1.out.mono ?_
            rintro e w11 ⟨a11, c11, rfl, hr11, hk11⟩
            have K11 := hide hk11
            have A1 := hide (alike_any w11 _ _ a11 a8 c11 c8 (turnL q0 L) hr11 (HR89.out.keep hk11 fun _ _ _ f => f) (HL8.out.len HG1.out))
            clear T1 hr11 hk11 b0 b1 b2 b3 b4 b5 b6 b7
            go_wp2_with fail
            go_at_call 12
            refine A1.out.mono ?_
            rintro e w12 ⟨rfl, hk12⟩
            have K12 := hide (K11.out.more hk12)
            have T2 := hide (turned_any w12 _ a6 c6 Lh q0 (HR69.out.keep K12.out fun _ _ _ f => f) (HL6.out.len2 (HG.out.crash HC6.out)) hmk)
            unfold Stp.val at T2
            clear A1 hk12 K11
            obtain ⟨b0, b1, b2, b3, b4, b5, b6, b7⟩ := CB.out w12 (HKw9.out.more (K12.out.mono fun _ f => f.elim))
            go_wp2_with fail
            go_at_call 13
            refine T2.out.mono ?_
            rintro e w13 ⟨a13, c13, rfl, hr13, hk13⟩
            have K13 := hide (K12.out.more hk13)
            have A2 := hide (alike_any w13 _ _ a13 a9 c13 c9 (turnL q0 Lh) hr13 (HR9.out.keep K13.out fun _ _ _ f => f) (HL9.out.len (HG1.out.crash HC9.out)))
            clear T2 hr13 hk13 K12 b0 b1 b2 b3 b4 b5 b6 b7
            go_wp2_with fail
            go_at_call 12
            refine A2.out.mono ?_
            rintro e w14 ⟨rfl, hk14⟩
            have K14 := hide (K13.out.more hk14)
            have HKw14 := hide (HKw9.out.more (K14.out.mono fun _ f => f.elim))
            have HSp2 := hide (spoil_any _ w14 p s1 q0.seg q0.n q0.mask (HD9.out.stay K14.out fun _ _ _ f => f) (HG1.out.ok (by omega)) hsg.1 hsg.2 hmk)
            have hb1 : s1.there q0.seg = some (turn1 q0 b q0.seg) := by
              rw [HS1.out, turn_there HIN.out.1, HL5.out.get HBB.out]
              rfl
            rw [spoil_yes (q := q0) HDn1.out hb1 HIN.out.1 (by rw [turn1_len]; exact HIN.out.2)] at HSp2
            have HTT : Hid ((s1.turn q0.seg q0.n.toNat q0.mask).there = s.there) := by
              show _ = _
              rw [HS1.out]
              exact turn_turn (HL5.out.get HBB.out) HIN.out.1 HIN.out.2
            have HG2 : Hid (Good (q + 1 + 1) (s1.turn q0.seg q0.n.toNat q0.mask)) := by
              have := HG1.out.spoil q0.seg q0.n q0.mask
              rw [spoil_yes (q := q0) HDn1.out hb1 HIN.out.1 (by rw [turn1_len]; exact HIN.out.2)] at this
              exact this
            have HDn2 : Hid ((s1.turn q0.seg q0.n.toNat q0.mask).down = false) := HDn1.out
            generalize s1.turn q0.seg q0.n.toNat q0.mask = s2 at *
            have HR14 := hide (HR59.out.keep K14.out fun _ _ _ f => f)
            clear A2 hk14 K13 hb1
            obtain ⟨_, _, _, b3, b4, b5, _, _⟩ := CB.out w14 HKw14.out
            go_wp2_with fail
            go_at_call 8
            refine HSp2.out.mono ?_
            rintro e w15 ⟨rfl, hd15, hk15⟩
            have HKw15 := hide (HKw14.out.more (hk15.mono fun i h => h.1))
            have HR15 := hide (HR14.out.keep hk15 fun g h1 _ h2 => by have := h2.2; omega)
            have HSe := hide (seen_any _ w15 p s2 hd15 (HG2.out.ok (by omega)))
            clear HSp2 hd15 hk15 b3 b4 b5 HR14
            go_wp2_with fail
            go_at_call 9
            refine HSe.out.mono ?_
            rintro e w16 ⟨a16, c16, L2, rfl, hr16, hl16, _, hk16⟩
            rw [HDn2.out]
            obtain rfl : L2 = L := (hl16 HDn2.out).uniq HL5.out HTT.out
            have A3 := hide (alike_any w16 _ _ a5 a16 c5 c16 L2 (HR15.out.keep hk16 fun _ _ _ f => f) hr16 (HL5.out.len HG.out))
            have HKw16 := hide (HKw15.out.more (hk16.mono fun _ f => f.elim))
            clear HSe hr16 hl16 hk16
            go_wp2_with fail
            go_at_call 12
            refine A3.out.mono ?_
            rintro e w17 ⟨rfl, hk17⟩
            have KE := hide (HKF.out w17 (HKw16.out.more (hk17.mono fun _ f => f.elim)))
            clear hk17 A3
            go_wp2_with fail
            go_ret
            exact ⟨rfl, KE.out⟩
          · as_aux_lemma =>
            have hsp := spoil_no_ (q := q0) HDn.out (.inr ⟨b, HL5.out.get hb, by omega⟩)
            rw [if_neg (by rw [HL5.out.get hb]; simp), ← HR.out] at hsp
            injection hsp with h1 h2
            subst h1
            subst h2
            obtain rfl : L1 = L := HL8.out.uniq HL5.out rfl
            obtain rfl : Lh1 = Lh := HL9.out.uniq HL6.out (HC9.out.uniq HC6.out)
            have A1 := hide (alike_any w10 _ _ a5 a8 c5 c8 L1 HR59.out HR89.out (HL8.out.len HG1.out))
            have A2 := hide (fun w' (k : Keep (fun _ => False) w10 w') => alike_any w' _ _ a6 a9 c6 c9 Lh1 (HR69.out.keep k fun _ _ _ f => f) (HR9.out.keep k fun _ _ _ f => f) (HL9.out.len (HG1.out.crash HC9.out)))
            by_cases i1 : q0.n < 0
            · have j1 : decide (q0.n < 0) = true := decide_eq_true i1
              clear hb hin
              go_wp2_with fail
              go_at_call 12
              refine A1.out.mono ?_
              rintro e w11 ⟨rfl, hk11⟩
              have A2' := hide (A2.out w11 hk11)
              have K11 := hide hk11
              clear hk11 A1 A2
              go_wp2_with fail
              go_at_call 12
              refine A2'.out.mono ?_
              rintro e w12 ⟨rfl, hk12⟩
              have KE := hide (HKF.out w12 (HKw9.out.more ((K11.out.more hk12).mono fun _ f => f.elim)))
              clear hk12 A2'
              go_wp2_with fail
              go_ret
              exact ⟨rfl, KE.out⟩
            · have i2 : (b.length : Int) ≤ q0.n := by omega
              have j1 : decide (q0.n < 0) = false := decide_eq_false i1
              have j2 : decide ((b.length : Int) ≤ q0.n) = true := decide_eq_true i2
              clear hb hin
              go_wp2_with fail
              go_at_call 12
              refine A1.out.mono ?_
              rintro e w11 ⟨rfl, hk11⟩
              have A2' := hide (A2.out w11 hk11)
              have K11 := hide hk11
              clear hk11 A1 A2
              go_wp2_with fail
              go_at_call 12
              refine A2'.out.mono ?_
              rintro e w12 ⟨rfl, hk12⟩
              have KE := hide (HKF.out w12 (HKw9.out.more ((K11.out.more hk12).mono fun _ f => f.elim)))
              clear hk12 A2'
              go_wp2_with fail
              go_ret
              exact ⟨rfl, KE.out⟩
        · as_aux_lemma =>
          have hsp := spoil_no_ (q := q0) HDn.out (.inl (HL5.out.none_ hno))
          have hnn : s.there q0.seg = none := Option.eq_none_iff_forall_ne_some.2 (HL5.out.none_ hno)
          rw [if_pos hnn, ← HR.out] at hsp
          injection hsp with h1 h2
          subst h1
          subst h2
          obtain rfl : L1 = L := HL8.out.uniq HL5.out rfl
          obtain rfl : Lh1 = Lh := HL9.out.uniq HL6.out (HC9.out.uniq HC6.out)
          have A1 := hide (alike_any w10 _ _ a5 a8 c5 c8 L1 HR59.out HR89.out (HL8.out.len HG1.out))
          have A2 := hide (fun w' (k : Keep (fun _ => False) w10 w') => alike_any w' _ _ a6 a9 c6 c9 Lh1 (HR69.out.keep k fun _ _ _ f => f) (HR9.out.keep k fun _ _ _ f => f) (HL9.out.len (HG1.out.crash HC9.out)))
          clear hno hnn
          go_wp2_with fail
          go_at_call 12
          refine A1.out.mono ?_
          rintro e w11 ⟨rfl, hk11⟩
          have A2' := hide (A2.out w11 hk11)
          have K11 := hide hk11
          clear hk11 A1 A2
          go_wp2_with fail
          go_at_call 12
          refine A2'.out.mono ?_
          rintro e w12 ⟨rfl, hk12⟩
          have KE := hide (HKF.out w12 (HKw9.out.more ((K11.out.more hk12).mono fun _ f => f.elim)))
          clear hk12 A2'
          go_wp2_with fail
          go_ret
          exact ⟨rfl, KE.out⟩
end Go.Proofs.Ytejbacgkipbmeaa
