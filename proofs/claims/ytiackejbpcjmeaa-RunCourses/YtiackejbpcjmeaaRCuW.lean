/- RunCourses: the walk. -/
import Derived.Test.YtiackejbpcjmeaaRCoW
import Derived.Test.YtiackejbpcjmeaaRFtA
import Derived.Deep.CutRange
namespace Go.Proofs.Ytiackejbpcjmeaa
namespace Rn
open Go.RowKit Gr

theorem fits_twoC {nm : ByteArray} {dl : Int} {xs : List No} {e : Ending} (h : e = .returned (.tuple #[.bool false, .bool false]) ∨ e = .returned (.tuple #[.bool true, .bool (decide ((chk nm dl xs).2 = 0))]) ∧ xs.length + edges xs ≤ 20000) : ∃ f m : Bool, e = .returned (.tuple #[.bool f, .bool m]) ∧ Hid (f = true → m = true → (chk nm dl xs).2 = 0 ∧ xs.length + edges xs ≤ 20000) := by
  rcases h with rfl | ⟨rfl, h⟩
  · exact ⟨false, false, rfl, (show Hid _ from fun h => absurd h (by decide))⟩
  · exact ⟨true, _, rfl, (show Hid _ from fun _ h2 => ⟨of_decide_eq_true h2, h⟩)⟩
set_option maxRecDepth 100000 in
set_option maxHeartbeats 40000000 in
theorem courses_walk (nm : ByteArray) (dl : Int) (s t u y : Option Addr × Nat × Nat) (xs : List No) (z o r : List Int) (w : World) (hP : RdP w.heap.size w s xs) (hs : Sz nm xs) (hc : CapP xs) (hz : RdZ w.heap.size w t z) (ho : RdZ w.heap.size w u o) (hy : RdZ w.heap.size w y r) (hzb : ∀ c ∈ z, -9223372036854775808 ≤ c ∧ c ≤ 9223372036854775807) (hob : ∀ c ∈ o, -9223372036854775808 ≤ c ∧ c ≤ 9223372036854775807) (hrb : ∀ c ∈ r, -9223372036854775808 ≤ c ∧ c ≤ 9223372036854775807) :
    Calls Try.prog 3 #[.agg #[.string nm, .int .i64 dl, .slice s.1 s.2.1 s.2.2, .slice t.1 t.2.1 t.2.2, .slice u.1 u.2.1 u.2.2, .slice y.1 y.2.1 y.2.2]] w fun e w' => e = .returned (.bool true) ∧ Below w.heap.size w w' := by
  obtain ⟨a, n, c⟩ := s
  obtain ⟨ma, mn, mc⟩ := t
  obtain ⟨oa, on, oc⟩ := u
  obtain ⟨ya, yn, yc⟩ := y
  have HN : Hid (n = xs.length) := hP.1
  have HMN : Hid (mn = z.length) := hz.1
  have hmn2 : mn ≤ 17592186044416 := hz.2.1
  have k1 := Keep.alloc (fun _ => False) w (.cells #[.string nm, .int .i64 dl, .slice a n c, .slice ma mn mc, .slice oa on oc, .slice ya yn yc] 27)
  have b1 := heap_alloc_new w (.cells #[.string nm, .int .i64 dl, .slice a n c, .slice ma mn mc, .slice oa on oc, .slice ya yn yc] 27)
  have HM : Hid (∀ W, Below (w.alloc (.cells #[.string nm, .int .i64 dl, .slice a n c, .slice ma mn mc, .slice oa on oc, .slice ya yn yc] 27)).heap.size (w.alloc (.cells #[.string nm, .int .i64 dl, .slice a n c, .slice ma mn mc, .slice oa on oc, .slice ya yn yc] 27)) W → (W.cell? ⟨w.heap.size, 0, none⟩ = some (.string nm) ∧ W.cell? ⟨w.heap.size, 1, none⟩ = some (.int .i64 dl) ∧ W.cell? ⟨w.heap.size, 2, none⟩ = some (.slice a n c) ∧ W.cell? ⟨w.heap.size, 3, none⟩ = some (.slice ma mn mc) ∧ W.cell? ⟨w.heap.size, 4, none⟩ = some (.slice oa on oc) ∧ W.cell? ⟨w.heap.size, 5, none⟩ = some (.slice ya yn yc)) ∧ RdP W.heap.size W (a, n, c) xs ∧ RdZ W.heap.size W (ma, mn, mc) z ∧ RdZ W.heap.size W (oa, on, oc) o ∧ RdZ W.heap.size W (ya, yn, yc) r ∧ Below w.heap.size w W) := fun W k => by
    have k2 : Keep (fun _ => False) (w.alloc (.cells #[.string nm, .int .i64 dl, .slice a n c, .slice ma mn mc, .slice oa on oc, .slice ya yn yc] 27)) W := Keep.ofBelow k (Nat.le_refl _)
    have kk := k1.more k2
    have bb := k2.blk b1 (fun f => f)
    exact ⟨⟨cell_blk bb 0 rfl, cell_blk bb 1 rfl, cell_blk bb 2 rfl, cell_blk bb 3 rfl, cell_blk bb 4 rfl, cell_blk bb 5 rfl⟩, (hP.new kk).mono kk.size, (hz.new kk).mono kk.size, (ho.new kk).mono kk.size, (hy.new kk).mono kk.size, kk.below (Nat.le_refl _) fun _ f => f.elim⟩
  have HS := hide hs
  have HC := hide hc
  have HZB := hide hzb
  have HOB := hide hob
  have HRB := hide hrb
  clear hP hs hc hz ho hy hzb hob hrb k1 b1
  go_enter Try.func3, Try.ntmps3
  go_upto_region 1 with fail
  obtain ⟨H, hH⟩ : ∃ H, H = w.heap.size := ⟨_, rfl⟩
  generalize w.alloc (.cells #[.string nm, .int .i64 dl, .slice a n c, .slice ma mn mc, .slice oa on oc, .slice ya yn yc] 27) = w1 at *
  simp only [← hH] at HM ⊢
  have HHE := hide hH
  clear hH
  go_wp2_with fail
  go_at_call 5
  refine (awake_any w1).mono ?_
  rintro e w2 ⟨rfl, b2⟩
  have B2 := hide b2
  obtain ⟨⟨c0, c1, c2, c3, c4, c5⟩, hp, _, _, _, _⟩ := HM.out w2 b2
  have FT := hide (fits_any nm dl (a, n, c) xs w2 hp HS.out)
  clear hp b2
  go_wp2_with fail
  go_at_call 6
  refine FT.out.mono ?_
  rintro e w3 ⟨hE, k3⟩
  obtain ⟨f1, m1, rfl, F1⟩ := fits_twoC hE
  have B3 : Hid (Below w1.heap.size w1 w3) := B2.out.trans (k3.below B2.out.size fun _ f => f.elim)
  clear c0 c1 c2 c3 c4 c5 hE k3 FT B2
  have KW := hide (HM.out w3 B3.out).2.2.2.2.2
  cases f1
  case false =>
    go_wp2_with fail
    go_ret
    exact ⟨rfl, by rw [← HHE.out]; exact KW.out⟩
  cases m1
  case false =>
    go_wp2_with fail
    go_ret
    exact ⟨rfl, by rw [← HHE.out]; exact KW.out⟩
  obtain ⟨hck, hsm⟩ := F1.out rfl rfl
  have BU := hide (bu_of hck)
  have VX := hide (chk_ok hck).2.2.2.1
  have NC := hide (cyc_none (chk_ok hck).2.2.2.2)
  have HBM := hide (msF_in (z := z) BU.out)
  have hn64 : n ≤ 64 := by rw [HN.out]; exact VX.out.1
  have CO1 := hide (fun (W : World) (k : Below w1.heap.size w1 W) => course_any nm dl (a, n, c) (ma, mn, mc) (oa, on, oc) xs z o W (HM.out W k).2.1 HS.out HC.out hck hsm (HM.out W k).2.2.1 (HM.out W k).2.2.2.1 HZB.out HOB.out)
  have CO2 := hide (fun (W : World) (k : Below w1.heap.size w1 W) => course_any nm dl (a, n, c) (ma, mn, mc) (ya, yn, yc) xs z r W (HM.out W k).2.1 HS.out HC.out hck hsm (HM.out W k).2.2.1 (HM.out W k).2.2.2.2.1 HZB.out HRB.out)
  have EX := hide (fun (R : Rs) (h : May (xs.map nx) R) (hB : RsB R.ps) => (⟨May.res (xs := xs) h hB, (by have := h.1.1; simpa using this)⟩ : (∀ p ∈ R.ps, (∀ d ∈ p.rs, d < 256) ∧ p.rs.length ≤ 1000) ∧ R.ps.length = xs.length))
  have ZB := HZB
  clear F1 hsm hck KW HS HC HZB HOB HRB
  obtain ⟨⟨c0, c1, c2, c3, c4, c5⟩, _, _, _, _, _⟩ := HM.out w3 B3.out
  go_wp2_with fail
  go_at_call 7
  refine (CO1.out w3 B3.out).mono ?_
  rintro e w4 ⟨v4, R, st, lea, b4, rfl, ht4, hcs, hst, hb4⟩
  have HCS := hide hcs
  have HST := hide hst
  have B4 := hide (B3.out.trans (hb4.mono B3.out.size))
  have E4 := hide (EX.out R hcs.may hcs.rsb)
  obtain ⟨la, lc, rfl, hr4⟩ := ht4.rd E4.out.1
  have RT4 := hide hr4
  clear c0 c1 c2 c3 c4 c5 ht4 hcs hst hb4 hr4 CO1
  obtain ⟨⟨c0, c1, c2, c3, c4, c5⟩, _, _, _, _, _⟩ := HM.out w4 B4.out
  go_wp2_with fail
  go_at_call 7
  refine (CO2.out w4 B4.out).mono ?_
  rintro e w5 ⟨v5, R', st', lea', b5, rfl, ht5, hcs', hst', hb5⟩
  have hRR := fin_uniq VX.out NC.out HCS.out hcs' HST.out hst'
  subst hRR
  have hll : lea' = lea := by rw [← hcs'.tr, ← HCS.out.tr]
  subst hll
  have k5 : Keep (fun _ => False) w4 w5 := Keep.ofBelow hb5 (Nat.le_refl _)
  have B5 := hide (B4.out.trans (hb5.mono B4.out.size))
  have RT5 := hide (RT4.out.new k5)
  obtain ⟨la2, lc2, rfl, hr5⟩ := ht5.rd E4.out.1
  have HPL : Hid (R.ps.length = n) := by show _ = _; rw [E4.out.2, HN.out]
  have SN := hide (sameNodes_any (la, R.ps.length, lc) (la2, R.ps.length, lc2) R.ps R.ps w5 RT5.out hr5 rfl (by have := HPL.out; omega))
  clear c0 c1 c2 c3 c4 c5 ht5 hcs' hst' hb5 hr5 CO2 k5 RT4
  go_wp2_with fail
  go_at_call 8
  refine SN.out.mono ?_
  rintro e w6 ⟨⟨bb, rfl, hbb⟩, k6⟩
  obtain rfl : bb = true := hbb rfl
  have B6 := hide (B5.out.trans (k6.below B5.out.size fun _ f => f.elim))
  have RT6 := hide (RT5.out.new k6)
  clear hbb k6 SN RT5 B5
  rw [HPL.out] at RT6 ⊢
  have HAS := hide (fin_set HCS.out HST.out)
  go_wp2_with fail
  go_loopw [15] (fun v15 wr => ∃ i : Nat, v15 = .int .i64 (i : Nat) ∧ i ≤ n ∧ wr = w6) (fun v15 _ => n - (intOf v15).toNat)
  case atStart => exact ⟨0, rfl, Nat.zero_le _, rfl⟩
  case round => as_aux_lemma =>
    obtain ⟨i, rfl, hi, hw⟩ := hrel
    subst hw
    obtain ⟨⟨c0, c1, c2, c3, c4, c5⟩, hp, hrz, _, _, KW⟩ := HM.out _ B6.out
    have HKW := hide KW
    clear KW
    by_cases hlt : i < n
    · as_aux_lemma =>
      obtain ⟨g, off, x, hs, _, hx, hN, _, _⟩ := hp.at (i := i) hlt
      have hs : a = some ⟨g, off, none⟩ := hs
      subst hs
      have n2 := hN.all.2.2.1
      have hbx := BU.out x (List.mem_of_getElem? hx)
      obtain ⟨g1, o1, q, m, hla, hq, q0, q1, _, _⟩ := RT6.out.at (i := i) (by have := HPL.out; omega)
      have hla : la = some ⟨g1, o1, none⟩ := hla
      subst hla
      have hbf : buF xs i = x.q.bu := by unfold buF; rw [hx]
      have hfn := fin_node (xs := xs) (fun k hk => HBM.out.1 k (by simpa using hk)) HCS.out HAS.out hq
      have hms := HBM.out.1 i (by rw [List.length_map, ← HN.out]; exact hlt)
      have hm2 := (HBM.out.2 i (nx x) (nx_at hx)).2
      rw [hbf] at hfn hm2
      have HX := hide hx
      have HFN := hide hfn
      have hms1 : 0 ≤ msF xs z i := hms.2
      obtain ⟨b, hb⟩ : ∃ b, b = x.q.bu := ⟨_, rfl⟩
      rw [← hb] at n2 hbx HFN hm2
      obtain ⟨hb0, hb1⟩ := hbx
      have HBB := hide hb
      clear hp hx hN hbf hfn hms hq hb
      go_upto_if 96 with fail
      go_cut [17] from 79 to 134 (fun v wx => v = .int .i64 (msF xs z i) ∧ wx = wr)
      case first => as_aux_lemma =>
        by_cases him : i < mn
        · obtain ⟨gm, om, cm, hma, hcm2, ccm⟩ := rdz_atC hrz (i := i) him
          have hma : ma = some ⟨gm, om, none⟩ := hma
          subst hma
          have HMS : Hid (msF xs z i = pkI cm (b + 1)) := by show _ = _; rw [msF_at hcm2 HX.out, HBB.out]
          have hcb := ZB.out cm (List.mem_of_getElem? hcm2)
          have PK := hide (fun W : World => pick_val cm (b + 1) hcb.1 hcb.2 (by omega) (by omega) W)
          clear hcm2 hcb hrz
          go_wp2_with fail
          go_at_call 9
          refine (PK.out _).mono ?_
          rintro e wp ⟨rfl, hw⟩
          subst hw
          go_wp2_with fail
          go_meet
          case rel => exact ⟨by rw [HMS.out], rfl⟩
        · have HMS : Hid (msF xs z i = 0) := msF_none (by have := HMN.out; omega)
          go_wp2_with fail
          go_meet
          case rel => exact ⟨by rw [HMS.out], rfl⟩
      case rest => as_aux_lemma =>
        obtain ⟨rfl, hw⟩ := hcut
        subst hw
        obtain ⟨M, hM⟩ : ∃ M, M = msF xs z i := ⟨_, rfl⟩
        rw [← hM] at HFN hms1 hm2 ⊢
        clear hM
        rcases HFN.out with h7 | ⟨h5, h51, h52⟩ | ⟨h6, h61, h62⟩
        · rw [h7] at q0
          clear h7 HFN
          go_wp2_with fail
          go_roundw
          · exact ⟨i + 1, rfl, by omega, by trivial⟩
          · show n - ((i : Int) + 1).toNat < n - (i : Int).toNat
            omega
        · rw [h5] at q0
          rw [h51] at q1
          have hmin : min (M + 1) b = M + 1 := by omega
          have hmb : (M == b) = false := by simp; omega
          clear h5 h51 HFN
          go_wp2_with fail
          try simp only [hmin]
          go_wp2_with fail
          go_roundw
          · exact ⟨i + 1, rfl, by omega, by trivial⟩
          · show n - ((i : Int) + 1).toNat < n - (i : Int).toNat
            omega
        · rw [h6] at q0
          rw [h61] at q1
          subst h62
          have hmin : min (M + 1) M = M := by omega
          clear h6 h61 HFN
          go_wp2_with fail
          try simp only [hmin]
          go_wp2_with fail
          go_roundw
          · exact ⟨i + 1, rfl, by omega, by trivial⟩
          · show n - ((i : Int) + 1).toNat < n - (i : Int).toNat
            omega
    · as_aux_lemma =>
      obtain rfl : i = n := by omega
      go_wp2_with fail
      go_ret
      exact ⟨rfl, by rw [← HHE.out]; exact HKW.out⟩
end Rn
end Go.Proofs.Ytiackejbpcjmeaa
