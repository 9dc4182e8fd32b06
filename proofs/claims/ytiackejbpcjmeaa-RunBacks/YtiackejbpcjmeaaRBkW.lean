/- RunBacks: the walk. -/
import Derived.Test.YtiackejbpcjmeaaRBkM
import Derived.Test.YtiackejbpcjmeaaROpd
import Derived.Deep.CutRange
namespace Go.Proofs.Ytiackejbpcjmeaa
namespace Rn
open Go.RowKit Gr

theorem fits_twoB {nm : ByteArray} {dl : Int} {xs : List No} {e : Ending} (h : e = .returned (.tuple #[.bool false, .bool false]) ∨ e = .returned (.tuple #[.bool true, .bool (decide ((chk nm dl xs).2 = 0))]) ∧ xs.length + edges xs ≤ 20000) : ∃ f m : Bool, e = .returned (.tuple #[.bool f, .bool m]) ∧ Hid (f = true → m = true → (chk nm dl xs).2 = 0 ∧ xs.length + edges xs ≤ 20000) := by
  rcases h with rfl | ⟨rfl, h⟩
  · exact ⟨false, false, rfl, (show Hid _ from fun h => absurd h (by decide))⟩
  · exact ⟨true, _, rfl, (show Hid _ from fun _ h2 => ⟨of_decide_eq_true h2, h⟩)⟩
set_option maxRecDepth 100000 in
set_option maxHeartbeats 40000000 in
theorem backs_walk (nm : ByteArray) (dl : Int) (s t u : Option Addr × Nat × Nat) (xs : List No) (qs us : List Sp) (w : World) (hP : RdP w.heap.size w s xs) (hs : Sz nm xs) (hc : CapP xs) (hq : RdO w t qs) (hu : RdO w u us) :
    Calls Try.prog 4 #[.agg #[.string nm, .int .i64 dl, .slice s.1 s.2.1 s.2.2], .slice t.1 t.2.1 t.2.2, .slice u.1 u.2.1 u.2.2] w fun e w' => e = .returned (.bool true) ∧ Below w.heap.size w w' := by
  obtain ⟨a, n, c⟩ := s
  obtain ⟨ta, tn, tc⟩ := t
  obtain ⟨ua, un, uc⟩ := u
  have HN : Hid (n = xs.length) := hP.1
  have htn2 : tn ≤ 140737488355328 := hq.2.1
  have hun2 : un ≤ 140737488355328 := hu.2.1
  have k1 := Keep.alloc (fun _ => False) w (.cells #[.string nm, .int .i64 dl, .slice a n c] 24)
  have b1 := heap_alloc_new w (.cells #[.string nm, .int .i64 dl, .slice a n c] 24)
  have HM : Hid (∀ W, Below (w.alloc (.cells #[.string nm, .int .i64 dl, .slice a n c] 24)).heap.size (w.alloc (.cells #[.string nm, .int .i64 dl, .slice a n c] 24)) W → (W.cell? ⟨w.heap.size, 0, none⟩ = some (.string nm) ∧ W.cell? ⟨w.heap.size, 1, none⟩ = some (.int .i64 dl) ∧ W.cell? ⟨w.heap.size, 2, none⟩ = some (.slice a n c)) ∧ RdP W.heap.size W (a, n, c) xs ∧ RdO W (ta, tn, tc) qs ∧ RdO W (ua, un, uc) us ∧ Below w.heap.size w W) := fun W k => by
    have k2 : Keep (fun _ => False) (w.alloc (.cells #[.string nm, .int .i64 dl, .slice a n c] 24)) W := Keep.ofBelow k (Nat.le_refl _)
    have kb : Below w.heap.size w W := (k1.more k2).below (Nat.le_refl _) fun _ f => f.elim
    exact ⟨⟨cell_blk (k2.blk b1 (fun f => f)) 0 rfl, cell_blk (k2.blk b1 (fun f => f)) 1 rfl, cell_blk (k2.blk b1 (fun f => f)) 2 rfl⟩, (hP.new (k1.more k2)).mono (k1.more k2).size, hq.below kb, hu.below kb, kb⟩
  have HS := hide hs
  have HC := hide hc
  clear hP hs hc hq hu k1 b1
  go_enter Try.func4, Try.ntmps4
  go_upto_region 1 with fail
  obtain ⟨H, hH⟩ : ∃ H, H = w.heap.size := ⟨_, rfl⟩
  generalize w.alloc (.cells #[.string nm, .int .i64 dl, .slice a n c] 24) = w1 at *
  simp only [← hH] at HM ⊢
  have HHE := hide hH
  clear hH
  go_wp2_with fail
  go_at_call 5
  refine (awake_any w1).mono ?_
  rintro e w2 ⟨rfl, b2⟩
  have B2 := hide b2
  obtain ⟨⟨c0, c1, c2⟩, hp, _, _, _⟩ := HM.out w2 b2
  have FT := hide (fits_any nm dl (a, n, c) xs w2 hp HS.out)
  clear hp b2
  go_wp2_with fail
  go_at_call 6
  refine FT.out.mono ?_
  rintro e w3 ⟨hE, k3⟩
  obtain ⟨f1, m1, rfl, F1⟩ := fits_twoB hE
  have B3 : Hid (Below w1.heap.size w1 w3) := B2.out.trans (k3.below B2.out.size fun _ f => f.elim)
  clear c0 c1 c2 hE k3 FT B2
  have KW := hide (HM.out w3 B3.out).2.2.2.2
  cases f1
  case false =>
    go_wp2_with fail
    go_ret
    exact ⟨rfl, by rw [← HHE.out]; exact KW.out⟩
  cases m1
  case false =>
    go_wp2_with fail
    go_ret
    exact ⟨rfl, by rw [← HHE.out]; exact KW.out⟩
  obtain ⟨hck, hsm⟩ := F1.out rfl rfl
  have hz : ∀ x ∈ xs, x.nl.length ≤ 20000 ∧ x.al.length ≤ 20000 := fun x hx => by have := edges_mem hx; omega
  have hxl : xs.length ≤ 20000 := by omega
  have HZ := hide hz
  have PLN := hide (fun (W : World) (k : Below w1.heap.size w1 W) => planned_any nm dl (a, n, c) xs W (HM.out W k).2.1 HC.out hxl hz)
  have CP := hide (fun (W : World) (B : Nat) (v : Option Addr) (m d : Nat) (zs : List No) (h : NdX B W (.slice v m d) zs) (he : zs.map er = xs.map er) => cp_of (nm := nm) (dl := dl) h he hxl hz HS.out)
  have CK1 := hide hck
  clear F1 hsm hz hxl hck KW
  obtain ⟨⟨c0, c1, c2⟩, _, _, _, _⟩ := HM.out w3 B3.out
  go_wp2_with fail
  go_at_call 11
  refine (PLN.out w3 B3.out).mono ?_
  rintro e w4 ⟨pa, pc, zs0, rfl, _, hnd, hye, hb4⟩
  have C4 := hide (CP.out w4 _ pa _ pc zs0 hnd hye)
  have B4 := hide (B3.out.trans (hb4.mono B3.out.size))
  have NW := hide (new_any2 nm dl (pa, xs.length, pc) zs0 w4 C4.out.rd C4.out.cap C4.out.sz C4.out.ln)
  clear hnd hye hb4 c0 c1 c2
  go_wp2_with fail
  go_at_call 10
  refine NW.out.mono ?_
  intro e w5 hE
  obtain ⟨p, d, sk, r, rfl, hPs, hGs, hye, hpn, hcp, hR, hb5⟩ := made_r C4.out CK1.out hE
  have kz := Keep.alloc (fun _ => False) w5 (.cells #[.slice d.1 d.2.1 d.2.2, .slice sk.1 sk.2.1 sk.2.2, .slice r.1 r.2.1 r.2.2, .int .i64 (newR (xs.map nx)).2.stt] 45)
  have B5 := hide (B4.out.trans (hb5.mono B4.out.size))
  have SO0 : Hid (So w1 p (newR (xs.map nx)).2 (w5.alloc (.cells #[.slice d.1 d.2.1 d.2.2, .slice sk.1 sk.2.1 sk.2.2, .slice r.1 r.2.1 r.2.2, .int .i64 (newR (xs.map nx)).2.stt] 45))) := ⟨hR.new kz, B5.out.trans (kz.below B5.out.size fun _ f => f.elim), by have := B4.out.size; omega, by have := B4.out.size; omega⟩
  have HX := hide (map_nx hye)
  have HXL : Hid (p.xs.length = xs.length) := by show _ = _; have := congrArg List.length hye; simpa using this
  have hsz := sizes_of CK1.out
  have HCO : Hid (CapP p.xs ∧ p.nm.size ≤ 281474976710656 ∧ (∀ x ∈ p.xs, x.q.nm.size ≤ 281474976710656) ∧ ∀ x ∈ p.xs, x.nl.length ≤ 20000 ∧ x.al.length ≤ 20000) := ⟨hcp, by rw [hpn]; exact hsz.1, fun x hx => by
    obtain ⟨y, hy, _, _, e3⟩ := mem_er hye hx
    rw [e3]; exact hsz.2 y hy, fun x hx => by
    obtain ⟨y, hy, e1, e2, _⟩ := mem_er hye hx
    rw [e1, e2]; exact HZ.out y hy⟩
  have BU := hide (bu_of CK1.out)
  have VX := hide (chk_ok CK1.out).2.2.2.1
  have HB : Hid (∀ x ∈ xs.map nx, 1 ≤ x.bu) := fun x hx => by obtain ⟨y, hy, rfl⟩ := List.mem_map.1 hx; exact (BU.out y hy).1
  have MY := hide (new_may HB.out)
  have RB := hide (new_rsb (xs.map nx))
  have EX := hide (fun (R : Rs) (h : May (xs.map nx) R) (hB : RsB R.ps) => (⟨May.res (xs := xs) h hB, May.trs VX.out BU.out h, (by have := h.1.1; simpa using this)⟩ : (∀ p ∈ R.ps, (∀ d ∈ p.rs, d < 256) ∧ p.rs.length ≤ 1000) ∧ (∀ p ∈ R.ps, -1000 ≤ p.tr ∧ p.tr ≤ 1000) ∧ R.ps.length = xs.length))
  clear hE hb5 NW C4 kz hPs hGs hye hpn hcp hR hsz B3 B4 B5
  generalize (newR (xs.map nx)).2 = R0 at *
  simp only
  go_upto_region 6 with fail
  generalize w5.alloc (.cells #[.slice d.1 d.2.1 d.2.2, .slice sk.1 sk.2.1 sk.2.2, .slice r.1 r.2.1 r.2.2, .int .i64 R0.stt] 45) = w6 at *
  go_wp2_with fail
  go_loopw [13] (fun v13 wr => ∃ (i : Nat) (R : Rs), v13 = .int .i64 (i : Nat) ∧ i ≤ tn ∧ Hid (So w1 p R wr ∧ May (xs.map nx) R ∧ RsB R.ps)) (fun v13 _ => tn - (intOf v13).toNat)
  case atStart => exact ⟨0, R0, rfl, Nat.zero_le _, SO0.out, MY.out, RB.out⟩
  case round => as_aux_lemma =>
    clear SO0 MY RB
    obtain ⟨i, R, rfl, hi, HD⟩ := hrel
    have SO : Hid (So w1 p R wr) := HD.out.1
    have MY : Hid (May (xs.map nx) R) := HD.out.2.1
    have RB : Hid (RsB R.ps) := HD.out.2.2
    clear HD
    by_cases hlt : i < tn
    · as_aux_lemma =>
      obtain ⟨_, _, ho, _, _⟩ := HM.out wr SO.out.bel
      obtain ⟨g, off, q, hta, hqi, hsq, q0, q1, q2, q3, q4⟩ := ho.at (i := i) hlt
      have hta : ta = some ⟨g, off, none⟩ := hta
      subst hta
      have HRS : Hid (∀ d ∈ q.res, d < 256) := hsq.1.2.2.1
      have DO := hide (does_any SO.out.run SO.out.lt q hsq (EX.out R MY.out RB.out).2.1)
      rw [HX.out] at DO
      have M3 := hide (do_may HB.out MY.out q.k q.i q.res)
      have R3 : Hid (RsB (doR (xs.map nx) R q.k q.i q.res).2.ps) := do_rsb RB.out HRS.out
      have HLT := hide hlt
      clear ho hsq hqi HRS hlt hi
      generalize doR (xs.map nx) R q.k q.i q.res = out at *
      have hltw : i < tn := HLT.out
      go_wp2_with fail
      go_at_call 12
      refine DO.out.mono ?_
      rintro e wb ⟨vb, rfl, ⟨db, skb, rb, rfl, _, _, _⟩, hrb, kb⟩
      have FZ := hide (SO.out.step kb hrb)
      clear hrb kb DO q0 q1 q2 q3 q4 SO
      go_wp2_with fail
      go_roundw
      · exact ⟨i + 1, out.2, rfl, by omega, FZ.out, M3.out, R3.out⟩
      · show tn - ((i : Int) + 1).toNat < tn - (i : Int).toNat
        omega
    · as_aux_lemma =>
      obtain rfl : i = tn := by omega
      clear hlt hi
      have ER := hide (EX.out R MY.out RB.out)
      obtain ⟨⟨c0, c1, c2⟩, _, _, _, _⟩ := HM.out wr SO.out.bel
      have TA := hide (told_any SO.out.run ER.out.1)
      rw [HXL.out, ← HN.out] at TA
      go_wp2_with fail
      go_at_call 13
      refine TA.out.mono ?_
      rintro e w2 ⟨v2, rfl, ht2, k2⟩
      have S2 := hide (SO.out.new k2)
      obtain ⟨la, lc, rfl, hrd⟩ := ht2.rdc ER.out.1
      have HRD := hide hrd
      clear c0 c1 c2 TA k2 ht2 hrd SO
      obtain ⟨⟨c0, c1, c2⟩, _, _, _, _⟩ := HM.out w2 S2.out.bel
      go_wp2_with fail
      go_at_call 11
      refine (PLN.out w2 S2.out.bel).mono ?_
      rintro e w3 ⟨pa, pc, zs0, rfl, _, hnd, hye, hb3⟩
      have k3 : Keep (fun _ => False) w2 w3 := Keep.ofBelow hb3 (Nat.le_refl _)
      have C3 := hide (CP.out w3 _ pa _ pc zs0 hnd hye)
      have S3 := hide (S2.out.new k3)
      have ST := hide (status_any S3.out.run)
      have FR := hide (from_any nm dl (pa, xs.length, pc) (la, R.ps.length, lc) zs0 R.stt R.ps w3 C3.out.rd C3.out.cap C3.out.sz C3.out.ln (by rw [C3.out.chk]; exact CK1.out) (HRD.out.new k3) (by rw [map_nx C3.out.er]; exact MY.out) ER.out.1)
      have HE3 : Hid (zs0.map nx = xs.map nx ∧ zs0.length = xs.length) := ⟨map_nx hye, by have := congrArg List.length hye; simpa using this⟩
      clear hnd hye hb3 k3 c0 c1 c2 HRD C3 S2
      go_wp2_with fail
      go_at_call 15
      refine ST.out.mono ?_
      rintro e w3' ⟨rfl, hw⟩
      subst hw
      clear ST
      go_wp2_with fail
      go_at_call 14
      refine FR.out.mono ?_
      rintro e w4 ⟨qa, rfl, hqP, hqG, hqx, hql, hqR, hb4⟩
      have k4 : Keep (fun _ => False) w3' w4 := Keep.ofBelow hb4 (Nat.le_refl _)
      have S4 := hide (S3.out.new k4)
      have CO := hide (copy_any S4.out.run HCO.out.1 HCO.out.2.1 HCO.out.2.2.1 HCO.out.2.2.2 ER.out.1)
      have HQ : Hid ((w3'.heap.size ≤ qa.P ∧ w3'.heap.size ≤ qa.G) ∧ qa.xs.map nx = xs.map nx ∧ qa.xs.length = xs.length) := ⟨⟨hqP, hqG⟩, hqx.trans HE3.out.1, hql.trans HE3.out.2⟩
      have HQR := hide hqR
      have K4 := hide k4
      clear hqP hqG hqx hql hqR hb4 k4 FR HE3
      go_wp2_with fail
      go_at_call 16
      refine CO.out.mono ?_
      rintro e w5 ⟨qb, rfl, hbP, hbG, hbx, hbl, hbR, hb5⟩
      have k5 : Keep (fun _ => False) w4 w5 := Keep.ofBelow hb5 (Nat.le_refl _)
      have S5 := hide (S4.out.new k5)
      have HQB : Hid (qb.xs.map nx = xs.map nx ∧ qb.xs.length = xs.length) := ⟨hbx.trans HX.out, hbl.trans HXL.out⟩
      have z4 := K4.out.size
      have TR : Hid (Tr (T6b p qa qb) w1 p qa qb R R R w5) := tr_made S3.out.run HQR.out hbR S3.out.hi ⟨Nat.le_refl _, HQ.out.1.1, HQ.out.1.2⟩ ⟨Nat.le_refl _, hbP, hbG⟩ (K4.out.more k5) k5 (Keep.refl _ _) S5.out.bel
      clear hbP hbG hbx hbl hbR hb5 k5 CO HQR K4 S3 S4 S5 z4
      have ST := hide (status_any (show RunAt _ w5 p.P p.G p.nm p.dl p.s p.xs R from TR.out.a))
      go_wp2_with fail
      go_at_call 15
      refine ST.out.mono ?_
      rintro e w5' ⟨rfl, hw⟩
      subst hw
      clear ST
      obtain ⟨⟨c0, c1, c2⟩, _, _, _, _⟩ := HM.out w5' TR.out.bel
      have TA := hide (told_any (show RunAt _ w5' p.P p.G p.nm p.dl p.s p.xs R from TR.out.a) ER.out.1)
      rw [HXL.out, ← HN.out] at TA
      go_wp2_with fail
      go_at_call 13
      refine TA.out.mono ?_
      rintro e w6 ⟨vw, rfl, ht6, k6⟩
      obtain ⟨wa, wc, rfl, _⟩ := ht6.rdc ER.out.1
      have HD0 : Hid (Tr (T6b p qa qb) w1 p qa qb R R R w6 ∧ (∃ b, TdAt b w6 (.slice wa R.ps.length wc) R.ps) ∧ May (xs.map nx) R ∧ RsB R.ps) := ⟨TR.out.new k6, ⟨_, ht6⟩, MY.out, RB.out⟩
      clear c0 c1 c2 TA ht6 k6 TR
      go_wp2_with fail
      go_loopw [21] (fun v21 wr => ∃ (i : Nat) (S : Rs), v21 = .int .i64 (i : Nat) ∧ i ≤ un ∧ Hid (Tr (T6b p qa qb) w1 p qa qb R S S wr ∧ (∃ b, TdAt b wr (.slice wa R.ps.length wc) R.ps) ∧ May (xs.map nx) S ∧ RsB S.ps)) (fun v21 _ => un - (intOf v21).toNat)
      case atStart => exact ⟨0, R, rfl, Nat.zero_le _, HD0.out⟩
      case round => as_aux_lemma =>
        clear HD0
        obtain ⟨i, S, rfl, hi, HD⟩ := hrel
        have TR : Hid (Tr (T6b p qa qb) w1 p qa qb R S S _) := HD.out.1
        have TD := hide HD.out.2.1
        have MS : Hid (May (xs.map nx) S) := HD.out.2.2.1
        have RS : Hid (RsB S.ps) := HD.out.2.2.2
        clear HD
        by_cases hlt : i < un
        · as_aux_lemma =>
          obtain ⟨_, _, _, ho, _⟩ := HM.out _ TR.out.bel
          obtain ⟨g, off, q, hta, hqi, hsq, q0, q1, q2, q3, q4⟩ := ho.at (i := i) hlt
          have hta : ua = some ⟨g, off, none⟩ := hta
          subst hta
          have HRS : Hid (∀ d ∈ q.res, d < 256) := hsq.1.2.2.1
          have DO := hide (does_any (show RunAt _ _ qa.P qa.G qa.nm qa.dl qa.s qa.xs S from TR.out.b) TR.out.lt q hsq (EX.out S MS.out RS.out).2.1)
          rw [HQ.out.2.1] at DO
          have M3 := hide (do_may HB.out MS.out q.k q.i q.res)
          have R3 : Hid (RsB (doR (xs.map nx) S q.k q.i q.res).2.ps) := do_rsb RS.out HRS.out
          have HLT := hide hlt
          have HQI := hide hqi
          obtain ⟨out, hout⟩ : ∃ out, out = doR (xs.map nx) S q.k q.i q.res := ⟨_, rfl⟩
          rw [← hout] at DO M3 R3
          have HOUT := hide hout
          clear ho hsq hqi HRS hlt hi hout
          have hltw : i < un := HLT.out
          go_wp2_with fail
          go_at_call 12
          refine DO.out.mono ?_
          rintro e wb ⟨vb, rfl, ⟨db, skb, rb, rfl, l1, l2, l3⟩, hrb, kb⟩
          have kc := Keep.alloc (fun _ => False) wb (.cells #[.slice db.1 db.2.1 db.2.2, .slice skb.1 skb.2.1 skb.2.2, .slice rb.1 rb.2.1 rb.2.2, .int .i64 out.1.1.stt] 45)
          have bc := heap_alloc_new wb (.cells #[.slice db.1 db.2.1 db.2.2, .slice skb.1 skb.2.1 skb.2.2, .slice rb.1 rb.2.1 rb.2.2, .int .i64 out.1.1.stt] 45)
          have T2 := hide ((TR.out.stepB kb hrb).new kc)
          have TD2 := hide (td_new (td_step TD.out TR.out.b kb) kc)
          have CH := hide (chg_kept (u := .agg #[.slice db.1 db.2.1 db.2.2, .slice skb.1 skb.2.1 skb.2.2, .slice rb.1 rb.2.1 rb.2.2, .int .i64 out.1.1.stt]) ⟨db, skb, rb, rfl, l1, l2, l3⟩ kc (fun _ f => f.elim))
          have HBC := hide bc
          have HDL : Hid (∀ k, T6b p qa qb k → k < wb.heap.size) := fun k hk => Nat.lt_of_lt_of_le (TR.out.lt k hk) kb.size
          clear hrb kb kc bc l1 l2 l3 DO TR TD q0 q1 q2 q3 q4
          simp only
          go_upto_region 25 with fail
          generalize wb.alloc (.cells #[.slice db.1 db.2.1 db.2.2, .slice skb.1 skb.2.1 skb.2.2, .slice rb.1 rb.2.1 rb.2.2, .int .i64 out.1.1.stt] 45) = wc' at *
          generalize wb.heap.size = D at *
          obtain ⟨_, _, _, ho, _⟩ := HM.out _ T2.out.bel
          obtain ⟨g', off', q', hta', hqi', hsq, q0, q1, q2, q3, q4⟩ := ho.at (i := i) hltw
          have hta' : (some ⟨g, off, none⟩ : Option Addr) = some ⟨g', off', none⟩ := hta'
          simp only [Option.some.injEq, Addr.mk.injEq, and_true] at hta'
          obtain ⟨rfl, rfl⟩ := hta'
          obtain rfl : q' = q := Option.some.inj (hqi'.symm.trans HQI.out)
          have DO := hide (does_any (show RunAt _ wc' qb.P qb.G qb.nm qb.dl qb.s qb.xs S from T2.out.c) T2.out.lt q' hsq (EX.out S MS.out RS.out).2.1)
          rw [HQB.out.1, ← HOUT.out] at DO
          clear ho hsq hqi'
          go_wp2_with fail
          go_at_call 12
          refine DO.out.mono ?_
          rintro e wd ⟨vd, rfl, ⟨dd, skd, rd, rfl, l1, l2, l3⟩, hrd, kd⟩
          have ke := Keep.alloc (fun _ => False) wd (.cells #[.slice dd.1 dd.2.1 dd.2.2, .slice skd.1 skd.2.1 skd.2.2, .slice rd.1 rd.2.1 rd.2.2, .int .i64 out.1.1.stt] 45)
          have be := heap_alloc_new wd (.cells #[.slice dd.1 dd.2.1 dd.2.2, .slice skd.1 skd.2.1 skd.2.2, .slice rd.1 rd.2.1 rd.2.2, .int .i64 out.1.1.stt] 45)
          have T3 := hide ((T2.out.stepC kd hrd).new ke)
          have TD3 := hide (td_new (td_step TD2.out T2.out.c kd) ke)
          have C3 := hide (chg_kept (chg_kept CH.out kd (fun i hi => .inr (by rcases hi with e | e; exact e ▸ T2.out.c.tp; exact e ▸ T2.out.c.tg))) ke (fun _ f => f.elim))
          have C4 := hide (chg_kept (u := .agg #[.slice dd.1 dd.2.1 dd.2.2, .slice skd.1 skd.2.1 skd.2.2, .slice rd.1 rd.2.1 rd.2.2, .int .i64 out.1.1.stt]) ⟨dd, skd, rd, rfl, l1, l2, l3⟩ ke (fun _ f => f.elim))
          have HB3 := hide (ke.blk (kd.blk HBC.out (fun e => by have h1 := HDL.out _ T2.out.c.tp; have h2 := HDL.out _ T2.out.c.tg; omega)) (fun f => f))
          have HB4 := hide be
          clear hrd kd ke be l1 l2 l3 DO T2 TD2 CH HBC q0 q1 q2 q3 q4 HDL
          simp only
          go_upto_region 26 with fail
          generalize wd.alloc (.cells #[.slice dd.1 dd.2.1 dd.2.2, .slice skd.1 skd.2.1 skd.2.2, .slice rd.1 rd.2.1 rd.2.2, .int .i64 out.1.1.stt] 45) = we at *
          generalize wd.heap.size = E at *
          have o0 := cell_blk HB3.out 0 (v := .slice db.1 db.2.1 db.2.2) rfl
          have o1 := cell_blk HB3.out 1 (v := .slice skb.1 skb.2.1 skb.2.2) rfl
          have o2 := cell_blk HB3.out 2 (v := .slice rb.1 rb.2.1 rb.2.2) rfl
          have o3 := cell_blk HB3.out 3 (v := .int .i64 out.1.1.stt) rfl
          have x0 := cell_blk HB4.out 0 (v := .slice dd.1 dd.2.1 dd.2.2) rfl
          have x1 := cell_blk HB4.out 1 (v := .slice skd.1 skd.2.1 skd.2.2) rfl
          have x2 := cell_blk HB4.out 2 (v := .slice rd.1 rd.2.1 rd.2.2) rfl
          have x3 := cell_blk HB4.out 3 (v := .int .i64 out.1.1.stt) rfl
          have SC := hide (sameChange_any C3.out C4.out)
          clear C3 C4 HB3 HB4
          go_wp2_with fail
          go_at_call 17
          refine SC.out.mono ?_
          rintro e wf ⟨rfl, kf⟩
          have T5 := hide (T3.out.new kf)
          have TD5 := hide (td_new TD3.out kf)
          clear kf SC T3 TD3 o0 o1 o2 o3 x0 x1 x2 x3
          go_wp2_with fail
          go_roundw
          · exact ⟨i + 1, out.2, rfl, by omega, T5.out, TD5.out, M3.out, R3.out⟩
          · show un - ((i : Int) + 1).toNat < un - (i : Int).toNat
            omega
        · as_aux_lemma =>
          obtain rfl : i = un := by omega
          clear hlt hi
          have ES := hide (EX.out S MS.out RS.out)
          obtain ⟨⟨c0, c1, c2⟩, _, _, _, _⟩ := HM.out _ TR.out.bel
          have TA := hide (told_any (show RunAt _ _ qa.P qa.G qa.nm qa.dl qa.s qa.xs S from TR.out.b) ES.out.1)
          rw [HQ.out.2.2, ← HN.out] at TA
          go_wp2_with fail
          go_at_call 13
          refine TA.out.mono ?_
          rintro e w7 ⟨vx, rfl, htx, kx⟩
          obtain ⟨xa, xc, rfl, _⟩ := htx.rdc ES.out.1
          have T7 := hide (TR.out.new kx)
          have HX7 := hide htx
          have KX7 := hide kx
          clear c0 c1 c2 TA htx kx TR
          obtain ⟨⟨c0, c1, c2⟩, _, _, _, _⟩ := HM.out _ T7.out.bel
          have TA := hide (told_any (show RunAt _ _ qb.P qb.G qb.nm qb.dl qb.s qb.xs S from T7.out.c) ES.out.1)
          rw [HQB.out.2, ← HN.out] at TA
          go_wp2_with fail
          go_at_call 13
          refine TA.out.mono ?_
          rintro e w8 ⟨vy, rfl, hty, ky⟩
          obtain ⟨ya, yc, rfl, _⟩ := hty.rdc ES.out.1
          have T8 := hide (T7.out.new ky)
          have HY7 := hide hty
          have KY7 := hide ky
          clear c0 c1 c2 TA hty ky T7
          obtain ⟨⟨c0, c1, c2⟩, _, _, _, _⟩ := HM.out _ T8.out.bel
          have TA := hide (told_any (show RunAt _ _ p.P p.G p.nm p.dl p.s p.xs R from T8.out.a) ER.out.1)
          rw [HXL.out, ← HN.out] at TA
          go_wp2_with fail
          go_at_call 13
          refine TA.out.mono ?_
          rintro e w9 ⟨vz, rfl, htz, kz⟩
          obtain ⟨za, zc, rfl, _⟩ := htz.rdc ER.out.1
          have T9 := hide (T8.out.new kz)
          have HZ7 := hide htz
          have KZ7 := hide kz
          clear c0 c1 c2 TA htz kz T8
          have hx9 : RdT w9 (xa, S.ps.length, xc) S.ps := by
            obtain ⟨a', c', e, h⟩ := ((HX7.out.new KY7.out).new KZ7.out).rd ES.out.1
            injection e with e1 _ e3
            rw [e1, e3]; exact h
          have hy9 : RdT w9 (ya, S.ps.length, yc) S.ps := by
            obtain ⟨a', c', e, h⟩ := (HY7.out.new KZ7.out).rd ES.out.1
            injection e with e1 _ e3
            rw [e1, e3]; exact h
          have hz9 : RdT w9 (za, R.ps.length, zc) R.ps := by
            obtain ⟨a', c', e, h⟩ := HZ7.out.rd ER.out.1
            injection e with e1 _ e3
            rw [e1, e3]; exact h
          have hw9 : RdT w9 (wa, R.ps.length, wc) R.ps := by
            obtain ⟨bb, hbb⟩ := td_new (td_new (td_new TD.out KX7.out) KY7.out) KZ7.out
            obtain ⟨a', c', e, h⟩ := hbb.rd ER.out.1
            injection e with e1 _ e3
            rw [e1, e3]; exact h
          clear HX7 HY7 HZ7 KX7 KY7 KZ7 TD
          have SN1 := hide (sameNodes_any (xa, S.ps.length, xc) (ya, S.ps.length, yc) S.ps S.ps w9 hx9 hy9 rfl (by rw [ES.out.2.2]; have := VX.out.1; omega))
          have SN2 := hide (fun (W : World) (k : Keep (fun _ => False) w9 W) => sameNodes_any (za, R.ps.length, zc) (wa, R.ps.length, wc) R.ps R.ps W (hz9.new k) (hw9.new k) rfl (by rw [ER.out.2.2]; have := VX.out.1; omega))
          clear hx9 hy9 hz9 hw9
          go_wp2_with fail
          go_at_call 8
          refine SN1.out.mono ?_
          rintro e w10 ⟨⟨b1, rfl, hb1⟩, k10⟩
          obtain rfl : b1 = true := hb1 rfl
          have T10 := hide (T9.out.new k10)
          have C2 := hide (SN2.out w10 k10)
          clear k10 hb1 SN1 SN2 T9
          go_wp2_with fail
          go_at_call 8
          refine C2.out.mono ?_
          rintro e w11 ⟨⟨b2, rfl, hb2⟩, k11⟩
          obtain rfl : b2 = true := hb2 rfl
          have T11 := hide (T10.out.new k11)
          have KE := hide (HM.out w11 T11.out.bel).2.2.2.2
          have SA := hide (status_any (show RunAt _ w11 qa.P qa.G qa.nm qa.dl qa.s qa.xs S from T11.out.b))
          have SB := hide (status_any (show RunAt _ w11 qb.P qb.G qb.nm qb.dl qb.s qb.xs S from T11.out.c))
          have SR := hide (status_any (show RunAt _ w11 p.P p.G p.nm p.dl p.s p.xs R from T11.out.a))
          clear k11 hb2 C2 T10 T11
          go_wp2_with fail
          go_at_call 15
          refine SA.out.mono ?_
          rintro e w12 ⟨rfl, rfl⟩
          go_wp2_with fail
          go_at_call 15
          refine SB.out.mono ?_
          rintro e w13 ⟨rfl, rfl⟩
          go_wp2_with fail
          go_at_call 15
          refine SR.out.mono ?_
          rintro e w14 ⟨rfl, rfl⟩
          go_wp2_with fail
          go_ret
          exact ⟨rfl, by rw [← HHE.out]; exact KE.out⟩
end Rn
end Go.Proofs.Ytiackejbpcjmeaa
