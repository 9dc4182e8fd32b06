/- RunRules: the walk. -/
import Derived.Test.YtjiclmbhloibaaaRWlM
import Derived.Test.YtjiclmbhloibaaaGRfA
import Derived.Deep.CutRange
import Derived.Deep.CutBlock
import Derived.Deep.QuietTactic
namespace Go.Proofs.Ytjiclmbhloibaaa
namespace Rn
open Go.RowKit Gr

theorem wrRn {x : Int} (h1 : -9223372036854775808 ≤ x) (h2 : x ≤ 9223372036854775807) : IntKind.i64.wrap x = x := by
  rw [IntKind.wrap_i64]; omega
theorem calls_keep {f : FuncId} {args : Array Value} {W : World} (u : Behind W) {v : Value}
    (h : Calls Try.prog f args u.1 fun e w' => e = .returned v ∧ Keep (fun _ => False) u.1 w') : Calls Try.prog f args u.1 fun e w'' => e = .returned v ∧ ∃ u' : Behind W, w'' = u'.1 :=
  h.mono fun _ w' ⟨he, k⟩ => ⟨he, ⟨w', u.2.trans (k.below u.2.size fun _ f => f.elim)⟩, rfl⟩
set_option maxRecDepth 100000 in
set_option maxHeartbeats 40000000 in
theorem rules_walk (nm : ByteArray) (dl : Int) (s t : Option Addr × Nat × Nat) (xs : List No) (qs : List Sp) (w : World) (hP : RdP w.heap.size w s xs) (hs : Sz nm xs) (hc : CapP xs) (hq : RdO w t qs) :
    Calls Try.prog 3 #[.agg #[.string nm, .int .i64 dl, .slice s.1 s.2.1 s.2.2], .slice t.1 t.2.1 t.2.2] w fun e w' => e = .returned (.bool true) ∧ Below w.heap.size w w' := by
  obtain ⟨a, n, c⟩ := s
  obtain ⟨ta, tn, tc⟩ := t
  have HN : Hid (n = xs.length) := hP.1
  have k1 := Keep.alloc (fun _ => False) w (.cells #[.string nm, .int .i64 dl, .slice a n c] 24)
  have b1 := heap_alloc_new w (.cells #[.string nm, .int .i64 dl, .slice a n c] 24)
  have z1 : (w.alloc (.cells #[.string nm, .int .i64 dl, .slice a n c] 24)).heap.size = w.heap.size + 1 := by simp
  have htn2 : tn ≤ 140737488355328 := hq.2.1
  have HM : Hid (∀ W, Below (w.alloc (.cells #[.string nm, .int .i64 dl, .slice a n c] 24)).heap.size (w.alloc (.cells #[.string nm, .int .i64 dl, .slice a n c] 24)) W → (W.cell? ⟨w.heap.size, 0, none⟩ = some (.string nm) ∧ W.cell? ⟨w.heap.size, 1, none⟩ = some (.int .i64 dl) ∧ W.cell? ⟨w.heap.size, 2, none⟩ = some (.slice a n c)) ∧ RdP W.heap.size W (a, n, c) xs ∧ RdO W (ta, tn, tc) qs ∧ Below w.heap.size w W) := fun W k => by
    have k2 : Keep (fun _ => False) (w.alloc (.cells #[.string nm, .int .i64 dl, .slice a n c] 24)) W := Keep.ofBelow k (Nat.le_refl _)
    have kb : Below w.heap.size w W := (k1.more k2).below (Nat.le_refl _) fun _ f => f.elim
    exact ⟨⟨cell_blk (k2.blk b1 (fun f => f)) 0 rfl, cell_blk (k2.blk b1 (fun f => f)) 1 rfl, cell_blk (k2.blk b1 (fun f => f)) 2 rfl⟩, (hP.new (k1.more k2)).mono (k1.more k2).size, hq.below kb, kb⟩
  have HS := hide hs
  have HC := hide hc
  clear hP hs hc hq k1 b1 z1
  go_enter Try.func3, Try.ntmps3
  go_upto_region 1 with fail
  generalize w.alloc (.cells #[.string nm, .int .i64 dl, .slice a n c] 24) = w1 at *
  go_wp2_with fail
  go_at_call 7
  refine (awake_any w1).mono ?_
  rintro e w2 ⟨rfl, b2⟩
  have B2 := hide b2
  obtain ⟨⟨c0, c1, c2⟩, hp, _, _⟩ := HM.out w2 b2
  have SM := hide (small_any nm dl (a, n, c) xs _ w2 hp)
  have HP2 := hide hp
  clear hp b2
  go_wp2_with fail
  go_at_call 8
  refine SM.out.mono ?_
  rintro e w3 ⟨⟨b, rfl, hb⟩, k3⟩
  have B3 := hide (B2.out.trans (k3.below B2.out.size fun _ f => f.elim))
  obtain ⟨⟨c0, c1, c2⟩, hp, _, kw⟩ := HM.out w3 B3.out
  have KW := hide kw
  have HP3 := hide hp
  have HB := hide hb
  clear hp kw hb SM HP2 B2 k3
  cases b with
  | false =>
    go_wp2_with fail
    go_ret
    exact ⟨rfl, KW.out⟩
  | true =>
    have hsm := HB.out rfl
    have hz : ∀ x ∈ xs, x.nl.length ≤ 20000 ∧ x.al.length ≤ 20000 := fun x hx => by have := edges_mem hx; omega
    have HZ := hide hz
    have hxl : xs.length ≤ 20000 := by omega
    have PL := hide (fun (W : World) (k : Below w1.heap.size w1 W) => planned_any nm dl (a, n, c) xs W (HM.out W k).2.1 HC.out hxl hz)
    have CP := hide (fun (W : World) (B : Nat) (v : Option Addr) (m d : Nat) (ys : List No) (h : NdX B W (.slice v m d) ys) (he : ys.map er = xs.map er) => cp_of (nm := nm) (dl := dl) h he hxl hz HS.out)
    clear HB hsm hz hxl
    go_wp2_with fail
    go_at_call 10
    refine (PL.out w3 B3.out).mono ?_
    rintro e w4 ⟨pa, pc, ys0, rfl, _, hnd, hye, hb4⟩
    have C4 := hide (CP.out w4 _ pa _ pc ys0 hnd hye)
    have B4 := hide (B3.out.trans (hb4.mono B3.out.size))
    have NW := hide (new_any nm dl (pa, xs.length, pc) ys0 w4 C4.out.rd C4.out.cap C4.out.sz C4.out.ln)
    rw [show (NewEnd nm dl ys0 w4) = fun e w' => NewEnd nm dl ys0 w4 e w' from rfl] at NW
    clear hnd hye hb4
    go_wp2_with fail
    go_at_call 9
    refine NW.out.mono ?_
    rintro e w5 ⟨hb5, hE⟩
    have B5 := hide (B4.out.trans (hb5.mono B4.out.size))
    clear hb5 NW
    rcases hE with ⟨hck, rfl⟩ | ⟨hck, P, G, sp, ys, v, rfl, hPs, hGs, hye, hch, hR⟩
    · have k6 := Keep.alloc (fun _ => False) w5 (.cells #[.slice none 0 0, .slice none 0 0, .slice none 0 0, .int .i64 0] 31)
      have B6 := hide (B5.out.trans (k6.below B5.out.size fun _ f => f.elim))
      obtain ⟨⟨c0, c1, c2⟩, _, _, _⟩ := HM.out _ B6.out
      clear k6
      unfold zChg
      rw [C4.out.chk] at hck ⊢
      obtain ⟨code, hcode⟩ : ∃ code, code = (chk nm dl xs).2 := ⟨_, rfl⟩
      rw [← hcode] at hck ⊢
      have HCO := hide hcode
      have hcd : ((code : Int) == 0) = false := by simpa using hck
      clear hcode
      go_upto_region 6 with fail
      generalize w5.alloc (.cells #[.slice none 0 0, .slice none 0 0, .slice none 0 0, .int .i64 0] 31) = w6 at *
      go_wp2_with fail
      go_at_call 10
      refine (PL.out w6 B6.out).mono ?_
      rintro e w7 ⟨qa, qc, ys1, rfl, _, hnd, hye, hb7⟩
      have C7 := hide (CP.out w7 _ qa _ qc ys1 hnd hye)
      have B7 := hide (B6.out.trans (hb7.mono B6.out.size))
      have CK := hide (check_any nm dl (qa, xs.length, qc) ys1 _ w7 C7.out.rd (Nat.le_refl _) C7.out.sz)
      rw [C7.out.chk, ← HCO.out] at CK
      clear hnd hye hb7
      go_wp2_with fail
      go_at_call 11
      refine CK.out.mono ?_
      rintro e w8 ⟨rfl, k8⟩
      have B8 := hide (B7.out.trans (k8.below B7.out.size fun _ f => f.elim))
      have E8 := hide (HM.out _ B8.out).2.2.2
      clear k8 CK
      go_wp2_with fail
      go_ret
      exact ⟨rfl, E8.out⟩
    · have hmx : ys.map nx = ys0.map nx := map_nx hye
      rw [C4.out.chk] at hck
      have hyx : ys.map er = xs.map er := hye.trans C4.out.er
      rw [C4.out.er |> map_nx] at hch hR
      have HMX := hide (map_nx hyx)
      have HCK := hide hck
      have BU := hide (bu_of hck)
      have VX := hide (chk_ok hck).2.2.2.1
      obtain ⟨d, sk, r, rfl, _, _, _⟩ := hch
      have k6 := Keep.alloc (fun _ => False) w5 (.cells #[.slice d.1 d.2.1 d.2.2, .slice sk.1 sk.2.1 sk.2.2, .slice r.1 r.2.1 r.2.2, .int .i64 (newR (xs.map nx)).2.stt] 31)
      have B6 := hide (B5.out.trans (k6.below B5.out.size fun _ f => f.elim))
      have HB : Hid (∀ x ∈ xs.map nx, 1 ≤ x.bu) := fun x hx => by obtain ⟨y, hy, rfl⟩ := List.mem_map.1 hx; exact (BU.out y hy).1
      have MY := hide (new_may HB.out)
      have RB := hide (new_rsb (xs.map nx))
      have HR := hide (hR.new k6)
      have HPG : Hid (w1.heap.size ≤ P ∧ w1.heap.size ≤ G) := ⟨Nat.le_trans B4.out.size hPs, Nat.le_trans B4.out.size hGs⟩
      clear hye hmx hyx hck hR k6 hPs hGs C4
      generalize (newR (xs.map nx)).2 = R at *
      simp only
      go_upto_region 6 with fail
      generalize w5.alloc (.cells #[.slice d.1 d.2.1 d.2.2, .slice sk.1 sk.2.1 sk.2.2, .slice r.1 r.2.1 r.2.2, .int .i64 R.stt] 31) = w6 at *
      obtain ⟨⟨c0, c1, c2⟩, _, _, _⟩ := HM.out _ B6.out
      have hyl : ys.length = xs.length := by have := congrArg List.length HMX.out; simpa using this
      have hnl : n = ys.length := by rw [HN.out, hyl]
      have TD := hide (told_any HR.out (May.res (xs := ys) (by rw [HMX.out]; exact MY.out) RB.out))
      rw [← hnl] at TD
      clear hyl hnl
      go_wp2_with fail
      go_at_call 12
      refine TD.out.mono ?_
      rintro e w7 ⟨v, rfl, ht, k7⟩
      have hlt5 : ∀ k, (k = P ∨ k = G) → k < w6.heap.size := fun k hk => by
        obtain ⟨_, h1⟩ := HR.out.blk
        obtain ⟨_, h2⟩ := HR.out.prt
        rcases hk with rfl | rfl
        · exact (Array.getElem?_eq_some_iff.1 h1).1
        · exact (Array.getElem?_eq_some_iff.1 h2).1
      have FR : Hid (Fr (fun k => k = P ∨ k = G) w1 P G nm dl sp ys R v R.ps w7) := ⟨HR.out.new k7, ⟨_, ht⟩, B6.out.trans (k7.below B6.out.size fun _ f => f.elim), HPG.out, fun k hk => Nat.lt_of_lt_of_le (hlt5 k hk) k7.size⟩
      have EX := hide (fun (R : Rs) (h : May (xs.map nx) R) (hB : RsB R.ps) => (⟨May.res (xs := xs) h hB, May.trs VX.out BU.out h, h.five, h.two, h.one, (by have := h.1.1; simpa using this : R.ps.length = xs.length), fun i x p hx hp => May.nd VX.out (fun x hx => (BU.out x hx).1) h i x p hx hp⟩ : (∀ p ∈ R.ps, (∀ d ∈ p.rs, d < 256) ∧ p.rs.length ≤ 1000) ∧ (∀ p ∈ R.ps, -1000 ≤ p.tr ∧ p.tr ≤ 1000) ∧ (1 ≤ R.stt ∧ R.stt ≤ 5) ∧ ((R.stt = 2) ↔ allDone R.ps = true) ∧ ((R.stt = 1) ↔ allSet R.ps = false) ∧ R.ps.length = xs.length ∧ ∀ i x p, xs[i]? = some x → R.ps[i]? = some p → NdOk R.stt (sts R.ps) x p))
      obtain ⟨va, vc, rfl, hrt⟩ := FR.out.rdt (EX.out R MY.out RB.out).1
      have hpn : R.ps.length = n := by rw [HN.out]; exact (EX.out R MY.out RB.out).2.2.2.2.2.1
      rw [hpn] at FR hrt ⊢
      have HRT := hide hrt
      clear ht k7 hlt5 TD HR hrt
      have RU := hide (fun (W : World) (kb : Below w1.heap.size w1 W) (R : Rs) (m : Option Addr × Nat × Nat) (h : May (xs.map nx) R) (hB : RsB R.ps) (ht : RdT W m R.ps) => rule_any nm dl (a, n, c) m xs R.ps R.stt W (HM.out W kb).2.1 ht VX.out (EX.out R h hB).2.2.2.2.2.1 (EX.out R h hB).2.2.2.2.2.2 (EX.out R h hB).2.2.1 (EX.out R h hB).2.2.2.1 (EX.out R h hB).2.2.2.2.1)
      have HPN := hide hpn
      clear hpn
      haveI := behindNE w7
      obtain ⟨⟨c0, c1, c2⟩, _, _, _⟩ := HM.out w7 FR.out.bel
      have e0 := fun u : Behind w7 => u.cell c0
      have e1 := fun u : Behind w7 => u.cell c1
      have e2 := fun u : Behind w7 => u.cell c2
      go_upto_region 12 with fail
      go_cut [14] from 66 to 307 (fun v wx => v = .bool true ∧ Hid (Keep (fun _ => False) w7 wx))
      case first => as_aux_lemma =>
        refine quiet_behind (by kernel_rfl) (by kernel_rfl) ?_
        repeat (go_big_quiet_step (first
          | (go_at_call 14; exact (status_any (FR.out.run.new (Behind.keep _))).mono fun _ _ h => ⟨h.1, _, h.2⟩)
          | (go_at_call 13; exact calls_keep _ (RU.out _ (FR.out.bel.trans ((Behind.keep _).below FR.out.bel.size fun _ f => f.elim)) R (va, n, vc) MY.out RB.out (HRT.out.new (Behind.keep _))))))
        refine wpQuiet_nil ?_
        intro _ hw'
        obtain ⟨u, hw''⟩ := hw'
        subst hw''
        go_wp2
        go_meet
        case rel => exact ⟨rfl, u.keep⟩
      case rest => as_aux_lemma =>
        obtain ⟨rfl, hkc⟩ := hcut
        have FR0 := hide (FR.out.new hkc.out)
        clear hkc FR HRT e0 e1 e2 c0 c1 c2 HPG B6 B3 B4 B5 HP3 KW
        go_wp2_with fail
        go_loopw [12, 14, 15] (fun v12 v14 v15 wr => ∃ (i : Nat) (R : Rs) (va : Option Addr) (vc : Nat), v12 = .slice va n vc ∧ v14 = .bool true ∧ v15 = .int .i64 (i : Nat) ∧ i ≤ tn ∧ Hid (Fr (fun k => k = P ∨ k = G) w1 P G nm dl sp ys R (.slice va n vc) R.ps wr ∧ May (xs.map nx) R ∧ RsB R.ps)) (fun _ _ v15 _ => tn - (intOf v15).toNat)
        case atStart => exact ⟨0, R, va, vc, rfl, rfl, rfl, Nat.zero_le _, FR0.out, MY.out, RB.out⟩
        case round => as_aux_lemma =>
          clear FR0 MY RB HPN
          obtain ⟨i, R, va, vc, rfl, rfl, rfl, hi, HD⟩ := hrel
          have FR : Hid (Fr (fun k => k = P ∨ k = G) w1 P G nm dl sp ys R (.slice va n vc) R.ps wr) := HD.out.1
          have MY : Hid (May (xs.map nx) R) := HD.out.2.1
          have RB : Hid (RsB R.ps) := HD.out.2.2
          clear HD
          by_cases hlt : i < tn
          · obtain ⟨_, _, ho, _⟩ := HM.out wr FR.out.bel
            obtain ⟨g, off, q, hta, _, hsq, q0, q1, q2, q3, q4⟩ := ho.at (i := i) hlt
            have hta : ta = some ⟨g, off, none⟩ := hta
            subst hta
            have HSQ := hide hsq
            clear ho hsq
            have ka := Keep.alloc (fun _ => False) wr (.cells #[.int .i64 q.k, .int .i64 q.on, .int .i64 q.to, .int .i64 q.i, .slice q.ra q.res.length q.rc] 45)
            have ba := heap_alloc_new wr (.cells #[.int .i64 q.k, .int .i64 q.on, .int .i64 q.to, .int .i64 q.i, .slice q.ra q.res.length q.rc] 45)
            have za : (wr.alloc (.cells #[.int .i64 q.k, .int .i64 q.on, .int .i64 q.to, .int .i64 q.i, .slice q.ra q.res.length q.rc] 45)).heap.size = wr.heap.size + 1 := by simp
            go_upto_region 18 with fail
            obtain ⟨O, hO⟩ : ∃ O, O = wr.heap.size := ⟨_, rfl⟩
            generalize wr.alloc (.cells #[.int .i64 q.k, .int .i64 q.on, .int .i64 q.to, .int .i64 q.i, .slice q.ra q.res.length q.rc] 45) = wa at *
            rw [← hO] at ba za ⊢
            have HOe := hide hO
            clear hO
            have ST := hide (status_any (FR.out.run.new ka))
            clear q0 q1 q2 q3 q4
            go_wp2_with fail
            go_at_call 14
            refine ST.out.mono ?_
            rintro e wa' ⟨rfl, hw⟩
            have hw := hw.symm
            subst hw
            have kb := Keep.alloc (fun _ => False) wa (.cells #[.slice none 0 0, .slice none 0 0, .slice none 0 0, .int .i64 0] 31)
            have bb := heap_alloc_new wa (.cells #[.slice none 0 0, .slice none 0 0, .slice none 0 0, .int .i64 0] 31)
            have zb : (wa.alloc (.cells #[.slice none 0 0, .slice none 0 0, .slice none 0 0, .int .i64 0] 31)).heap.size = wa.heap.size + 1 := by simp
            rw [za] at bb zb
            go_upto_region 20 with fail
            obtain ⟨D, hD⟩ : ∃ D, D = O + 1 := ⟨_, rfl⟩
            generalize wa.alloc (.cells #[.slice none 0 0, .slice none 0 0, .slice none 0 0, .int .i64 0] 31) = wb at *
            rw [← hD] at bb zb ⊢
            have hB0 := FR.out.bel.size
            have hO := HOe.out
            have FD : Hid (Fr (fun i => (i = P ∨ i = G) ∨ i = D) w1 P G nm dl sp ys R (.slice va n vc) R.ps wb) := FR.out.wide (ka.more kb) (by omega) (by omega)
            have HOP := hide (kb.blk ba (fun f => f))
            have HDB := hide bb
            have HDw : Hid (w1.heap.size ≤ D) := by show _ ≤ _; omega
            have HOD0 : Hid (O ≠ D) := by show _ ≠ _; omega
            have SQ : Hid (SpOk wb q) := ⟨HSQ.out.1.stay (ka.more kb) (fun _ _ _ f => f), HSQ.out.2⟩
            have o0 := cell_blk HOP.out 0 (v := .int .i64 q.k) rfl
            have o3 := cell_blk HOP.out 3 (v := .int .i64 q.i) rfl
            have o4 := cell_blk HOP.out 4 (v := .slice q.ra q.res.length q.rc) rfl
            obtain ⟨out, hout⟩ : ∃ out, out = doR (xs.map nx) R q.k q.i q.res := ⟨_, rfl⟩
            have HOUT := hide hout
            have TR := hide ((EX.out R MY.out RB.out).2.1)
            have HLT := hide hlt
            clear hout ka kb ba bb za zb hO HOe hD hB0 ST FR HSQ hlt
            go_upto_block 2 with fail
            go_cut [20] from 90 to 303 (fun v wx => v = .int .i64 out.1.2.2 ∧ Hid (Md (fun k => k = P ∨ k = G) D O q w1 P G nm dl sp ys out (.slice va n vc) R.ps wx))
            case first => as_aux_lemma =>
              by_cases h1 : q.k = 1
              · as_aux_lemma =>
                have h1' : (q.k == 1) = true := by simpa using h1
                have HO : Hid (out = ((Chg.none, (leaseR R q.i).1.1, (leaseR R q.i).1.2), (leaseR R q.i).2)) := by show _ = _; rw [HOUT.out]; unfold doR; rw [if_pos h1]
                have LE := hide (lease_any FD.out.run q.i TR.out)
                clear h1
                go_wp2_with fail
                go_at_call 15
                refine LE.out.mono ?_
                rintro e w4 ⟨rfl, hr, k4⟩
                have M := hide (Md.lease (q := q) FD.out HOP.out HDB.out hr k4 (leaseR R q.i).1.1 (leaseR R q.i).1.2)
                clear hr k4 LE
                go_wp2_with fail
                go_meet
                case rel => exact ⟨by rw [HO.out], by rw [HO.out]; exact M.out⟩
              · have h1' : (q.k == 1) = false := by simpa using h1
                by_cases h2 : q.k = 2
                · as_aux_lemma =>
                  have h2' : (q.k == 2) = true := by simpa using h2
                  have HO : Hid (out = (((finishR (xs.map nx) R q.i q.res).1.1, 0, (finishR (xs.map nx) R q.i q.res).1.2), (finishR (xs.map nx) R q.i q.res).2)) := by show _ = _; rw [HOUT.out]; unfold doR; rw [if_neg h1, if_pos h2]
                  have TW : Hid (Calls Try.prog 17 #[.slice q.ra q.res.length q.rc] wb.drew fun en w' => ∃ va vc, en = .returned (.slice va q.res.length vc) ∧ Rd w' va q.res.length q.res ∧ (va = none → vc = 0) ∧ Keep (fun _ => False) wb w') := (twin_any q.ra q.res.length q.rc q.res wb.drew (SQ.out.1.stay (Keep.drew (fun _ => False) wb) (fun _ _ _ f => f)) SQ.out.2.1 SQ.out.2.2).mono fun en w' ⟨v, he, ho, hb⟩ => by
                    obtain ⟨va, vc, rfl, hrv, hcv, _⟩ := ownsRow_rdB ho SQ.out.1.2.2.1 SQ.out.1.2.1
                    exact ⟨va, vc, he, hrv, hcv, (Keep.drew _ wb).more (Keep.ofBelow hb (Nat.le_refl _))⟩
                  have FI : Hid (∀ (W : World) (va' : Option Addr) (vc' : Nat), Rd W va' q.res.length q.res → (va' = none → vc' = 0) → Keep (fun _ => False) wb W → Calls Try.prog 16 #[.pointer (some ⟨P, 0, none⟩), .int .i64 q.i, .slice va' q.res.length vc'] W (SpE (fun k => k = P ∨ k = G) D O q w1 P G nm dl sp ys (finishR (xs.map nx) R q.i q.res) (.slice va n vc) R.ps)) := fun W va' vc' hr h0 k => by
                    have F := FD.out.new k
                    have hc := finish_any F.run F.lt q.i va' q.res.length vc' q.res hr h0 SQ.out.2.2
                    rw [HMX.out] at hc
                    exact hc.mono fun e w' hs => stp_md F (k.blk HOP.out (fun f => f)) (k.blk HDB.out (fun f => f)) HDw.out hs
                  clear h1 h2
                  generalize finishR (xs.map nx) R q.i q.res = oo at *
                  have o3' : wb.drew.cell? ⟨O, 3, none⟩ = some (.int .i64 q.i) := o3
                  have o4' : wb.drew.cell? ⟨O, 4, none⟩ = some (.slice q.ra q.res.length q.rc) := o4
                  have HOD : Hid (O ≠ D) := HOD0.out
                  go_upto_region 25 with fail
                  go_region_held3 (fun wx => wx.cell? ⟨O, 3, none⟩ = some (.int .i64 q.i) ∧ wx.cell? ⟨O, 4, none⟩ = some (.slice q.ra q.res.length q.rc)) (first | (exact ⟨o3, o4⟩) | (exact ⟨o3', o4'⟩) | (exact ⟨hk3.cell o3 (fun f => f), hk3.cell o4 (fun f => f)⟩) | (exact ho4) | (exact ⟨(put4_keep w4 D _ _ _ _).cell ho4.1 (fun e => HOD.out e), (put4_keep w4 D _ _ _ _).cell ho4.2 (fun e => HOD.out e)⟩) | go_keep) (first | (go_at_call 17; refine TW.out.mono ?_; rintro e w3 ⟨ra3, rc3, rfl, hr3, h03, hk3⟩) | (go_at_call 16; refine (FI.out _ _ _ hr3 h03 hk3).mono ?_; rintro e w4 ⟨d4, sk4, r4, rfl, hD4, ho4, hM4⟩; have cz0 := cell_blk hD4 0 (v := .slice none 0 0) rfl; have fz0 := frozen_blk hD4 0; have cz1 := cell_blk hD4 1 (v := .slice none 0 0) rfl; have fz1 := frozen_blk hD4 1; have cz2 := cell_blk hD4 2 (v := .slice none 0 0) rfl; have fz2 := frozen_blk hD4 2; have cz3 := cell_blk hD4 3 (v := .int .i64 0) rfl; have fz3 := frozen_blk hD4 3))
                  all_goals (go_wp2_with fail; go_meet; exact ⟨by rw [HO.out], by rw [HO.out]; exact hM4⟩)
                · have h2' : (q.k == 2) = false := by simpa using h2
                  by_cases h3 : q.k = 3
                  · as_aux_lemma =>
                    have h3' : (q.k == 3) = true := by simpa using h3
                    have HO : Hid (out = (((missR (xs.map nx) R q.i).1.1, 0, (missR (xs.map nx) R q.i).1.2), (missR (xs.map nx) R q.i).2)) := by show _ = _; rw [HOUT.out]; unfold doR; rw [if_neg h1, if_neg h2, if_pos h3]
                    have MI : Hid (Calls Try.prog 18 #[.pointer (some ⟨P, 0, none⟩), .int .i64 q.i] wb (SpE (fun k => k = P ∨ k = G) D O q w1 P G nm dl sp ys (missR (xs.map nx) R q.i) (.slice va n vc) R.ps)) := by
                      have hc := miss_any FD.out.run FD.out.lt q.i
                      rw [HMX.out] at hc
                      exact hc.mono fun e w' hs => stp_md FD.out HOP.out HDB.out HDw.out hs
                    clear h1 h2 h3
                    generalize (missR (xs.map nx) R q.i) = oo at *
                    go_wp2_with fail
                    go_at_call 18
                    refine MI.out.mono ?_
                    rintro e w4 ⟨d4, sk4, r4, rfl, hD4, _, hM4⟩
                    have HM4 := hide hM4
                    have cz0 := cell_blk hD4 0 (v := .slice none 0 0) rfl
                    have fz0 := frozen_blk hD4 0
                    have cz1 := cell_blk hD4 1 (v := .slice none 0 0) rfl
                    have fz1 := frozen_blk hD4 1
                    have cz2 := cell_blk hD4 2 (v := .slice none 0 0) rfl
                    have fz2 := frozen_blk hD4 2
                    have cz3 := cell_blk hD4 3 (v := .int .i64 0) rfl
                    have fz3 := frozen_blk hD4 3
                    clear hM4 MI
                    go_wp2_with fail
                    go_meet
                    case rel => exact ⟨by rw [HO.out], by rw [HO.out]; exact HM4.out⟩
                  · have h3' : (q.k == 3) = false := by simpa using h3
                    by_cases h4 : q.k = 4
                    · as_aux_lemma =>
                      have h4' : (q.k == 4) = true := by simpa using h4
                      have HO : Hid (out = (((wakeR (xs.map nx) R q.i).1.1, 0, (wakeR (xs.map nx) R q.i).1.2), (wakeR (xs.map nx) R q.i).2)) := by show _ = _; rw [HOUT.out]; unfold doR; rw [if_neg h1, if_neg h2, if_neg h3, if_pos h4]
                      have MI : Hid (Calls Try.prog 19 #[.pointer (some ⟨P, 0, none⟩), .int .i64 q.i] wb (SpE (fun k => k = P ∨ k = G) D O q w1 P G nm dl sp ys (wakeR (xs.map nx) R q.i) (.slice va n vc) R.ps)) := by
                        have hc := wake_any FD.out.run FD.out.lt q.i
                        rw [HMX.out] at hc
                        exact hc.mono fun e w' hs => stp_md FD.out HOP.out HDB.out HDw.out hs
                      clear h1 h2 h3 h4
                      generalize (wakeR (xs.map nx) R q.i) = oo at *
                      go_wp2_with fail
                      go_at_call 19
                      refine MI.out.mono ?_
                      rintro e w4 ⟨d4, sk4, r4, rfl, hD4, _, hM4⟩
                      have HM4 := hide hM4
                      have cz0 := cell_blk hD4 0 (v := .slice none 0 0) rfl
                      have fz0 := frozen_blk hD4 0
                      have cz1 := cell_blk hD4 1 (v := .slice none 0 0) rfl
                      have fz1 := frozen_blk hD4 1
                      have cz2 := cell_blk hD4 2 (v := .slice none 0 0) rfl
                      have fz2 := frozen_blk hD4 2
                      have cz3 := cell_blk hD4 3 (v := .int .i64 0) rfl
                      have fz3 := frozen_blk hD4 3
                      clear hM4 MI
                      go_wp2_with fail
                      go_meet
                      case rel => exact ⟨by rw [HO.out], by rw [HO.out]; exact HM4.out⟩
                    · have h4' : (q.k == 4) = false := by simpa using h4
                      by_cases h5 : q.k = 5
                      · as_aux_lemma =>
                        have h5' : (q.k == 5) = true := by simpa using h5
                        have HO : Hid (out = (((stopR R q.i).1.1, 0, (stopR R q.i).1.2), (stopR R q.i).2)) := by show _ = _; rw [HOUT.out]; unfold doR; rw [if_neg h1, if_neg h2, if_neg h3, if_neg h4, if_pos h5]
                        have MI : Hid (Calls Try.prog 20 #[.pointer (some ⟨P, 0, none⟩), .int .i64 q.i] wb (SpE (fun k => k = P ∨ k = G) D O q w1 P G nm dl sp ys (stopR R q.i) (.slice va n vc) R.ps)) := by
                          have hc := stop_any FD.out.run FD.out.lt q.i
                          skip
                          exact hc.mono fun e w' hs => stp_md FD.out HOP.out HDB.out HDw.out hs
                        clear h1 h2 h3 h4 h5
                        generalize (stopR R q.i) = oo at *
                        go_wp2_with fail
                        go_at_call 20
                        refine MI.out.mono ?_
                        rintro e w4 ⟨d4, sk4, r4, rfl, hD4, _, hM4⟩
                        have HM4 := hide hM4
                        have cz0 := cell_blk hD4 0 (v := .slice none 0 0) rfl
                        have fz0 := frozen_blk hD4 0
                        have cz1 := cell_blk hD4 1 (v := .slice none 0 0) rfl
                        have fz1 := frozen_blk hD4 1
                        have cz2 := cell_blk hD4 2 (v := .slice none 0 0) rfl
                        have fz2 := frozen_blk hD4 2
                        have cz3 := cell_blk hD4 3 (v := .int .i64 0) rfl
                        have fz3 := frozen_blk hD4 3
                        clear hM4 MI
                        go_wp2_with fail
                        go_meet
                        case rel => exact ⟨by rw [HO.out], by rw [HO.out]; exact HM4.out⟩
                      · have h5' : (q.k == 5) = false := by simpa using h5
                        have HO : Hid (out = ((Chg.none, 0, 0), R)) := by show _ = _; rw [HOUT.out]; unfold doR; rw [if_neg h1, if_neg h2, if_neg h3, if_neg h4, if_neg h5]
                        have M := hide (Md.still (q := q) FD.out HOP.out HDB.out 0 0)
                        clear h1 h2 h3 h4 h5
                        go_wp2_with fail
                        go_meet
                        case rel => exact ⟨by rw [HO.out], by rw [HO.out]; exact M.out⟩
            case rest => as_aux_lemma =>
              obtain ⟨rfl, HMD⟩ := hcut
              have MY2 : Hid (May (xs.map nx) out.2) := by show May _ _; rw [HOUT.out]; exact do_may HB.out MY.out _ _ _
              have RB2 : Hid (RsB out.2.ps) := by show RsB _; rw [HOUT.out]; exact do_rsb RB.out SQ.out.1.2.2.1
              have F1 : Hid (out.1.2.2 ≠ 0 → out.2 = R) := fun h => by rw [HOUT.out] at h ⊢; exact do_same h
              have F2 : Hid (R.stt ≠ 1 → out.2 = R) := fun h => by rw [HOUT.out]; exact do_ended_same MY.out h
              have F3 : Hid (R.stt ≠ 1 → 1 ≤ q.k ∧ q.k ≤ 5 → out.1.2.2 ≠ 0) := fun h hk => by rw [HOUT.out]; exact do_ended MY.out h hk
              have F4 : Hid (q.k = 1 → out.1.2.2 = 0 → hasI R.ps.length q.i = true ∧ (∀ x, xs[q.i.toNat]? = some x → outl (sts R.ps) (nx x) = 1) ∧ trAt out.2.ps q.i = trAt R.ps q.i + 1) := fun h hc => by
                have e : out = ((Chg.none, (leaseR R q.i).1.1, (leaseR R q.i).1.2), (leaseR R q.i).2) := by rw [HOUT.out]; unfold doR; rw [if_pos h]
                rw [e] at hc ⊢
                obtain ⟨a, b, c⟩ := lease_ok MY.out hc
                exact ⟨a, fun x hx => b _ (nxs_at hx), c⟩
              have F5 : Hid (q.k = 3 → out.1.2.2 = 0 → out.1.1.dead ≠ [] → hasI R.ps.length q.i = true ∧ out.1.1.dead = [q.i.toNat] ∧ ∀ a, Waits (ng xs) a q.i.toNat → sAt (sts out.2.ps) (a : Nat) = 7) := fun h hc hd => by
                have e : out = (((missR (xs.map nx) R q.i).1.1, 0, (missR (xs.map nx) R q.i).1.2), (missR (xs.map nx) R q.i).2) := by rw [HOUT.out]; unfold doR; rw [if_neg (by omega), if_neg (by omega), if_pos h]
                rw [e] at hc hd ⊢
                exact miss_dead (fun x hx => (BU.out x hx).1) MY.out hc hd
              have L1 := hide (EX.out R MY.out RB.out).2.2.2.2.2.1
              have L2 := hide (EX.out out.2 MY2.out RB2.out).2.2.2.2.2.1
              have TD := hide (told_any HMD.out.fr.run (May.res (xs := ys) (by rw [HMX.out]; exact MY2.out) RB2.out))
              have hnl : n = ys.length := by rw [HN.out]; have := congrArg List.length HMX.out; simpa using this.symm
              rw [← hnl] at TD
              clear hnl HOUT SQ TR FD HOP HDB o0 o3 o4 HOD0 HDw
              obtain ⟨⟨c0, c1, c2⟩, _, _, _⟩ := HM.out wc HMD.out.fr.bel
              go_wp2_with fail
              go_at_call 12
              refine TD.out.mono ?_
              rintro e w4 ⟨v2, rfl, ht, k4⟩
              have M4 := hide (HMD.out.new k4)
              have T4 : Hid (Fr (fun i => (i = P ∨ i = G) ∨ i = D) w1 P G nm dl sp ys out.2 v2 out.2.ps w4) := M4.out.fr.told (Keep.refl _ _) ht
              obtain ⟨va2, vc2, rfl, hr2⟩ := T4.out.rdt (EX.out out.2 MY2.out RB2.out).1
              obtain ⟨va1, vc1, ev, hr1⟩ := M4.out.fr.rdt (EX.out R MY.out RB.out).1
              injection ev with ev1 ev2 ev3
              subst ev1 ev3
              have el2 : out.2.ps.length = n := by rw [L2.out, HN.out]
              have el1 : R.ps.length = n := by rw [L1.out, HN.out]
              rw [el2] at hr2 T4 ⊢
              rw [el1] at hr1
              have HR1 := hide hr1
              have HR2 := hide hr2
              have SA := hide (sameNodes_any (va2, n, vc2) (va, n, vc) out.2.ps R.ps w4 hr2 hr1 (by rw [L1.out, L2.out]) (by rw [L2.out]; have := VX.out.1; omega))
              clear TD HMD ht k4 hr1 hr2 ev2 c0 c1 c2 el1 el2
              go_wp2_with fail
              go_at_call 21
              refine SA.out.mono ?_
              rintro e w5 ⟨⟨b, rfl, hb⟩, k5⟩
              have M5 := hide (M4.out.new k5)
              have T5 := hide (T4.out.new k5)
              have R15 := hide (HR1.out.new k5)
              have R25 := hide (HR2.out.new k5)
              have HS1 : Hid (out.1.2.2 ≠ 0 → b = true) := fun h => hb (by rw [F1.out h])
              have HS2 : Hid (R.stt ≠ 1 → b = true) := fun h => hb (by rw [F2.out h])
              have ST2 := hide (status_any M5.out.fr.run)
              have o0 := cell_blk M5.out.op 0 (v := .int .i64 q.k) rfl
              have o3 := cell_blk M5.out.op 3 (v := .int .i64 q.i) rfl
              clear M4 T4 HR1 HR2 SA hb k5 F1
              obtain ⟨code, hcode⟩ : ∃ code, code = out.1.2.2 := ⟨_, rfl⟩
              rw [← hcode] at F3 F4 F5 HS1 ⊢
              clear hcode
              go_upto_region 36 with fail
              go_cut [186] from 153 to 303 (fun v wx => v = .bool false ∧ wx = w5)
              case first => as_aux_lemma =>
                by_cases hc : code = 0
                · have hc1 : (code != 0) = false := by simpa using hc
                  have hc2 : (code == 0) = true := by simpa using hc
                  by_cases hs : R.stt = 1
                  · have hs1 : (R.stt != 1) = false := by simpa using hs
                    clear hc hs
                    go_wp2_with fail
                    go_meet
                    case rel => exact ⟨rfl, rfl⟩
                  · have hs1 : (R.stt != 1) = true := by simpa using hs
                    have hbt := HS2.out hs
                    subst hbt
                    rw [F2.out hs] at ST2
                    have hk : ¬ (1 ≤ q.k ∧ q.k ≤ 5) := fun h => F3.out hs h hc
                    by_cases h1 : 1 ≤ q.k
                    · have g1 : decide (1 ≤ q.k) = true := decide_eq_true h1
                      have g2 : decide (q.k ≤ 5) = false := decide_eq_false (by omega)
                      have g3 : 5 < q.k := by omega
                      clear hc hs HS1 HS2 hk
                      go_wp2_with fail
                      go_at_call 14
                      refine ST2.out.mono ?_
                      rintro e w6 ⟨rfl, hw⟩
                      have hw := hw.symm
                      subst hw
                      go_wp2_with fail
                      go_meet
                      case rel => exact ⟨rfl, rfl⟩
                    · have g1 : decide (1 ≤ q.k) = false := decide_eq_false h1
                      have g3 : q.k < 1 := by omega
                      clear hc hs HS1 HS2 hk h1
                      go_wp2_with fail
                      go_at_call 14
                      refine ST2.out.mono ?_
                      rintro e w6 ⟨rfl, hw⟩
                      have hw := hw.symm
                      subst hw
                      go_wp2_with fail
                      go_meet
                      case rel => exact ⟨rfl, rfl⟩
                · have hc1 : (code != 0) = true := by simpa using hc
                  have hc2 : (code == 0) = false := by simpa using hc
                  have hbt := HS1.out hc
                  subst hbt
                  by_cases hs : R.stt = 1
                  · have hs1 : (R.stt != 1) = false := by simpa using hs
                    clear hc hs
                    go_wp2_with fail
                    go_meet
                    case rel => exact ⟨rfl, rfl⟩
                  · have hs1 : (R.stt != 1) = true := by simpa using hs
                    rw [F2.out hs] at ST2
                    clear hc hs HS1 HS2
                    go_wp2_with fail
                    go_at_call 14
                    refine ST2.out.mono ?_
                    rintro e w6 ⟨rfl, hw⟩
                    have hw := hw.symm
                    subst hw
                    go_wp2_with fail
                    go_meet
                    case rel => exact ⟨rfl, rfl⟩
              case rest => as_aux_lemma =>
                obtain ⟨rfl, hwc⟩ := hcut
                have hwc := hwc.symm
                subst hwc
                clear HS1 HS2 F2 F3 ST2
                obtain ⟨⟨c0, c1, c2⟩, hp5, _, _⟩ := HM.out w5 M5.out.fr.bel
                have HP5 := hide hp5
                clear hp5
                go_upto_region 38 with fail
                go_cut [229] from 187 to 303 (fun v wx => v = .bool false ∧ Hid (Keep (fun _ => False) w5 wx))
                case first => as_aux_lemma =>
                  by_cases hc : code = 0
                  · have hc2 : (code == 0) = true := by simpa using hc
                    by_cases h1 : q.k = 1
                    · have h1' : (q.k == 1) = true := by simpa using h1
                      obtain ⟨hi1, hou, htr⟩ := F4.out h1 hc
                      unfold hasI at hi1
                      simp only [Bool.and_eq_true, decide_eq_true_eq] at hi1
                      have hkn : q.i < (n : Int) := by have := L1.out; have := HN.out; omega
                      have hk0 : 0 ≤ q.i := hi1.1
                      clear hc h1 hi1 F4 F5
                      generalize q.i = qi at *
                      obtain ⟨k, rfl⟩ : ∃ k : Nat, qi = (k : Int) := ⟨qi.toNat, by omega⟩
                      have hkn' : k < n := by omega
                      obtain ⟨g1, of1, p1, m1, ha1, hp1, _, t1, _, _⟩ := R15.out.at (i := k) (by rw [L1.out, ← HN.out]; exact hkn')
                      obtain ⟨g2, of2, p2, m2, ha2, hp2, _, t2, _, _⟩ := R25.out.at (i := k) (by rw [L2.out, ← HN.out]; exact hkn')
                      have ha1 : va = some ⟨g1, of1, none⟩ := ha1
                      have ha2 : va2 = some ⟨g2, of2, none⟩ := ha2
                      have htr : p2.tr = p1.tr + 1 := by
                        unfold trAt at htr
                        rw [Int.toNat_natCast, hp1, hp2] at htr
                        exact htr
                      have hbt := (EX.out R MY.out RB.out).2.1 p1 (List.mem_of_getElem? hp1)
                      have hx : xs[k]? = some (xs[k]'(by rw [← HN.out]; exact hkn')) := List.getElem?_eq_getElem _
                      have hou := hou _ (by rw [Int.toNat_natCast]; exact hx)
                      have FRE : Hid (∀ u : Behind w5, Calls Try.prog 22 #[.agg #[.string nm, .int .i64 dl, .slice a n c], .slice va n vc, .int .i64 (k : Int)] u.1 fun e w' => e = .returned (.bool true) ∧ Keep (fun _ => False) u.1 w') := fun u => by
                        have h := free_any nm dl (a, n, c) (va, n, vc) xs R.ps u.1 ((HP5.out.new u.keep).mono u.keep.size) (R15.out.new u.keep) VX.out L1.out k _ hx
                        rw [decide_eq_true hou] at h
                        exact h
                      subst ha1 ha2
                      rw [htr] at t2
                      clear htr hou hx hp1 hp2
                      generalize p1.tr = tr at *
                      have wr1 : IntKind.i64.wrap (tr + 1) = tr + 1 := wrRn (by omega) (by omega)
                      have x1 : decide ((k : Int) < 0) = false := decide_eq_false (by omega)
                      have x2 : decide ((n : Int) ≤ (k : Int)) = false := decide_eq_false (by omega)
                      have x3 : decide (n ≤ k) = false := decide_eq_false (by omega)
                      have x4 : ¬ n ≤ k := by omega
                      haveI := behindNE w5
                      have e0 := fun u : Behind w5 => u.cell c0
                      have e1 := fun u : Behind w5 => u.cell c1
                      have e2 := fun u : Behind w5 => u.cell c2
                      have e3 := fun u : Behind w5 => u.cell o0
                      have e4 := fun u : Behind w5 => u.cell o3
                      have e5 := fun u : Behind w5 => u.cell t1
                      have e6 := fun u : Behind w5 => u.cell t2
                      refine quiet_behind (by kernel_rfl) (by kernel_rfl) ?_
                      repeat (go_big_quiet_step ((go_at_call 22; exact calls_keep _ (FRE.out _))))
                      refine wpQuiet_nil ?_
                      intro _ hw'
                      obtain ⟨u, hw''⟩ := hw'
                      subst hw''
                      go_wp2
                      go_meet
                      case rel => exact ⟨rfl, u.keep⟩
                    · have h1' : (q.k == 1) = false := by simpa using h1
                      clear h1 hc
                      go_quiet (fail)
                      go_wp2
                      go_meet
                      case rel => exact ⟨rfl, keep_drewN _ _⟩
                  · have hc2 : (code == 0) = false := by simpa using hc
                    clear hc
                    go_quiet (fail)
                    go_wp2
                    go_meet
                    case rel => exact ⟨rfl, keep_drewN _ _⟩
                case rest => as_aux_lemma =>
                  obtain ⟨rfl, hk6⟩ := hcut
                  obtain ⟨w6, hw6⟩ : ∃ x, x = wc := ⟨_, rfl⟩
                  subst hw6
                  have M6 := hide (M5.out.new hk6.out)
                  have T6 := hide (T5.out.new hk6.out)
                  have R26 := hide (R25.out.new hk6.out)
                  clear M5 T5 R15 R25 F4 HP5 c0 c1 c2 o0 o3 hk6
                  obtain ⟨⟨da, dn, dc⟩, sk, r, st, hDb, hdz⟩ := M6.out.ch
                  have HDZ := hide hdz.1
                  have HDN : Hid (dn = out.1.1.dead.length) := by show dn = _; have := hdz.1.1; simpa using this
                  have o0 := cell_blk M6.out.op 0 (v := .int .i64 q.k) rfl
                  have o3 := cell_blk M6.out.op 3 (v := .int .i64 q.i) rfl
                  have d0 := cell_blk hDb 0 (v := .slice da dn dc) rfl
                  have HDB := hide hDb
                  have F6 : Hid (code = 0 → q.k = 3 → dn ≠ 0 → dn = 1) := fun h1 h2 h3 => by
                    have := (F5.out h2 h1 (fun e => h3 (by rw [HDN.out, e]; rfl))).2.1
                    rw [HDN.out, this]; rfl
                  clear hdz hDb
                  obtain ⟨gd, hgd⟩ : ∃ gd : Bool, gd = decide (code = 0 ∧ q.k = 3 ∧ dn ≠ 0) := ⟨_, rfl⟩
                  have HGD := hide hgd
                  clear hgd
                  go_upto_region 40 with fail
                  go_cut [242] from 230 to 303 (fun v wx => v = .bool gd ∧ wx = w6)
                  case first => as_aux_lemma =>
                    by_cases hc : code = 0
                    · have hc2 : (code == 0) = true := by simpa using hc
                      by_cases h3 : q.k = 3
                      · have h3' : (q.k == 3) = true := by simpa using h3
                        by_cases hd : dn = 0
                        · have hg : gd = false := HGD.out.trans <| decide_eq_false (fun h => h.2.2 hd)
                          subst hg
                          clear HGD HDN HDZ HDB F6 hc h3
                          subst hd
                          go_wp2_with fail
                          go_meet
                          case rel => exact ⟨rfl, rfl⟩
                        · have hg : gd = true := HGD.out.trans <| decide_eq_true ⟨hc, h3, hd⟩
                          have hd1 := F6.out hc h3 hd
                          subst hg
                          clear HGD HDN HDZ HDB F6 hc h3 hd
                          subst hd1
                          go_wp2_with fail
                          go_meet
                          case rel => exact ⟨rfl, rfl⟩
                      · have h3' : (q.k == 3) = false := by simpa using h3
                        have hg : gd = false := HGD.out.trans <| decide_eq_false (fun h => h3 h.2.1)
                        subst hg
                        clear HGD HDN HDZ HDB F6 hc h3
                        go_wp2_with fail
                        go_meet
                        case rel => exact ⟨rfl, rfl⟩
                    · have hc2 : (code == 0) = false := by simpa using hc
                      have hg : gd = false := HGD.out.trans <| decide_eq_false (fun h => hc h.1)
                      subst hg
                      clear HGD HDN HDZ HDB F6 hc
                      go_wp2_with fail
                      go_meet
                      case rel => exact ⟨rfl, rfl⟩
                  case rest => as_aux_lemma =>
                    obtain ⟨rfl, hwc⟩ := hcut
                    have hwc := hwc.symm
                    subst hwc
                    obtain ⟨⟨c0, c1, c2⟩, _, _, _⟩ := HM.out w6 M6.out.fr.bel
                    go_upto_if 242 with fail
                    go_cut [22, 23, 24] from 243 to 303 (fun _ _ _ wx => Hid (Keep (fun _ => False) w6 wx))
                    case first => as_aux_lemma =>
                      cases gd with
                      | true =>
                        have hg : code = 0 ∧ q.k = 3 ∧ dn ≠ 0 := of_decide_eq_true HGD.out.symm
                        clear HGD
                        have hd1 := F6.out hg.1 hg.2.1 hg.2.2
                        obtain ⟨hi1, hde, hbl⟩ := F5.out hg.2.1 hg.1 (fun e => hg.2.2 (by rw [HDN.out, e]; rfl))
                        unfold hasI at hi1
                        simp only [Bool.and_eq_true, decide_eq_true_eq] at hi1
                        have hkn : q.i < (xs.length : Int) := by have := L1.out; omega
                        have hk0 : 0 ≤ q.i := hi1.1
                        obtain ⟨g3, of3, x3, hx1, _, hx2, hx3⟩ := HDZ.out.at (i := 0) (by show 0 < dn; omega)
                        have hx2 : x3 = q.i := by
                          rw [hde] at hx2
                          have : ((q.i.toNat : Nat) : Int) = x3 := by simpa using hx2
                          omega
                        have hx1 : da = some ⟨g3, of3, none⟩ := hx1
                        subst hx1 hx2 hd1
                        rw [Nat.add_zero] at hx3
                        have BEL := hide (fun (W : World) (pa : Option Addr) (pc : Nat) (ys1 : List No) (h : Cp nm dl xs ys1 (pa, xs.length, pc) W) => below_of h HCK.out q.i ⟨hk0, hkn⟩)
                        have HBM : Hid (∀ e ∈ bel xs q.i.toNat xs.length, e < n ∧ sAt (sts out.2.ps) (e : Nat) = 7) := fun e he => by
                          obtain ⟨h1, h2⟩ := bel_mem.1 he
                          exact ⟨by rw [HN.out]; exact h1, hbl e h2⟩
                        have HBL : Hid ((bel xs q.i.toNat xs.length).length ≤ 64) := Nat.le_trans (bel_len _ _ _) VX.out.1
                        have PLD : Hid (Calls Try.prog 10 #[.agg #[.string nm, .int .i64 dl, .slice a n c]] w6.drew fun e w' => ∃ pa pc ys1, e = .returned (.agg #[.string nm, .int .i64 dl, .slice pa xs.length pc]) ∧ Cp nm dl xs ys1 (pa, xs.length, pc) w' ∧ Keep (fun _ => False) w6 w') := (PL.out w6.drew M6.out.fr.bel.drew).mono fun e w' ⟨pa, pc, ys1, he, _, hnd, hye, hb8⟩ => ⟨pa, pc, ys1, he, CP.out w' _ pa _ pc ys1 hnd hye, (Keep.drew _ w6).more (Keep.ofBelow hb8 (Nat.le_refl _))⟩
                        generalize bel xs q.i.toNat xs.length = l at *
                        have o3' : w6.drew.cell? ⟨O, 3, none⟩ = some (.int .i64 q.i) := o3
                        have c0' : w6.drew.cell? ⟨w.heap.size, 0, none⟩ = some (.string nm) := c0
                        have c1' : w6.drew.cell? ⟨w.heap.size, 1, none⟩ = some (.int .i64 dl) := c1
                        have c2' : w6.drew.cell? ⟨w.heap.size, 2, none⟩ = some (.slice a n c) := c2
                        clear hg hde hbl hi1 F5 F6
                        go_upto_region 41 with fail
                        go_cut [22, 23] from 243 to 303 (fun v22 v23 wx => ∃ ba bc, v22 = .slice ba l.length bc ∧ v23 = .int .i64 0 ∧ Hid (Keep (fun _ => False) w6 wx ∧ RdZ wx.heap.size wx (ba, l.length, bc) (l.map fun x : Nat => (x : Int))))
                        case first => as_aux_lemma =>
                          go_region_held3 (fun wx => wx.cell? ⟨w.heap.size, 0, none⟩ = some (.string nm) ∧ wx.cell? ⟨w.heap.size, 1, none⟩ = some (.int .i64 dl) ∧ wx.cell? ⟨w.heap.size, 2, none⟩ = some (.slice a n c) ∧ wx.cell? ⟨O, 3, none⟩ = some (.int .i64 q.i)) (first | (exact ⟨c0, c1, c2, o3⟩) | (exact ⟨c0', c1', c2', o3'⟩) | (exact ⟨hk8.cell c0 (fun f => f), hk8.cell c1 (fun f => f), hk8.cell c2 (fun f => f), hk8.cell o3 (fun f => f)⟩) | (exact ⟨hk9.cell (hk8.cell c0 (fun f => f)) (fun f => f), hk9.cell (hk8.cell c1 (fun f => f)) (fun f => f), hk9.cell (hk8.cell c2 (fun f => f)) (fun f => f), hk9.cell (hk8.cell o3 (fun f => f)) (fun f => f)⟩) | go_keep) (first | (go_at_call 10; refine PLD.out.mono ?_; rintro e w8 ⟨pa, pc, ys1, rfl, hcp, hk8⟩) | (go_at_call 23; refine (BEL.out _ _ _ _ hcp).mono ?_; rintro e w9 ⟨ba, bc, rfl, hrz, hk9⟩))
                          all_goals (go_wp2_with fail; go_meet; exact ⟨ba, bc, rfl, rfl, hk8.more hk9, hrz⟩)
                        case rest => as_aux_lemma =>
                          obtain ⟨ba, bc, rfl, rfl, HW⟩ := hcut
                          obtain ⟨w10, hw10⟩ : ∃ x, x = wc := ⟨_, rfl⟩
                          subst hw10
                          have k10 := HW.out.1
                          have HZ10 := hide HW.out.2
                          have o3 := k10.cell o3 (fun f => f)
                          have d0 := k10.cell d0 (fun f => f)
                          have x0 := k10.cell hx3 (fun f => f)
                          have R2x := hide (R26.out.new k10)
                          have K10 := hide k10
                          clear k10 HW BEL PLD o3' c0' c1' c2' c0 c1 c2
                          go_upto_region 42 with fail
                          go_cut [267] from 251 to 303 (fun v wx => v = .bool false ∧ ∃ k, wx = w10.drewN k)
                          case first => as_aux_lemma =>
                            go_quiet (fail)
                            go_wp2
                            go_meet
                            case rel => exact ⟨rfl, _, rfl⟩
                          case rest => as_aux_lemma =>
                            obtain ⟨rfl, kk, hw11⟩ := hcut
                            have kd : Keep (fun _ => False) w10 wc := by rw [hw11]; exact keep_drewN _ _
                            obtain ⟨w11, hw12⟩ : ∃ x, x = wc := ⟨_, rfl⟩
                            subst hw12
                            have HZ11 := hide ((HZ10.out.new kd).mono kd.size)
                            have R2y := hide (R2x.out.new kd)
                            have K11 := hide (K10.out.more kd)
                            have hl64 := HBL.out
                            clear hw11 kd HZ10 R2x K10 o3 d0 x0 HBL
                            go_wp2_with fail
                            go_loopw [24] (fun v24 wx => ∃ k : Nat, v24 = .int .i64 (k : Nat) ∧ k ≤ l.length ∧ wx = w11) (fun v24 _ => l.length - (intOf v24).toNat)
                            case atStart => exact ⟨0, rfl, Nat.zero_le _, rfl⟩
                            case round =>
                              obtain ⟨k, rfl, hk, hwr⟩ := hrel
                              have hwr := hwr.symm
                              subst hwr
                              by_cases hlk : k < l.length
                              · obtain ⟨g5, of5, x5, hy1, _, hy2, hy3⟩ := HZ11.out.at (i := k) hlk
                                have hy1 : ba = some ⟨g5, of5, none⟩ := hy1
                                subst hy1
                                have hy2 : x5 = ((l[k] : Nat) : Int) := by
                                  rw [List.getElem?_map, List.getElem?_eq_getElem hlk] at hy2
                                  exact (Option.some.inj hy2).symm
                                have hmem := HBM.out l[k] (List.getElem_mem hlk)
                                generalize l[k] = ee at *
                                subst hy2
                                obtain ⟨g6, of6, p6, m6, hz1, hz2, t6, _, _, _⟩ := R2y.out.at (i := ee) (by rw [L2.out, ← HN.out]; exact hmem.1)
                                have hz1 : va2 = some ⟨g6, of6, none⟩ := hz1
                                subst hz1
                                have h7 : p6.st = 7 := by rw [← sAt_sts hz2]; exact hmem.2
                                rw [h7] at t6
                                have hee : ee < n := hmem.1
                                have y1 : decide ((ee : Int) < 0) = false := decide_eq_false (by omega)
                                have y2 : decide ((n : Int) ≤ (ee : Int)) = false := decide_eq_false (by omega)
                                clear hmem h7 hz2
                                go_wp2_with fail
                                go_roundw
                                · exact ⟨k + 1, rfl, by omega, trivial⟩
                                · show l.length - ((k : Int) + 1).toNat < l.length - (k : Int).toNat
                                  omega
                              · obtain rfl : k = l.length := by omega
                                clear hlk
                                go_wp2_with fail
                                go_meet
                                case rel => exact K11.out
                      | false =>
                        clear HGD
                        go_wp2_with fail
                        go_meet
                        case rel => exact Keep.refl _ _
                    case rest => as_aux_lemma =>
                      obtain ⟨w7', hw7⟩ : ∃ x, x = wc := ⟨_, rfl⟩
                      subst hw7
                      have T7 := hide (T6.out.new hcut.out)
                      have R27 := hide (R26.out.new hcut.out)
                      clear hcut M6 T6 R26 HDZ HDN HDB HGD F5 F6 o0 o3 d0 c0 c1 c2
                      haveI := behindNE w7'
                      obtain ⟨⟨c0, c1, c2⟩, _, _, _⟩ := HM.out w7' T7.out.bel
                      have e0 := fun u : Behind w7' => u.cell c0
                      have e1 := fun u : Behind w7' => u.cell c1
                      have e2 := fun u : Behind w7' => u.cell c2
                      go_upto_region 49 with fail
                      refine quiet_behind (by kernel_rfl) (by kernel_rfl) ?_
                      repeat (go_big_quiet_step (first
                        | (go_at_call 14; exact (status_any (T7.out.run.new (Behind.keep _))).mono fun _ _ h => ⟨h.1, _, h.2⟩)
                        | (go_at_call 13; exact calls_keep _ (RU.out _ (T7.out.bel.trans ((Behind.keep _).below T7.out.bel.size fun _ f => f.elim)) out.2 (va2, n, vc2) MY2.out RB2.out (R27.out.new (Behind.keep _))))))
                      refine wpQuiet_nil ?_
                      intro _ hw'
                      obtain ⟨u, hw''⟩ := hw'
                      subst hw''
                      have T8 := hide ((T7.out.new u.keep).less (.inl rfl) (.inr rfl))
                      have hlt2 := HLT.out
                      clear e0 e1 e2 c0 c1 c2
                      go_wp2
                      go_roundw
                      · exact ⟨i + 1, out.2, va2, vc2, rfl, rfl, rfl, by omega, T8.out, MY2.out, RB2.out⟩
                      · show tn - ((i : Int) + 1).toNat < tn - (i : Int).toNat
                        omega
          · obtain rfl : i = tn := by omega
            have E9 := hide (HM.out wr FR.out.bel).2.2.2
            go_wp2_with fail
            go_ret
            exact ⟨rfl, E9.out⟩
end Rn
end Go.Proofs.Ytjiclmbhloibaaa
