/- The law's course: the walk. -/
import Derived.Test.YtiackejbpcjmeaaRCoS
import Derived.Test.YtiackejbpcjmeaaGRfA
import Derived.Deep.CutRange
import Derived.Deep.CutBlock
import Derived.Deep.QuietTactic
namespace Go.Proofs.Ytiackejbpcjmeaa
namespace Rn
open Go.RowKit Gr

set_option maxRecDepth 100000 in
set_option maxHeartbeats 40000000 in
theorem course_any (nm : ByteArray) (dl : Int) (s t u : Option Addr × Nat × Nat) (xs : List No) (z o : List Int) (w : World) (hP : RdP w.heap.size w s xs) (hs : Sz nm xs) (hc : CapP xs) (hck : (chk nm dl xs).2 = 0) (hsm : xs.length + edges xs ≤ 20000) (hz : RdZ w.heap.size w t z) (ho : RdZ w.heap.size w u o) (hzb : ∀ c ∈ z, -9223372036854775808 ≤ c ∧ c ≤ 9223372036854775807) (hob : ∀ c ∈ o, -9223372036854775808 ≤ c ∧ c ≤ 9223372036854775807) :
    Calls Try.prog 7 #[.agg #[.string nm, .int .i64 dl, .slice s.1 s.2.1 s.2.2], .slice t.1 t.2.1 t.2.2, .slice u.1 u.2.1 u.2.2] w (CoE xs z w) := by
  obtain ⟨a, n, c⟩ := s
  obtain ⟨ma, mn, mc⟩ := t
  obtain ⟨oa, on, oc⟩ := u
  have HN : Hid (n = xs.length) := hP.1
  have HMN : Hid (mn = z.length) := hz.1
  have hmn2 : mn ≤ 17592186044416 := hz.2.1
  have hon2 : on ≤ 17592186044416 := ho.2.1
  have k1 := Keep.alloc (fun _ => False) w (.cells #[.string nm, .int .i64 dl, .slice a n c] 24)
  have b1 := heap_alloc_new w (.cells #[.string nm, .int .i64 dl, .slice a n c] 24)
  have HM : Hid (∀ W, Below (w.alloc (.cells #[.string nm, .int .i64 dl, .slice a n c] 24)).heap.size (w.alloc (.cells #[.string nm, .int .i64 dl, .slice a n c] 24)) W → (W.cell? ⟨w.heap.size, 0, none⟩ = some (.string nm) ∧ W.cell? ⟨w.heap.size, 1, none⟩ = some (.int .i64 dl) ∧ W.cell? ⟨w.heap.size, 2, none⟩ = some (.slice a n c)) ∧ RdP W.heap.size W (a, n, c) xs ∧ RdZ W.heap.size W (ma, mn, mc) z ∧ RdZ W.heap.size W (oa, on, oc) o ∧ Below w.heap.size w W) := fun W k => by
    have k2 : Keep (fun _ => False) (w.alloc (.cells #[.string nm, .int .i64 dl, .slice a n c] 24)) W := Keep.ofBelow k (Nat.le_refl _)
    have kk := k1.more k2
    exact ⟨⟨cell_blk (k2.blk b1 (fun f => f)) 0 rfl, cell_blk (k2.blk b1 (fun f => f)) 1 rfl, cell_blk (k2.blk b1 (fun f => f)) 2 rfl⟩, (hP.new kk).mono kk.size, (hz.new kk).mono kk.size, (ho.new kk).mono kk.size, kk.below (Nat.le_refl _) fun _ f => f.elim⟩
  have hzz : ∀ x ∈ xs, x.nl.length ≤ 20000 ∧ x.al.length ≤ 20000 := fun x hx => by have := edges_mem hx; omega
  have hxl : xs.length ≤ 20000 := by omega
  have PLN := hide (fun (W : World) (k : Below (w.alloc (.cells #[.string nm, .int .i64 dl, .slice a n c] 24)).heap.size (w.alloc (.cells #[.string nm, .int .i64 dl, .slice a n c] 24)) W) => planned_any nm dl (a, n, c) xs W (HM.out W k).2.1 hc hxl hzz)
  have CP := hide (fun (W : World) (B : Nat) (v : Option Addr) (m d : Nat) (zs : List No) (h : NdX B W (.slice v m d) zs) (he : zs.map er = xs.map er) => cp_of (nm := nm) (dl := dl) h he hxl hzz hs)
  have CK1 := hide hck
  have HZB := hide hzb
  have HOB := hide hob
  have BU := hide (bu_of hck)
  have VX := hide (chk_ok hck).2.2.2.1
  have NC := hide (cyc_none (chk_ok hck).2.2.2.2)
  have HB : Hid (∀ x ∈ xs.map nx, 1 ≤ x.bu) := fun x hx => by obtain ⟨y, hy, rfl⟩ := List.mem_map.1 hx; exact (BU.out y hy).1
  have HBM := hide (msF_in (z := z) BU.out)
  have HNM := hide (nmF_in hck)
  have HNS := hide (nm_in hck)
  have EX := hide (fun (R : Rs) (h : May (xs.map nx) R) (hB : RsB R.ps) => (⟨May.res (xs := xs) h hB, May.trs VX.out BU.out h, (by have := h.1.1; simpa using this)⟩ : (∀ p ∈ R.ps, (∀ d ∈ p.rs, d < 256) ∧ p.rs.length ≤ 1000) ∧ (∀ p ∈ R.ps, -1000 ≤ p.tr ∧ p.tr ≤ 1000) ∧ R.ps.length = xs.length))
  have CS0 : Hid (Cs (xs.map nx) (buF xs) (msF xs z) (nmF xs) 0 0 (newR (xs.map nx)).2) := cs_new HB.out HBM.out.1
  have B1 : Hid (Below (w.alloc (.cells #[.string nm, .int .i64 dl, .slice a n c] 24)).heap.size (w.alloc (.cells #[.string nm, .int .i64 dl, .slice a n c] 24)) (w.alloc (.cells #[.string nm, .int .i64 dl, .slice a n c] 24))) := Below.refl _ _
  have hn64 : n ≤ 64 := by rw [HN.out]; exact VX.out.1
  clear hP hs hc hck hsm hz ho hzb hob k1 b1 hzz hxl
  go_enter Try.func7, Try.ntmps7
  go_upto_region 1 with fail
  obtain ⟨H, hH⟩ : ∃ H, H = w.heap.size := ⟨_, rfl⟩
  generalize w.alloc (.cells #[.string nm, .int .i64 dl, .slice a n c] 24) = w1 at *
  simp only [← hH] at HM ⊢
  have HHE := hide hH
  clear hH
  obtain ⟨⟨c0, c1, c2⟩, _, _, _, _⟩ := HM.out w1 B1.out
  go_wp2_with fail
  go_at_call 11
  refine (PLN.out w1 B1.out).mono ?_
  rintro e w4 ⟨pa, pc, zs0, rfl, _, hnd, hye, hb4⟩
  have C4 := hide (CP.out w4 _ pa _ pc zs0 hnd hye)
  have B4 := hide (B1.out.trans (hb4.mono B1.out.size))
  have NW := hide (new_any nm dl (pa, xs.length, pc) zs0 w4 C4.out.rd C4.out.cap C4.out.sz C4.out.ln)
  clear hnd hye hb4 c0 c1 c2
  go_wp2_with fail
  go_at_call 10
  refine NW.out.mono ?_
  intro e w5 hE
  obtain ⟨p, d, sk, r, rfl, hPs, hGs, hmx, hln, hR, hb5⟩ := made_c C4.out CK1.out hE
  have kz := Keep.alloc (fun _ => False) w5 (.cells #[.slice d.1 d.2.1 d.2.2, .slice sk.1 sk.2.1 sk.2.2, .slice r.1 r.2.1 r.2.2, .int .i64 (newR (xs.map nx)).2.stt] 45)
  have B5 := hide (B4.out.trans (hb5.mono B4.out.size))
  have SO0 : Hid (Sg w1 p (newR (xs.map nx)).2 (w5.alloc (.cells #[.slice d.1 d.2.1 d.2.2, .slice sk.1 sk.2.1 sk.2.2, .slice r.1 r.2.1 r.2.2, .int .i64 (newR (xs.map nx)).2.stt] 45))) := ⟨hR.new kz, B5.out.trans (kz.below B5.out.size fun _ f => f.elim), by have := B4.out.size; omega, by have := B4.out.size; omega⟩
  have HX := hide hmx
  have HXL := hide hln
  clear hE hb5 NW C4 kz hPs hGs hmx hln hR B1 B4 B5 PLN CP
  generalize (newR (xs.map nx)).2 = R0 at *
  simp only
  go_upto_region 2 with fail
  generalize w5.alloc (.cells #[.slice d.1 d.2.1 d.2.2, .slice sk.1 sk.2.1 sk.2.2, .slice r.1 r.2.1 r.2.2, .int .i64 R0.stt] 45) = w6 at *
  go_wp2_with fail
  go_loopw [13, 14] (fun v13 v14 wr => ∃ j : Nat, v13 = .int .i64 (sumN xs j) ∧ v14 = .int .i64 (j : Nat) ∧ j ≤ n ∧ wr = w6) (fun _ v14 _ => n - (intOf v14).toNat)
  case atStart => exact ⟨0, rfl, rfl, Nat.zero_le _, rfl⟩
  case round => as_aux_lemma =>
    obtain ⟨j, rfl, rfl, hj, hw⟩ := hrel
    subst hw
    obtain ⟨⟨c0, c1, c2⟩, hp, _, _, _⟩ := HM.out _ SO0.out.bel
    by_cases hlt : j < n
    · as_aux_lemma =>
      obtain ⟨g, off, x, hs, _, hx, hN, _, _⟩ := hp.at (i := j) hlt
      have hs : a = some ⟨g, off, none⟩ := hs
      subst hs
      have n2 := hN.all.2.2.1
      have hbx := BU.out x (List.mem_of_getElem? hx)
      have hsn := sumN_in BU.out j (by have := HN.out; omega)
      have HSU : Hid (sumN xs (j + 1) = sumN xs j + x.q.bu) := sumN_succ hx
      obtain ⟨S, hS⟩ : ∃ S, S = sumN xs j := ⟨_, rfl⟩
      rw [← hS] at hsn HSU ⊢
      obtain ⟨b, hb⟩ : ∃ b, b = x.q.bu := ⟨_, rfl⟩
      rw [← hb] at hbx HSU n2
      clear hS hb hp hx hN
      obtain ⟨hs0, hs1⟩ := hsn
      obtain ⟨hb0, hb1⟩ := hbx
      have hs2 : S ≤ 6400 := by omega
      clear hs1
      go_wp2_with fail
      go_roundw
      · exact ⟨j + 1, by rw [HSU.out], rfl, by omega, by trivial⟩
      · show n - ((j : Int) + 1).toNat < n - (j : Int).toNat
        omega
    · as_aux_lemma =>
      have hjn : j = n := by omega
      subst hjn
      have hal := sumN_in BU.out j (by have := HN.out; omega)
      have HAL : Hid (sumB (xs.map nx) = sumN xs j) := by show _ = _; rw [HN.out, sumN_all]
      obtain ⟨al, hAl⟩ : ∃ al, al = sumN xs j := ⟨_, rfl⟩
      rw [← hAl] at hal HAL ⊢
      clear hAl
      have hal1 : 0 ≤ al := hal.1
      have hal2 : al ≤ 6400 := by omega
      clear hal hp hlt hj
      have SO1 := SO0
      go_wp2_with fail
      clear c0 c1 c2
      go_loopw [15, 16] (fun v15 v16 wr => ∃ (st : Nat) (lea : Int) (R : Rs), v15 = .int .i64 lea ∧ v16 = .int .i64 (st : Nat) ∧ Hid (Sg w1 p R wr ∧ Cs (xs.map nx) (buF xs) (msF xs z) (nmF xs) (st : Nat) lea R)) (fun _ v16 _ => (3 * al).toNat + 1 - (intOf v16).toNat)
      case atStart => exact ⟨0, 0, R0, rfl, rfl, SO0.out, CS0.out⟩
      case round => as_aux_lemma =>
        clear SO0 SO1 CS0
        obtain ⟨st, lea, R, rfl, rfl, HD⟩ := hrel
        have SO : Hid (Sg w1 p R _) := HD.out.1
        have CS : Hid (Cs (xs.map nx) (buF xs) (msF xs z) (nmF xs) (st : Nat) lea R) := HD.out.2
        clear HD
        have hmost := CS.out.most HBM.out.1 (CS.out.all HBM.out.1 HBM.out.2)
        rw [HAL.out] at hmost
        have hst2 : (st : Int) ≤ 3 * al := hmost.1
        have hle2 : lea ≤ al := hmost.2
        have hle1 : 0 ≤ lea := CS.out.nneg HBM.out.1
        clear hmost
        have ER := hide (EX.out R CS.out.may CS.out.rsb)
        have ST := hide (status_any SO.out.run)
        go_wp2_with fail
        go_at_call 15
        refine ST.out.mono ?_
        rintro e wr1 ⟨rfl, hw⟩
        subst hw
        clear ST
        by_cases hlive : R.stt = 1
        · as_aux_lemma =>
          have HLV := hide hlive
          rw [hlive]
          clear hlive
          obtain ⟨⟨c0, c1, c2⟩, _, _, _, _⟩ := HM.out _ SO.out.bel
          have TA := hide (told_any SO.out.run ER.out.1)
          rw [HXL.out, ← HN.out] at TA
          have g3 : ¬ ((st : Int) > 3 * al + 3) := by omega
          go_wp2_with fail
          go_at_call 13
          refine TA.out.mono ?_
          rintro e w2 ⟨v2, rfl, ht2, k2⟩
          have S2 := hide (SO.out.new k2)
          obtain ⟨la, lc, rfl, hrt⟩ := ht2.rd ER.out.1
          have HPL : Hid (R.ps.length = j) := by show _ = _; rw [ER.out.2.2, HN.out]
          rw [HPL.out] at hrt ⊢
          have HRT := hide hrt
          clear c0 c1 c2 TA k2 ht2 hrt SO
          have CN0 : Hid (Cn w2 R.ps 0 none 0 w2) := ⟨World.ownsRow_nil _ _ _ _, Keep.refl _ _⟩
          go_wp2_with fail
          go_loopw [19, 20] (fun v19 v20 wr => ∃ (i : Nat) (ca : Option Addr) (cc : Nat), v19 = .slice ca (canL R.ps i).length cc ∧ v20 = .int .i64 (i : Nat) ∧ i ≤ j ∧ Hid (Cn w2 R.ps i ca cc wr)) (fun _ v20 _ => j - (intOf v20).toNat)
          case atStart => exact ⟨0, none, 0, rfl, rfl, Nat.zero_le _, CN0.out⟩
          case round => as_aux_lemma =>
            clear CN0
            obtain ⟨i, ca, cc, rfl, rfl, hi, CN⟩ := hrel
            by_cases hlt : i < j
            · as_aux_lemma =>
              obtain ⟨g1, o1, q, m, hla, hq, q0, _, _, _⟩ := (HRT.out.new (keep_up CN.out.kp)).at (i := i) (by have := HPL.out; omega)
              have hla : la = some ⟨g1, o1, none⟩ := hla
              subst hla
              have HCS : Hid (canL R.ps (i + 1) = canL R.ps i ++ (if canB q.st then [i] else [])) := canL_succ hq
              have hcl := canL_len R.ps i
              have HLT := hide hlt
              clear hq
              by_cases hcan : canB q.st = true
              · rw [hcan, if_pos rfl] at HCS
                have h234 : q.st = 2 ∨ q.st = 3 ∨ q.st = 4 := by
                  unfold canB at hcan
                  simp at hcan
                  omega
                have ka := Keep.alloc (fun _ => False) wr (.cells #[.int .i64 (i : Nat)] 3)
                have hca := cell_blk (heap_alloc_new wr (.cells #[.int .i64 (i : Nat)] 3)) 0 (v := .int .i64 (i : Nat)) rfl
                have OW := hide (ownsRow_new CN.out.own ka)
                have hbs : w2.heap.size ≤ (wr.alloc (.cells #[.int .i64 (i : Nat)] 3)).heap.size := by have := CN.out.kp.size; have := ka.size; omega
                have KA := hide (CN.out.kp.more (ka.mono fun _ f => f.elim))
                have hcl2 : (canL R.ps i).length + 1 ≤ 17592186044416 := by omega
                clear ka CN hcan
                rcases h234 with h | h | h
                · rw [h] at q0
                  clear h
                  go_wp2_with (at_builtin; refine wp_append1 rfl _ _ rfl w2.heap.size (.slice ca (canL R.ps i).length cc) _ _ rfl OW.out ⟨wr.heap.size, 0, none⟩ (i : Nat) rfl hca hcl2 hbs ?_; intro v' w' ho hk _; obtain ⟨na, nc, hv'⟩ := ownsRow_shape ho; subst hv'; have CNX := hide (can_grow OW.out KA.out HCS.out ho hk); clear ho hk)
                  have hlt2 := HLT.out
                  have hln : (canL R.ps (i + 1)).length = (canL R.ps i).length + 1 := by rw [HCS.out]; simp
                  clear q0 hca OW KA hbs
                  go_wp2_with fail
                  go_roundw
                  · exact ⟨i + 1, na, nc, by rw [hln], rfl, by omega, CNX.out⟩
                  · show j - ((i : Int) + 1).toNat < j - (i : Int).toNat
                    omega
                · rw [h] at q0
                  clear h
                  go_wp2_with (at_builtin; refine wp_append1 rfl _ _ rfl w2.heap.size (.slice ca (canL R.ps i).length cc) _ _ rfl OW.out ⟨wr.heap.size, 0, none⟩ (i : Nat) rfl hca hcl2 hbs ?_; intro v' w' ho hk _; obtain ⟨na, nc, hv'⟩ := ownsRow_shape ho; subst hv'; have CNX := hide (can_grow OW.out KA.out HCS.out ho hk); clear ho hk)
                  have hlt2 := HLT.out
                  have hln : (canL R.ps (i + 1)).length = (canL R.ps i).length + 1 := by rw [HCS.out]; simp
                  clear q0 hca OW KA hbs
                  go_wp2_with fail
                  go_roundw
                  · exact ⟨i + 1, na, nc, by rw [hln], rfl, by omega, CNX.out⟩
                  · show j - ((i : Int) + 1).toNat < j - (i : Int).toNat
                    omega
                · rw [h] at q0
                  clear h
                  go_wp2_with (at_builtin; refine wp_append1 rfl _ _ rfl w2.heap.size (.slice ca (canL R.ps i).length cc) _ _ rfl OW.out ⟨wr.heap.size, 0, none⟩ (i : Nat) rfl hca hcl2 hbs ?_; intro v' w' ho hk _; obtain ⟨na, nc, hv'⟩ := ownsRow_shape ho; subst hv'; have CNX := hide (can_grow OW.out KA.out HCS.out ho hk); clear ho hk)
                  have hlt2 := HLT.out
                  have hln : (canL R.ps (i + 1)).length = (canL R.ps i).length + 1 := by rw [HCS.out]; simp
                  clear q0 hca OW KA hbs
                  go_wp2_with fail
                  go_roundw
                  · exact ⟨i + 1, na, nc, by rw [hln], rfl, by omega, CNX.out⟩
                  · show j - ((i : Int) + 1).toNat < j - (i : Int).toNat
                    omega
              · have hcb : canB q.st = false := by simpa using hcan
                rw [hcb] at HCS
                simp only [Bool.false_eq_true, if_false, List.append_nil] at HCS
                have h2 : (q.st == 2) = false ∧ (q.st == 3) = false ∧ (q.st == 4) = false := by
                  unfold canB at hcb
                  simp at hcb
                  simp
                  omega
                obtain ⟨h2, h3, h4⟩ := h2
                clear hcan hcb
                go_wp2_with fail
                go_roundw
                · exact ⟨i + 1, ca, cc, by rw [HCS.out], rfl, by omega, can_same HCS.out CN.out⟩
                · show j - ((i : Int) + 1).toNat < j - (i : Int).toNat
                  omega
            · as_aux_lemma =>
              have hij : i = j := by omega
              subst hij
              have S3 := hide (S2.out.new (keep_up CN.out.kp))
              have RT3 := hide (HRT.out.new (keep_up CN.out.kp))
              obtain ⟨il, pl, hpl, hsl⟩ := live_some VX.out NC.out CS.out.may HLV.out
              have hcl := canL_ne hpl hsl
              rw [HPL.out] at hcl
              have hcm := canL_len R.ps i
              obtain ⟨gc, cap, cur, hvc, _, _⟩ := CN.out.own.2.resolve_left (fun h => by omega)
              injection hvc with hvc _ hcc
              subst hvc hcc
              have CC := hide (fun (k x : Nat) (hk : (canL R.ps i)[k]? = some x) => (by
                have := CN.out.own.cells rfl k (.int .i64 (x : Int)) (by unfold iv; rw [List.getElem?_map, hk]; rfl)
                rw [Addr.add_mid, Nat.zero_add] at this
                exact this : World.cell? _ ⟨gc, k, none⟩ = some (.int .i64 (x : Int))))
              have CA := hide (fun (k x : Nat) (hk : (canL R.ps i)[k]? = some x) => canL_at (by have := HPL.out; omega) hk)
              have GL : Hid (∀ r : Nat, r < (canL R.ps i).length → ∃ x, (canL R.ps i)[r]? = some x) := fun r hr => ⟨_, List.getElem?_eq_getElem hr⟩
              obtain ⟨m, hm⟩ : ∃ m, m = (canL R.ps i).length := ⟨_, rfl⟩
              rw [← hm] at hcl hcm GL ⊢
              have hm0 : ((m : Int) == 0) = false := by simp; omega
              clear hpl hsl hm hlt hi HRT S2 CN
              go_upto_if 114 with fail
              go_cut [21] from 55 to 198 (fun v wx => ∃ k : Int, v = .int .i64 k ∧ Hid ((-9223372036854775808 ≤ k ∧ k ≤ 9223372036854775807) ∧ wx = wr))
              case first => as_aux_lemma =>
                by_cases hso : st < on
                · obtain ⟨_, _, _, hro, _⟩ := HM.out _ S3.out.bel
                  obtain ⟨go', oo, k, hoa, hko, hck⟩ := rdz_atC hro (i := st) hso
                  have hoa : oa = some ⟨go', oo, none⟩ := hoa
                  subst hoa
                  have HKB := hide (HOB.out k (List.mem_of_getElem? hko))
                  clear hro hko
                  go_wp2_with fail
                  go_meet
                  case rel => exact ⟨k, rfl, HKB.out, rfl⟩
                · go_wp2_with fail
                  go_meet
                  case rel => exact ⟨(st : Nat), rfl, ⟨by omega, by omega⟩, rfl⟩
              case rest => as_aux_lemma =>
                obtain ⟨k, rfl, HKK⟩ := hcut
                obtain ⟨hkb, hwq⟩ := HKK.out
                subst hwq
                have hpk := pkI_in (c := k) (n := (m : Int)) (by omega)
                obtain ⟨r, hr⟩ : ∃ r : Nat, pkI k (m : Int) = (r : Int) := ⟨(pkI k (m : Int)).toNat, by omega⟩
                have PK := hide (fun W : World => pick_val k (m : Int) hkb.1 hkb.2 (by omega) (by omega) W)
                rw [hr] at PK hpk
                obtain ⟨ia, hia⟩ := GL.out r (by omega)
                have crr := CC.out r ia hia
                obtain ⟨q, hq, hqs⟩ := CA.out r ia hia
                have hial : ia < i := by have := (List.getElem?_eq_some_iff.1 hq).1; have := HPL.out; omega
                have hrm : r < m := by omega
                have HQ := hide hq
                have HQS := hide hqs
                clear HKK hkb hr hpk hia hq hqs CC CA GL hm0
                go_wp2_with fail
                go_at_call 9
                refine (PK.out _).mono ?_
                rintro e wp ⟨rfl, hw⟩
                subst hw
                clear PK
                go_upto_if 129 with fail
                go_cut [23] from 55 to 198 (fun v wx => v = .int .i64 (msF xs z ia) ∧ Hid (Keep (fun _ => False) wp wx))
                case first => as_aux_lemma =>
                  by_cases him : ia < mn
                  · as_aux_lemma =>
                    obtain ⟨⟨c0, c1, c2⟩, hp, hrz, _, _⟩ := HM.out _ S3.out.bel
                    obtain ⟨gm, om, cm, hma, hcm2, ccm⟩ := rdz_atC hrz (i := ia) him
                    have hma : ma = some ⟨gm, om, none⟩ := hma
                    subst hma
                    obtain ⟨g, off, x, hs, _, hx, hN, _, _⟩ := hp.at (i := ia) (by show ia < i; exact hial)
                    have hs : a = some ⟨g, off, none⟩ := hs
                    subst hs
                    have n2 := hN.all.2.2.1
                    have hbx := BU.out x (List.mem_of_getElem? hx)
                    have hcb := HZB.out cm (List.mem_of_getElem? hcm2)
                    have HMS : Hid (msF xs z ia = pkI cm (x.q.bu + 1)) := msF_at hcm2 hx
                    have PK := hide (fun W : World => pick_val cm (x.q.bu + 1) hcb.1 hcb.2 (by omega) (by omega) W)
                    obtain ⟨b, hb⟩ : ∃ b, b = x.q.bu := ⟨_, rfl⟩
                    rw [← hb] at PK HMS n2 hbx
                    obtain ⟨hb0, hb1⟩ := hbx
                    clear hp hrz hcm2 hx hN hcb hb
                    go_upto_region 32 with fail
                    haveI := behindNE wp
                    have e0 := fun u : Behind wp => u.cell c2
                    have e1 := fun u : Behind wp => u.cell ccm
                    have e2 := fun u : Behind wp => u.cell n2
                    have x4 : ¬ i ≤ ia := by omega
                    have x5 : ¬ mn ≤ ia := by omega
                    refine quiet_behind (by kernel_rfl) (by kernel_rfl) ?_
                    repeat (go_big_quiet_step ((go_at_call 9; exact calls_behind' _ (PK.out _))))
                    refine wpQuiet_nil ?_
                    intro _ hw'
                    obtain ⟨u, hw''⟩ := hw'
                    subst hw''
                    clear e0 e1 e2 c0 c1 c2 ccm n2
                    go_wp2
                    go_meet
                    case rel => exact ⟨by rw [HMS.out], u.keep⟩
                  · have HMS : Hid (msF xs z ia = 0) := msF_none (by have := HMN.out; omega)
                    go_wp2_with fail
                    go_meet
                    case rel => exact ⟨by rw [HMS.out], Keep.refl _ _⟩
                case rest => as_aux_lemma =>
                  obtain ⟨rfl, hkx⟩ := hcut
                  obtain ⟨wv, hwv⟩ : ∃ wv, wv = wc := ⟨_, rfl⟩
                  rw [← hwv] at hkx ⊢
                  clear hwv
                  have S4 := hide (S3.out.new hkx.out)
                  have RT4 := hide (RT3.out.new hkx.out)
                  clear S3 RT3 hkx crr
                  obtain ⟨g1, o1, q', m', hla, hq', q0, q1, _, _⟩ := RT4.out.at (i := ia) (by have := HPL.out; omega)
                  obtain rfl : q' = q := Option.some.inj (hq'.symm.trans HQ.out)
                  have hla : la = some ⟨g1, o1, none⟩ := hla
                  subst hla
                  clear hq' RT4
                  rcases HQS.out with h2 | h3 | h4
                  · as_aux_lemma =>
                    have CO := hide (co_lease CS.out HQ.out h2)
                    have LE := hide (lease_any S4.out.run (ia : Nat) ER.out.2.1)
                    rw [CO.out.1] at LE
                    rw [h2] at q0
                    clear h2
                    go_wp2_with fail
                    go_at_call 19
                    refine LE.out.mono ?_
                    rintro e we ⟨rfl, hre, ke⟩
                    have S5 := hide (S4.out.step (ke.mono fun _ h => .inr h) hre)
                    clear hre ke LE S4 q0 q1
                    go_wp2_with fail
                    go_roundw
                    · exact ⟨st + 1, lea + 1, _, rfl, rfl, S5.out, CO.out.2⟩
                    · show (3 * al).toNat + 1 - ((st : Int) + 1).toNat < (3 * al).toNat + 1 - (st : Int).toNat
                      omega
                  · as_aux_lemma =>
                    rw [h3] at q0
                    by_cases htr : q'.tr ≤ msF xs z ia
                    · as_aux_lemma =>
                      have CO := hide (co_miss HB.out HBM.out.1 HBM.out.2 CS.out HQ.out h3 htr)
                      have LE := hide (miss_any S4.out.run S4.out.lt (ia : Nat))
                      rw [HX.out] at LE
                      generalize missR (xs.map nx) R (ia : Nat) = out at *
                      obtain ⟨⟨oc1, oc2⟩, oR⟩ := out
                      obtain rfl : oc2 = 0 := CO.out.1
                      clear h3
                      go_wp2_with fail
                      go_at_call 25
                      refine LE.out.mono ?_
                      rintro e we ⟨ve, rfl, _, hre, ke⟩
                      have S5 := hide (S4.out.step ke hre)
                      clear hre ke LE S4 q0 q1 htr
                      go_wp2_with fail
                      go_roundw
                      · exact ⟨st + 1, lea, _, rfl, rfl, S5.out, CO.out.2⟩
                      · show (3 * al).toNat + 1 - ((st : Int) + 1).toNat < (3 * al).toNat + 1 - (st : Int).toNat
                        omega
                    · as_aux_lemma =>
                      obtain ⟨⟨c0, c1, c2⟩, hp, _, _, _⟩ := HM.out _ S4.out.bel
                      obtain ⟨g, off, x, hs, _, hx, hN, _, _⟩ := hp.at (i := ia) (by show ia < i; exact hial)
                      have hs : a = some ⟨g, off, none⟩ := hs
                      subst hs
                      have n0 := hN.all.1
                      obtain ⟨cz, wz, hcv, hrd, kz⟩ := conv_name wv x.q.nm (HNS.out x (List.mem_of_getElem? hx))
                      have hnF : nmF xs ia = nbs x.q.nm := by unfold nmF; rw [hx]
                      have CO := hide (co_fin HB.out HBM.out.1 CS.out HQ.out h3 htr (HNM.out ia))
                      have S5 := hide (S4.out.new kz)
                      have LE := hide (finish_any S5.out.run S5.out.lt (ia : Nat) _ _ cz _ hrd (fun e => by cases e) (by have := HNS.out x (List.mem_of_getElem? hx); omega))
                      rw [HX.out, ← hnF] at LE
                      generalize finishR (xs.map nx) R (ia : Nat) (nmF xs ia) = out at *
                      obtain ⟨⟨oc1, oc2⟩, oR⟩ := out
                      obtain rfl : oc2 = 0 := CO.out.1
                      clear h3 hp hx hN hrd kz hnF
                      go_wp2_with fail
                      go_at_call 20
                      refine LE.out.mono ?_
                      rintro e we ⟨ve, rfl, _, hre, ke⟩
                      have S6 := hide (S5.out.step ke hre)
                      clear hre ke LE S5 S4 q0 q1 htr hcv c0 c1 c2 n0
                      go_wp2_with fail
                      go_roundw
                      · exact ⟨st + 1, lea, _, rfl, rfl, S6.out, CO.out.2⟩
                      · show (3 * al).toNat + 1 - ((st : Int) + 1).toNat < (3 * al).toNat + 1 - (st : Int).toNat
                        omega
                  · as_aux_lemma =>
                    have CO := hide (co_wake HB.out HBM.out.1 CS.out HQ.out h4)
                    have LE := hide (wake_any S4.out.run S4.out.lt (ia : Nat))
                    rw [HX.out] at LE
                    generalize wakeR (xs.map nx) R (ia : Nat) = out at *
                    obtain ⟨⟨oc1, oc2⟩, oR⟩ := out
                    obtain rfl : oc2 = 0 := CO.out.1
                    rw [h4] at q0
                    clear h4
                    go_wp2_with fail
                    go_at_call 24
                    refine LE.out.mono ?_
                    rintro e we ⟨ve, rfl, _, hre, ke⟩
                    have S5 := hide (S4.out.step ke hre)
                    clear hre ke LE S4 q0 q1
                    go_wp2_with fail
                    go_roundw
                    · exact ⟨st + 1, lea, _, rfl, rfl, S5.out, CO.out.2⟩
                    · show (3 * al).toNat + 1 - ((st : Int) + 1).toNat < (3 * al).toNat + 1 - (st : Int).toNat
                      omega
        · as_aux_lemma =>
          obtain ⟨⟨c0, c1, c2⟩, _, _, _, _⟩ := HM.out _ SO.out.bel
          have TA := hide (told_any SO.out.run ER.out.1)
          rw [HXL.out, ← HN.out] at TA
          have hlv : (R.stt == 1) = false := by simpa using hlive
          have HLV := hide hlive
          clear hlive
          go_wp2_with fail
          go_at_call 13
          refine TA.out.mono ?_
          rintro e w2 ⟨v2, rfl, ht2, k2⟩
          have S2 := hide (SO.out.new k2)
          have HT2 := hide ht2
          have ST := hide (status_any S2.out.run)
          clear c0 c1 c2 TA k2 ht2 SO hlv
          go_wp2_with fail
          go_at_call 15
          refine ST.out.mono ?_
          rintro e w3 ⟨rfl, hw⟩
          subst hw
          have KE := hide (HM.out w3 S2.out.bel).2.2.2.2
          have FIN : Hid (CoE xs z w (.returned (.tuple #[v2, .int .i64 R.stt, .int .i64 lea, .bool true])) w3) := ⟨v2, R, st, lea, _, rfl, HT2.out, CS.out, HLV.out, by rw [← HHE.out]; exact KE.out⟩
          clear ST S2 HT2 KE
          go_wp2_with fail
          refine bodyPost_ret (results_tmp4 rfl _ _ _) rfl ?_
          exact FIN.out
end Rn
end Go.Proofs.Ytiackejbpcjmeaa
