/- DiskPlays: the law's walk (ag_gen.py, out of DUk.part). -/
import Derived.Test.YtilpidioengnbaaDUl
import Derived.Deep.CutRange
namespace Go.Proofs.Ytilpidioengnbaa
namespace DP
open Go.RowKit Go.Lib

/-- a step's cells in memory -/
def StpCs (w : World) (b o : Nat) (q : Stp) : Prop :=
  w.cell? ⟨b, o, none⟩ = some (.int .i64 q.which) ∧ w.cell? ⟨b, o + 1, none⟩ = some (.bool q.copy) ∧ w.cell? ⟨b, o + 2, none⟩ = some (.int .i64 q.what) ∧ w.cell? ⟨b, o + 3, none⟩ = some (.int .i64 q.seg) ∧ w.cell? ⟨b, o + 4, none⟩ = some (.int .i64 q.n) ∧
    w.cell? ⟨b, o + 5, none⟩ = some (.int .u8 (q.mask : Nat)) ∧ w.cell? ⟨b, o + 6, none⟩ = some (.slice q.ba q.b.length q.bc) ∧ w.cell? ⟨b, o + 7, none⟩ = some (.slice q.fa q.fate.length q.fc)
theorem StpCs.keep {w w' : World} {b o : Nat} {q : Stp} (h : StpCs w b o q) {T : Nat → Prop} (k : Keep T w w') (hb : ¬ T b) : StpCs w' b o q :=
  ⟨k.cell h.1 hb, k.cell h.2.1 hb, k.cell h.2.2.1 hb, k.cell h.2.2.2.1 hb, k.cell h.2.2.2.2.1 hb, k.cell h.2.2.2.2.2.1 hb, k.cell h.2.2.2.2.2.2.1 hb, k.cell h.2.2.2.2.2.2.2 hb⟩
/-- the next step of a script, in whatever later world -/
theorem step_at {W : World} {a : Option Addr} {n : Nat} {qs : List Stp} (h : RdQ W a n qs) {i : Nat} (hi : i < n) :
    ∃ (q : Stp) (b off : Nat), q ∈ qs ∧ a = some ⟨b, off, none⟩ ∧ b < W.heap.size ∧ q.out (fun b => W.heap.size ≤ b) ∧ StpOk W q ∧ ∀ w, Keep (fun b => W.heap.size ≤ b) W w → StpOk w q ∧ StpCs w b (off + i * 8) q := by
  obtain ⟨h1, h2, h3, h4⟩ := h
  have hi' : i < qs.length := by omega
  obtain ⟨b, off, ha, c0, c1, c2, c3, c4, c5, c6, c7⟩ := h4 i hi'
  have hok := h3 _ (List.getElem_mem hi')
  have hb := block_lt_of_cell c0
  have far : ¬ W.heap.size ≤ b := Nat.not_le.2 hb
  exact ⟨qs[i], b, off, List.getElem_mem hi', ha, hb, hok.out_, hok, fun w k => ⟨hok.stay k hok.out_, StpCs.keep ⟨c0, c1, c2, c3, c4, c5, c6, c7⟩ k far⟩⟩
set_option maxRecDepth 100000 in
set_option maxHeartbeats 40000000 in
theorem plays_walk (cp : Int) (a : Option Addr) (n c : Nat) (qs : List Stp) (W : World) (hc1 : -9223372036854775808 ≤ cp) (hc2 : cp ≤ 9223372036854775807) (hr : RdQ W a n qs) (hmr : ∀ q ∈ qs, More q) :
    Calls Try.prog 3 #[.int .i64 cp, .slice a n c] W fun e w' => e = .returned (.bool true) ∧ Below W.heap.size W w' := by
  have hn := hr.2.1
  have HR := hide hr
  have HM := hide hmr
  have hp := pickV_in cp 67108865 (by decide)
  obtain ⟨cn, hcn⟩ : ∃ cn : Nat, pickV cp 67108865 = (cn : Int) := ⟨(pickV cp 67108865).toNat, by omega⟩
  have hcnl : cn ≤ 67108864 := by omega
  have HKn := hide (known_any W)
  have HMa := hide fun w => made_any cp w hc1 hc2
  have HP := hide fun w => pick_any cp 67108865 hc1 hc2 (by decide) (by decide) w
  rw [hcn] at HMa HP
  have HNe : Hid (∀ w, Calls Try.prog 6 #[.int .i64 (cn : Nat)] w fun e w' => e = .returned (.tuple #[.pointer (some ⟨w.heap.size, 0, none⟩), .int .i64 0]) ∧ RIn (fun g => w.heap.size ≤ g) w' w.heap.size ⟨cn, [], [], none, false⟩ ∧ Keep (fun _ => False) w w') := fun w => (refNew_any w cn (by omega) (by omega)).mono fun e w' h => by
    unfold NewR at h
    rw [if_neg (by omega)] at h
    exact h
  have hct : ((cn : Int)).toNat = cn := Int.toNat_natCast cn
  rw [hct] at HMa
  have HCl := hide hcnl
  clear hr hmr hp hcn hct hcnl hc1 hc2
  go_enter Try.func3, Try.ntmps3
  go_wp2_with (first
    | (go_at_call 6
       refine (HNe.out _).mono ?_
       rintro e w3 ⟨rfl, hR3, hk3⟩
       have hJ := PlJ.begin_ HCl.out HKn1.out HKn2.out hD2.out hk3 hR3)
    | (go_at_call 7; refine (HP.out _).mono ?_; rintro e w2' ⟨rfl, hw⟩; have hw := hw.symm; subst hw)
    | (go_at_call 5
       refine (HMa.out _).mono ?_
       rintro e w2 ⟨p, rfl, hD2, hk2⟩
       replace hD2 := hide hD2
       have HKn2 := hide hk2
       clear hk2)
    | (go_at_call 4
       refine HKn.out.mono ?_
       rintro e w1 ⟨rfl, hk1⟩
       have HKn1 := hide hk1
       clear hk1))
  have HJ := hide hJ
  clear hJ hR3 hk3 hD2 HKn1 HKn2 HKn HMa HP HNe HCl
  generalize ((w3.alloc (.cells #[.pointer (some ⟨p, 0, none⟩)] 24)).alloc (.cells #[.pointer (some ⟨w2.heap.size, 0, none⟩)] 26)) = w4 at *
  go_loopw [9, 10, 11] (fun dv rv iv wx => ∃ (i : Nat) (L : List Dk), iv = .int .i64 (i : Nat) ∧ i ≤ n ∧ Hid (PlJ W (fun _ => False) i wx dv rv L)) (fun _ _ iv _ => n - (intOf iv).toNat)
  case atStart => exact ⟨0, _, rfl, Nat.zero_le _, HJ.out⟩
  case round =>
    clear HJ
    obtain ⟨i, L, rfl, hin, HJ⟩ := hrel
    by_cases hlt : i < n
    · have hlt' : (i : Int) < (n : Int) := by omega
      obtain ⟨q, qb, qo, hqm, rfl, hqb, hqout, hqok, hqw⟩ := step_at HR.out hlt
      obtain ⟨q0, q1, _⟩ := (hqw _ HJ.out.k).2
      have HQw := hide hqw
      have HQo := hide hqout
      have HQb := hide hqb
      have hl1 := HJ.out.l1
      have hl4 := HJ.out.l4
      have hpv := pickV_in q.which L.length (by omega)
      obtain ⟨m, hm⟩ : ∃ m : Nat, pickV q.which L.length = (m : Int) := ⟨(pickV q.which L.length).toNat, by omega⟩
      have HP := hide fun w => pick_any q.which L.length hqok.which.1 hqok.which.2 (by omega) (by omega) w
      rw [hm] at HP hpv
      have hmL : m < L.length := by omega
      obtain ⟨x, S, R, gd, cd, gr, cr, hx, hvd, hvr, x1, x2, hdS, hrR, hag, hgd, hS, hR, hRS, _, hgdl, hgrl, _⟩ := HJ.out.pick hmL
      subst hvd hvr
      obtain ⟨ln, hln⟩ : ∃ ln, ln = L.length := ⟨_, rfl⟩
      rw [← hln] at HP hl1 hl4 ⊢
      have HLn := hide hln
      have hml : (m : Int) < (ln : Int) := by omega
      have hJ := HJ.out
      rw [← hln] at hJ
      have HJ2 := hide hJ
      clear hln hm hpv hJ HJ hqw hqout hqb hqok
      go_upto_region 14 with (go_at_call 7; refine (HP.out _).mono ?_; rintro e w2' ⟨rfl, hw⟩; have hw := hw.symm; subst hw)
      go_cut [68] from 45 to 109 (fun v wx => v = .bool (q.copy && decide (ln < 4)) ∧ wx = wr)
      case first => as_aux_lemma =>
        cases hcp : q.copy with
        | true =>
          rw [hcp] at q1
          by_cases h4 : ln < 4
          · have h4' : (ln : Int) < 4 := by omega
            have h4b := hide (decide_eq_true h4)
            have HCp := hide hcp
            clear hcp h4
            go_wp2_with fail
            go_meet
            case rel => exact ⟨by rw [HCp.out, h4b.out]; rfl, rfl⟩
          · have h4' : ¬ (ln : Int) < 4 := by omega
            have h4b := hide (decide_eq_false h4)
            have HCp := hide hcp
            clear hcp h4
            go_wp2_with fail
            go_meet
            case rel => exact ⟨by rw [HCp.out, h4b.out]; rfl, rfl⟩
        | false =>
          rw [hcp] at q1
          have HCp := hide hcp
          clear hcp
          go_wp2_with fail
          go_meet
          case rel => exact ⟨by rw [HCp.out]; rfl, rfl⟩
      case rest =>
      obtain ⟨rfl, rfl⟩ := hcut
      go_upto_if 68 with fail
      go_cut [9, 10] from 45 to 109 (fun dv rv wx => ∃ L2 : List Dk, m < L2.length ∧ Hid (PlJ W (fun _ => False) i wx dv rv L2))
      case first => as_aux_lemma =>
        cases hcp : (q.copy && decide (ln < 4)) with
        | false =>
          go_wp2_with fail
          go_meet
          case rel => exact ⟨L, hmL, HJ2.out⟩
        | true =>
          have h4 : ln < 4 := by
            rw [Bool.and_eq_true] at hcp
            exact of_decide_eq_true hcp.2
          have HCo := hide (copy_any S wc x.p x.s hdS (hgd.ok (by omega)))
          have fw := fitW_of hag hgd (by omega) []
          have HRc : Hid (∀ w2, Keep (fun b => (Value.slice (some ⟨gd, 0, none⟩) ln cd).ownBlock = some b) wc w2 → Calls Try.prog 9 #[.pointer (some ⟨x.r, 0, none⟩)] w2 (CopyR w2 x.f)) := fun w2 kk => refCopy_any R w2 x.r x.f (hrR.stay kk fun b _ e e2 => by
            have e2 : some gd = some b := e2
            injection e2 with e2
            exact (hR b e).2.2.1 e2.symm) fw.f.len fw.f.len2 fw.f.by_ fw.by2
          have HX2 := hide x2
          obtain ⟨col, N, hp, _⟩ := HJ2.out.ex
          have HPd := hide hp.rd
          have HPr := hide hp.rr
          have HPc := hide hp.cd
          have HPc2 := hide hp.cr
          rw [← HLn.out] at HPd HPr
          have hAG := hide (And.intro hag hgd)
          have HBz := hide (Nat.le_trans hp.hB hp.hN)
          clear hp fw hdS hrR hag hgd hS hR hRS x2
          go_upto_region 18 with (go_at_call 8; refine HCo.out.mono ?_; rintro e w5 ⟨P, rfl, hdP, hk5⟩)
          have hrow5 := ownsRow_keep HPd.out hk5 fun _ _ f => f
          have hz5 := hk5.size
          have HK5 := hide hk5
          have HDP := hide hdP
          have HZ5 := hide (Nat.le_trans HBz.out hz5)
          have HL4 := hide hl4
          clear hk5 hdP hz5 x1
          go_wp2_with (first | (at_builtin; refine wp_app_pd rfl _ _ rfl W.heap.size _ _ _ rfl (hrow5.alloc _) _ _ rfl (heap_alloc_new _ _) rfl ?b1 ?b2 ?_) | go_in)
          case b1 => omega
          case b2 => have := HZ5.out; first | (simp only [World.size_alloc]; omega) | omega
          intro vd' w6 hown6 hk6 hn6
          have k56 : Keep (fun b => (Value.slice (some ⟨gd, 0, none⟩) ln cd).ownBlock = some b) w5 w6 := (Keep.alloc _ _ _).more hk6
          have kc6 : Keep (fun b => (Value.slice (some ⟨gd, 0, none⟩) ln cd).ownBlock = some b) wc w6 := (HK5.out.mono fun _ f => f.elim).more k56
          have hne : gr ≠ gd := fun e => by
            have h1 := (HPc.out gd rfl).1
            have h2 := (HPc2.out gr rfl).1
            rw [e, h1] at h2
            cases h2
          have x2' := kc6.cell HX2.out fun e => by
            have e : some gd = some gr := e
            injection e with e
            exact hne e.symm
          have HRc2 := hide (HRc.out w6 kc6)
          have hrow6 := ownsRow_keep HPr.out kc6 fun g e e2 => by
            have e : some gr = some g := e
            have e2 : some gd = some g := e2
            injection e with e
            injection e2 with e2
            exact hne (e.trans e2.symm)
          have HO6 := hide hown6
          have HN6 : Hid (∀ g, vd'.ownBlock = some g → (Value.slice (some ⟨gd, 0, none⟩) ln cd).ownBlock = some g ∨ w5.heap.size ≤ g) := fun g e => (hn6 g e).imp (fun e => e) fun e => by omega
          have HK56 := hide k56
          have HR6 := hide hrow6
          have HZ6 := hide (Nat.le_trans HZ5.out k56.size)
          clear hown6 hk6 hn6 k56 kc6 hne hrow6 hrow5
          obtain ⟨da, dc, hvd', _⟩ := ownsRow_sh HO6.out
          obtain ⟨dn, hdn⟩ : ∃ dn, dn = ln + 1 := ⟨_, rfl⟩
          rw [← hdn] at hvd'
          have HDn := hide hdn
          subst hvd'
          clear hdn
          go_wp2_with (first
            | (at_builtin; refine wp_app_pr rfl _ _ rfl W.heap.size _ _ _ rfl (hrow7.alloc _) _ _ rfl (heap_alloc_new _ _) rfl ?b1 ?b2 ?_)
            | (go_at_call 9
               refine HRc2.out.mono ?_
               rintro e w7 ⟨D, rfl, hrD, hk7⟩
               have hrow7 := ownsRow_keep HR6.out hk7 fun _ _ f => f
               have HK7 := hide hk7
               have HRD := hide hrD
               have HZ7 := hide (Nat.le_trans HZ6.out hk7.size)
               clear hk7 hrD)
            | go_in)
          case b1 => omega
          case b2 => have := HZ7.out; first | (simp only [World.size_alloc]; omega) | omega
          intro vr' w8 hown8 hk8 hn8
          have HN8 : Hid (∀ g, vr'.ownBlock = some g → (Value.slice (some ⟨gr, 0, none⟩) ln cr).ownBlock = some g ∨ w7.heap.size ≤ g) := fun g e => (hn8 g e).imp (fun e => e) fun e => by omega
          have HK78 : Hid (Keep (fun b => (Value.slice (some ⟨gr, 0, none⟩) ln cr).ownBlock = some b) w7 w8) := (Keep.alloc _ _ _).more hk8
          have HJ8 : Hid (PlJ W (fun _ => False) i w8 (.slice da dn dc) vr' (L ++ [⟨P, D, x.s, x.f⟩])) := by
            show PlJ _ _ _ _ _ _ _
            exact PlJ.copy HJ2.out (by rw [← HLn.out]; exact h4) HK5.out HDP.out HK56.out (by rw [← HLn.out]; exact HO6.out) HN6.out HK7.out HRD.out HK78.out (by rw [← HLn.out]; exact hown8) HN8.out hAG.out.1 hAG.out.2
          clear hown8 hk8 hn8 hrow7
          go_wp2_with fail
          go_meet
          case rel => exact ⟨_, by rw [List.length_append]; omega, HJ8⟩
      case rest =>
      obtain ⟨L2, hm2, HJ3⟩ := hcut
      obtain ⟨w5, hw5⟩ : ∃ x, x = wc := ⟨_, rfl⟩
      subst hw5
      clear HJ2 HLn hmL HP hl1 hl4 hml q0 q1 hdS hrR hag hgd hS hR hRS hgdl hgrl x1 x2 hx
      obtain ⟨y, S, R, gd, cd, gr, cr, hy, hvd, hvr, x1, x2, hdS, hrR, hag, hgd, hS, hR, hRS, _, hgdl, hgrl, hcl⟩ := HJ3.out.pick hm2
      subst hvd hvr
      obtain ⟨hs1, hs2⟩ := both hag hgd (show i < 70368744177664 by omega) q (HM.out q hqm)
      have hfit := ks_fit hag hgd (show i ≤ 70368744177664 by omega) q
      obtain ⟨F, hF⟩ : ∃ F, F = stepR y.f q := ⟨_, rfl⟩
      obtain ⟨vn, hvn⟩ : ∃ v, v = numR y.f q := ⟨_, rfl⟩
      obtain ⟨vi, hvi⟩ : ∃ v, v = isR y.f q := ⟨_, rfl⟩
      obtain ⟨vz, hvz⟩ : ∃ v, v = ksR y.f q := ⟨_, rfl⟩
      obtain ⟨vb, hvb⟩ : ∃ v, v = bsR y.f q := ⟨_, rfl⟩
      rw [← hF, ← hvn, ← hvi, ← hvz, ← hvb] at hs1 hs2
      clear hF hvn hvi hvz hvb hag hgd hy
      obtain ⟨cq, F2⟩ := F
      dsimp only at hs1 hs2 hcl
      have hBw : W.heap.size ≤ w5.heap.size := HJ3.out.k.size
      have HC1 := hide (hs1 S y.p W.heap.size)
      have HC2 := hide (hs2 R y.r)
      have HCl := hide hcl
      have HdS := hide hdS
      have HrR := hide hrR
      have HSS := hide hS
      have HRR := hide hR
      have HRS := hide hRS
      have HJk := hide HJ3.out.k
      have HBw := hide hBw
      have HG := hide (And.intro hgdl hgrl)
      have HL2 := hide HJ3.out.l4
      obtain ⟨ln2, hln2⟩ : ∃ ln2, ln2 = L2.length := ⟨_, rfl⟩
      have HLn2 := hide hln2
      have hml2 : (m : Int) < (ln2 : Int) := by omega
      rw [← hln2] at HJ3 HCl ⊢
      obtain ⟨hqo1, hqc⟩ := HQw.out _ HJ3.out.k
      have HS6 : Hid (∀ V, Keep S w5 V → (fun V : World => V.cell? ⟨gd, m, none⟩ = some (.pointer (some ⟨y.p, 0, none⟩)) ∧ StpCs V qb (qo + i * 8) q) V) := fun V kk => ⟨kk.cell x1 fun e => (HSS.out _ e).2.2.1 rfl, hqc.keep kk fun e => absurd (HSS.out _ e).1 (Nat.not_le.2 HQb.out)⟩
      unfold Stp.val at HC1 HC2
      unfold StpCs at HS6 hqc
      have HX2 := hide x2
      clear hln2 hs1 hs2 hcl hdS hrR hS hR hRS hgdl hgrl hBw x2 hqo1
      go_upto_region 20 with fail
      go_cut [14] from 45 to 109 (fun v wx => ∃ X : Nat, v = .pointer (some ⟨X, 0, none⟩) ∧ Hid (Aft (GD y.p F2 (i + 1)) w5 S cq vn vi vz vb X wx))
      case first => as_aux_lemma =>
        refine RL.wp_region_held_last (S := fun V : World => V.cell? ⟨gd, m, none⟩ = some (.pointer (some ⟨y.p, 0, none⟩)) ∧ (V.cell? ⟨qb, qo + i * 8, none⟩ = some (.int .i64 q.which) ∧ V.cell? ⟨qb, qo + i * 8 + 1, none⟩ = some (.bool q.copy) ∧ V.cell? ⟨qb, qo + i * 8 + 2, none⟩ = some (.int .i64 q.what) ∧ V.cell? ⟨qb, qo + i * 8 + 3, none⟩ = some (.int .i64 q.seg) ∧ V.cell? ⟨qb, qo + i * 8 + 4, none⟩ = some (.int .i64 q.n) ∧ V.cell? ⟨qb, qo + i * 8 + 5, none⟩ = some (.int .u8 (q.mask : Nat)) ∧ V.cell? ⟨qb, qo + i * 8 + 6, none⟩ = some (.slice q.ba q.b.length q.bc) ∧ V.cell? ⟨qb, qo + i * 8 + 7, none⟩ = some (.slice q.fa q.fate.length q.fc))) rfl (by kernel_rfl) (by kernel_rfl) (HS6.out _ (Keep.drew _ _)) (fun hHeld => ?_)
        change wpAnyH _ _ _ _ _ 11 (Array.replicate 11 false) _ _
        simp only [List.dropLast, List.getLast, List.cons_append, List.nil_append, RL.still]
        refine wpAnyH_take (i := 0) (oi := _) (v := ?_) rfl (by kernel_rfl) (by kernel_rfl) (by kernel_rfl) (fun _ _ _ h => h) (Or.inl ⟨by rfl, ?_⟩) (by assumption) ?_
        rotate_left
        · (intro w hSw; (try dsimp only at hSw); go_simp)
          all_goals with_reducible rfl
        go_simp
        refine wpAnyH_take (i := 1) (oi := _) (v := ?_) rfl (by kernel_rfl) (by kernel_rfl) (by kernel_rfl) (fun _ _ _ h => h) (Or.inl ⟨by rfl, ?_⟩) (by assumption) ?_
        rotate_left
        · (intro w hSw; (try dsimp only at hSw); go_simp)
          all_goals with_reducible rfl
        go_simp
        refine wpAnyH_take (i := 2) (oi := _) (v := ?_) rfl (by kernel_rfl) (by kernel_rfl) (by kernel_rfl) (fun _ _ _ h => h) (Or.inl ⟨by rfl, ?_⟩) (by assumption) ?_
        rotate_left
        · (intro w hSw; (try dsimp only at hSw); go_simp)
          all_goals with_reducible rfl
        go_simp
        refine wpAnyH_take (i := 3) (oi := _) (v := ?_) rfl (by kernel_rfl) (by kernel_rfl) (by kernel_rfl) (fun _ _ _ h => h) (Or.inl ⟨by rfl, ?_⟩) (by assumption) ?_
        rotate_left
        · (intro w hSw; (try dsimp only at hSw); go_simp)
          all_goals with_reducible rfl
        go_simp
        refine wpAnyH_take (i := 4) (oi := _) (v := ?_) rfl (by kernel_rfl) (by kernel_rfl) (by kernel_rfl) (fun _ _ _ h => h) (Or.inl ⟨by rfl, ?_⟩) (by assumption) ?_
        rotate_left
        · (intro w hSw; (try dsimp only at hSw); go_simp)
          all_goals with_reducible rfl
        go_simp
        refine wpAnyH_take (i := 5) (oi := _) (v := ?_) rfl (by kernel_rfl) (by kernel_rfl) (by kernel_rfl) (fun _ _ _ h => h) (Or.inl ⟨by rfl, ?_⟩) (by assumption) ?_
        rotate_left
        · (intro w hSw; (try dsimp only at hSw); go_simp)
          all_goals with_reducible rfl
        go_simp
        refine wpAnyH_take (i := 6) (oi := _) (v := ?_) rfl (by kernel_rfl) (by kernel_rfl) (by kernel_rfl) (fun _ _ _ h => h) (Or.inl ⟨by rfl, ?_⟩) (by assumption) ?_
        rotate_left
        · (intro w hSw; (try dsimp only at hSw); go_simp)
          all_goals with_reducible rfl
        go_simp
        refine wpAnyH_take (i := 7) (oi := _) (v := ?_) rfl (by kernel_rfl) (by kernel_rfl) (by kernel_rfl) (fun _ _ _ h => h) (Or.inl ⟨by rfl, ?_⟩) (by assumption) ?_
        rotate_left
        · (intro w hSw; (try dsimp only at hSw); go_simp)
          all_goals with_reducible rfl
        go_simp
        refine wpAnyH_ready (rs := [8, 9]) (by kernel_rfl) (by simp) ?_
        refine AllReadyH.cons (o := _) rfl (fun K hK => ?_) (AllReadyH.cons (o := _) rfl (fun K hK => ?_) AllReadyH.nil)
        · rw [if_pos (by rfl)]
          go_simp
          go_at_call 10
          refine (HC1.out w5.drew (HdS.out.stay (Keep.drew (fun _ => False) _) fun _ _ _ f => f) (fun i e => ⟨(HSS.out i e).1, (HSS.out i e).2.1⟩) HBw.out (HQw.out _ (HJk.out.more (Keep.drew _ _))).1 HQo.out).mono ?_
          rintro e w2 ⟨a1, c1, a2, c2, rfl, hlr, hg, hk⟩
          have HA := hide (Aft.one (staysD y.p F2 (i + 1)) (w := w5) (c1 := c1) (c2 := c2) cq vn vi hg hk hlr)
          have HKk := hide (HS6.out _ ((Keep.drew _ _).more hk))
          have HKa := hide (HS6.out _ (((Keep.drew _ _).more hk).more (Keep.alloc S w2 (.cells #[.int .i64 0, .int .i64 0, .bool false, .slice none 0 0, .slice none 0 0] 40))))
          clear hlr hg hk
          go_simp
          refine hK.out _ _ (HKk.out) (fun hHeld => ?_)
          clear hK K
          try simp only [Act.put, List.setIfInBounds_toArray, List.set_cons_zero, List.set_cons_succ]
          refine wpAnyH_ready (rs := [9]) (by kernel_rfl) (by simp) ?_
          refine AllReadyH.cons (o := _) rfl (fun K hK => ?_) AllReadyH.nil
          rw [if_pos (by rfl)]
          unfold Oper.wp
          go_simp
          refine hK.out _ _ (HKa.out) (fun hHeld => ?_)
          clear hK K
          try simp only [Act.put, List.setIfInBounds_toArray, List.set_cons_zero, List.set_cons_succ]
          refine wpAnyH_take (i := 10) (oi := _) (v := ?_) rfl (by kernel_rfl) (by kernel_rfl) (by kernel_rfl) (fun _ _ _ h => h) (Or.inl ⟨by rfl, ?_⟩) (by assumption) ?_
          rotate_left
          · (intro w hSw; (try dsimp only at hSw); go_simp)
            all_goals with_reducible rfl
          go_simp
          refine wpAnyH_done (by kernel_rfl) ?_ _
          simp only [RL.endQ]
          refine wp_store_row 40 _ _ rfl w2.heap.size #[.int .i64 cq, .int .i64 vn, .bool vi, .slice a1 vz.length c1, .slice a2 vb.length c2] (by rfl) (by rfl) 40 #[.int .i64 0, .int .i64 0, .bool false, .slice none 0 0, .slice none 0 0] (heap_alloc_new _ _) (by rw [info_told]; rfl) rfl (by simp [Value.oneCell']) ?_
          dsimp only [Act.put]
          go_wp2_with fail
          go_meet
          case rel => exact ⟨_, rfl, HA.out⟩
        · rw [if_pos (by rfl)]
          unfold Oper.wp
          go_simp
          refine hK.out _ _ (HS6.out _ ((Keep.drew _ _).more (Keep.alloc _ _ _))) (fun hHeld => ?_)
          clear hK K
          try simp only [Act.put, List.setIfInBounds_toArray, List.set_cons_zero, List.set_cons_succ]
          refine wpAnyH_ready (rs := [8]) (by kernel_rfl) (by simp) ?_
          refine AllReadyH.cons (o := _) rfl (fun K hK => ?_) AllReadyH.nil
          rw [if_pos (by rfl)]
          go_simp
          go_at_call 10
          refine (HC1.out (w5.drew.alloc (.cells #[.int .i64 0, .int .i64 0, .bool false, .slice none 0 0, .slice none 0 0] 40)) (HdS.out.stay ((Keep.drew (fun _ => False) _).more (Keep.alloc _ _ _)) fun _ _ _ f => f) (fun i e => ⟨(HSS.out i e).1, Nat.lt_trans (HSS.out i e).2.1 (by simp)⟩) (Nat.le_trans HBw.out (by simp)) (HQw.out _ ((HJk.out.more (Keep.drew _ _)).more (Keep.alloc _ _ _))).1 HQo.out).mono ?_
          rintro e w2 ⟨a1, c1, a2, c2, rfl, hlr, hg, hk⟩
          rw [World.size_alloc] at hlr hg
          have HA := hide (Aft.two (staysD y.p F2 (i + 1)) (w := w5) (c1 := c1) (c2 := c2) cq vn vi (fun i e => (HSS.out i e).2.1) hg hk hlr)
          have HKk := hide (HS6.out _ (((Keep.drew _ _).more (Keep.alloc _ _ _)).more hk))
          have hX : w2.heap[w5.heap.size]? = some (.cells #[.int .i64 0, .int .i64 0, .bool false, .slice none 0 0, .slice none 0 0] 40 (0, 0)) := hk.blk (heap_alloc_new w5.drew _) fun e => Nat.lt_irrefl _ (HSS.out _ e).2.1
          clear hlr hg hk
          go_simp
          refine hK.out _ _ (HKk.out) (fun hHeld => ?_)
          clear hK K
          try simp only [Act.put, List.setIfInBounds_toArray, List.set_cons_zero, List.set_cons_succ]
          refine wpAnyH_take (i := 10) (oi := _) (v := ?_) rfl (by kernel_rfl) (by kernel_rfl) (by kernel_rfl) (fun _ _ _ h => h) (Or.inl ⟨by rfl, ?_⟩) (by assumption) ?_
          rotate_left
          · (intro w hSw; (try dsimp only at hSw); go_simp)
            all_goals with_reducible rfl
          go_simp
          refine wpAnyH_done (by kernel_rfl) ?_ _
          simp only [RL.endQ]
          refine wp_store_row 40 _ _ rfl w5.heap.size #[.int .i64 cq, .int .i64 vn, .bool vi, .slice a1 vz.length c1, .slice a2 vb.length c2] (by rfl) (by rfl) 40 #[.int .i64 0, .int .i64 0, .bool false, .slice none 0 0, .slice none 0 0] hX (by rw [info_told]; rfl) rfl (by simp [Value.oneCell']) ?_
          dsimp only [Act.put]
          go_wp2_with fail
          go_meet
          case rel => exact ⟨_, rfl, HA.out⟩
      case rest =>
      obtain ⟨X, rfl, HA⟩ := hcut
      obtain ⟨w7, hw7⟩ : ∃ x, x = wc := ⟨_, rfl⟩
      subst hw7
      have HK7 := hide HA.out.kp
      have HJk7 := hide (HJk.out.more (HK7.out.mono fun b e => (HSS.out b e).1))
      have HrR7 := hide (HrR.out.stay HK7.out fun b _ e => HRS.out b e)
      have HRR7 : Hid (∀ b, R b → b < w7.heap.size) := fun b e => Nat.lt_of_lt_of_le (HRR.out b e).2.1 HK7.out.size
      have x2 := HK7.out.cell HX2.out fun e => (HSS.out _ e).2.2.2 rfl
      obtain ⟨_, hqc7⟩ := HQw.out _ HJk7.out
      have HS7 : Hid (∀ V, Keep R w7 V → (fun V : World => V.cell? ⟨gr, m, none⟩ = some (.pointer (some ⟨y.r, 0, none⟩)) ∧ StpCs V qb (qo + i * 8) q) V) := fun V kk => ⟨kk.cell x2 fun e => (HRR.out _ e).2.2.2 rfl, hqc7.keep kk fun e => absurd (HRR.out _ e).1 (Nat.not_le.2 HQb.out)⟩
      unfold StpCs at HS7 hqc7
      clear HS6 hqc x1 HC1 HdS
      go_upto_region 21 with fail
      go_cut [15] from 45 to 109 (fun v wx => ∃ X : Nat, v = .pointer (some ⟨X, 0, none⟩) ∧ Hid (Aft (fun S w => RIn S w y.r F2) w7 R cq vn vi vz vb X wx))
      case first => as_aux_lemma =>
        refine RL.wp_region_held_last (S := fun V : World => V.cell? ⟨gr, m, none⟩ = some (.pointer (some ⟨y.r, 0, none⟩)) ∧ (V.cell? ⟨qb, qo + i * 8, none⟩ = some (.int .i64 q.which) ∧ V.cell? ⟨qb, qo + i * 8 + 1, none⟩ = some (.bool q.copy) ∧ V.cell? ⟨qb, qo + i * 8 + 2, none⟩ = some (.int .i64 q.what) ∧ V.cell? ⟨qb, qo + i * 8 + 3, none⟩ = some (.int .i64 q.seg) ∧ V.cell? ⟨qb, qo + i * 8 + 4, none⟩ = some (.int .i64 q.n) ∧ V.cell? ⟨qb, qo + i * 8 + 5, none⟩ = some (.int .u8 (q.mask : Nat)) ∧ V.cell? ⟨qb, qo + i * 8 + 6, none⟩ = some (.slice q.ba q.b.length q.bc) ∧ V.cell? ⟨qb, qo + i * 8 + 7, none⟩ = some (.slice q.fa q.fate.length q.fc))) rfl (by kernel_rfl) (by kernel_rfl) (HS7.out _ (Keep.drew _ _)) (fun hHeld => ?_)
        change wpAnyH _ _ _ _ _ 11 (Array.replicate 11 false) _ _
        simp only [List.dropLast, List.getLast, List.cons_append, List.nil_append, RL.still]
        refine wpAnyH_take (i := 0) (oi := _) (v := ?_) rfl (by kernel_rfl) (by kernel_rfl) (by kernel_rfl) (fun _ _ _ h => h) (Or.inl ⟨by rfl, ?_⟩) (by assumption) ?_
        rotate_left
        · (intro w hSw; (try dsimp only at hSw); go_simp)
          all_goals with_reducible rfl
        go_simp
        refine wpAnyH_take (i := 1) (oi := _) (v := ?_) rfl (by kernel_rfl) (by kernel_rfl) (by kernel_rfl) (fun _ _ _ h => h) (Or.inl ⟨by rfl, ?_⟩) (by assumption) ?_
        rotate_left
        · (intro w hSw; (try dsimp only at hSw); go_simp)
          all_goals with_reducible rfl
        go_simp
        refine wpAnyH_take (i := 2) (oi := _) (v := ?_) rfl (by kernel_rfl) (by kernel_rfl) (by kernel_rfl) (fun _ _ _ h => h) (Or.inl ⟨by rfl, ?_⟩) (by assumption) ?_
        rotate_left
        · (intro w hSw; (try dsimp only at hSw); go_simp)
          all_goals with_reducible rfl
        go_simp
        refine wpAnyH_take (i := 3) (oi := _) (v := ?_) rfl (by kernel_rfl) (by kernel_rfl) (by kernel_rfl) (fun _ _ _ h => h) (Or.inl ⟨by rfl, ?_⟩) (by assumption) ?_
        rotate_left
        · (intro w hSw; (try dsimp only at hSw); go_simp)
          all_goals with_reducible rfl
        go_simp
        refine wpAnyH_take (i := 4) (oi := _) (v := ?_) rfl (by kernel_rfl) (by kernel_rfl) (by kernel_rfl) (fun _ _ _ h => h) (Or.inl ⟨by rfl, ?_⟩) (by assumption) ?_
        rotate_left
        · (intro w hSw; (try dsimp only at hSw); go_simp)
          all_goals with_reducible rfl
        go_simp
        refine wpAnyH_take (i := 5) (oi := _) (v := ?_) rfl (by kernel_rfl) (by kernel_rfl) (by kernel_rfl) (fun _ _ _ h => h) (Or.inl ⟨by rfl, ?_⟩) (by assumption) ?_
        rotate_left
        · (intro w hSw; (try dsimp only at hSw); go_simp)
          all_goals with_reducible rfl
        go_simp
        refine wpAnyH_take (i := 6) (oi := _) (v := ?_) rfl (by kernel_rfl) (by kernel_rfl) (by kernel_rfl) (fun _ _ _ h => h) (Or.inl ⟨by rfl, ?_⟩) (by assumption) ?_
        rotate_left
        · (intro w hSw; (try dsimp only at hSw); go_simp)
          all_goals with_reducible rfl
        go_simp
        refine wpAnyH_take (i := 7) (oi := _) (v := ?_) rfl (by kernel_rfl) (by kernel_rfl) (by kernel_rfl) (fun _ _ _ h => h) (Or.inl ⟨by rfl, ?_⟩) (by assumption) ?_
        rotate_left
        · (intro w hSw; (try dsimp only at hSw); go_simp)
          all_goals with_reducible rfl
        go_simp
        refine wpAnyH_ready (rs := [8, 9]) (by kernel_rfl) (by simp) ?_
        refine AllReadyH.cons (o := _) rfl (fun K hK => ?_) (AllReadyH.cons (o := _) rfl (fun K hK => ?_) AllReadyH.nil)
        · rw [if_pos (by rfl)]
          go_simp
          go_at_call 11
          refine (HC2.out w7.drew (HrR7.out.stay (Keep.drew (fun _ => False) _) fun _ _ _ f => f) HRR7.out (HQw.out _ (HJk7.out.more (Keep.drew _ _))).1).mono ?_
          rintro e w2 ⟨a1, c1, a2, c2, rfl, hlr, hg, hk⟩
          have HA := hide (Aft.one (staysR y.r F2) (w := w7) (c1 := c1) (c2 := c2) cq vn vi hg hk hlr)
          have HKk := hide (HS7.out _ ((Keep.drew _ _).more hk))
          have HKa := hide (HS7.out _ (((Keep.drew _ _).more hk).more (Keep.alloc R w2 (.cells #[.int .i64 0, .int .i64 0, .bool false, .slice none 0 0, .slice none 0 0] 40))))
          clear hlr hg hk
          go_simp
          refine hK.out _ _ (HKk.out) (fun hHeld => ?_)
          clear hK K
          try simp only [Act.put, List.setIfInBounds_toArray, List.set_cons_zero, List.set_cons_succ]
          refine wpAnyH_ready (rs := [9]) (by kernel_rfl) (by simp) ?_
          refine AllReadyH.cons (o := _) rfl (fun K hK => ?_) AllReadyH.nil
          rw [if_pos (by rfl)]
          unfold Oper.wp
          go_simp
          refine hK.out _ _ (HKa.out) (fun hHeld => ?_)
          clear hK K
          try simp only [Act.put, List.setIfInBounds_toArray, List.set_cons_zero, List.set_cons_succ]
          refine wpAnyH_take (i := 10) (oi := _) (v := ?_) rfl (by kernel_rfl) (by kernel_rfl) (by kernel_rfl) (fun _ _ _ h => h) (Or.inl ⟨by rfl, ?_⟩) (by assumption) ?_
          rotate_left
          · (intro w hSw; (try dsimp only at hSw); go_simp)
            all_goals with_reducible rfl
          go_simp
          refine wpAnyH_done (by kernel_rfl) ?_ _
          simp only [RL.endQ]
          refine wp_store_row 40 _ _ rfl w2.heap.size #[.int .i64 cq, .int .i64 vn, .bool vi, .slice a1 vz.length c1, .slice a2 vb.length c2] (by rfl) (by rfl) 40 #[.int .i64 0, .int .i64 0, .bool false, .slice none 0 0, .slice none 0 0] (heap_alloc_new _ _) (by rw [info_told]; rfl) rfl (by simp [Value.oneCell']) ?_
          dsimp only [Act.put]
          go_wp2_with fail
          go_meet
          case rel => exact ⟨_, rfl, HA.out⟩
        · rw [if_pos (by rfl)]
          unfold Oper.wp
          go_simp
          refine hK.out _ _ (HS7.out _ ((Keep.drew _ _).more (Keep.alloc _ _ _))) (fun hHeld => ?_)
          clear hK K
          try simp only [Act.put, List.setIfInBounds_toArray, List.set_cons_zero, List.set_cons_succ]
          refine wpAnyH_ready (rs := [8]) (by kernel_rfl) (by simp) ?_
          refine AllReadyH.cons (o := _) rfl (fun K hK => ?_) AllReadyH.nil
          rw [if_pos (by rfl)]
          go_simp
          go_at_call 11
          refine (HC2.out (w7.drew.alloc (.cells #[.int .i64 0, .int .i64 0, .bool false, .slice none 0 0, .slice none 0 0] 40)) (HrR7.out.stay ((Keep.drew (fun _ => False) _).more (Keep.alloc _ _ _)) fun _ _ _ f => f) (fun i e => Nat.lt_trans (HRR7.out i e) (by simp)) (HQw.out _ ((HJk7.out.more (Keep.drew _ _)).more (Keep.alloc _ _ _))).1).mono ?_
          rintro e w2 ⟨a1, c1, a2, c2, rfl, hlr, hg, hk⟩
          rw [World.size_alloc] at hlr hg
          have HA := hide (Aft.two (staysR y.r F2) (w := w7) (c1 := c1) (c2 := c2) cq vn vi HRR7.out hg hk hlr)
          have HKk := hide (HS7.out _ (((Keep.drew _ _).more (Keep.alloc _ _ _)).more hk))
          have hX : w2.heap[w7.heap.size]? = some (.cells #[.int .i64 0, .int .i64 0, .bool false, .slice none 0 0, .slice none 0 0] 40 (0, 0)) := hk.blk (heap_alloc_new w7.drew _) fun e => Nat.lt_irrefl _ (HRR7.out _ e)
          clear hlr hg hk
          go_simp
          refine hK.out _ _ (HKk.out) (fun hHeld => ?_)
          clear hK K
          try simp only [Act.put, List.setIfInBounds_toArray, List.set_cons_zero, List.set_cons_succ]
          refine wpAnyH_take (i := 10) (oi := _) (v := ?_) rfl (by kernel_rfl) (by kernel_rfl) (by kernel_rfl) (fun _ _ _ h => h) (Or.inl ⟨by rfl, ?_⟩) (by assumption) ?_
          rotate_left
          · (intro w hSw; (try dsimp only at hSw); go_simp)
            all_goals with_reducible rfl
          go_simp
          refine wpAnyH_done (by kernel_rfl) ?_ _
          simp only [RL.endQ]
          refine wp_store_row 40 _ _ rfl w7.heap.size #[.int .i64 cq, .int .i64 vn, .bool vi, .slice a1 vz.length c1, .slice a2 vb.length c2] (by rfl) (by rfl) 40 #[.int .i64 0, .int .i64 0, .bool false, .slice none 0 0, .slice none 0 0] hX (by rw [info_told]; rfl) rfl (by simp [Value.oneCell']) ?_
          dsimp only [Act.put]
          go_wp2_with fail
          go_meet
          case rel => exact ⟨_, rfl, HA.out⟩
      case rest =>
      obtain ⟨Y, rfl, HA2⟩ := hcut
      obtain ⟨w8, hw8⟩ : ∃ x, x = wc := ⟨_, rfl⟩
      subst hw8
      obtain ⟨a1, c1, a2, c2, hX, hlr⟩ := HA.out.t
      obtain ⟨b1, d1, b2, d2, hY, hlr2⟩ := HA2.out.t
      have hXR : ∀ b, w5.heap.size ≤ b → ¬ R b := fun b e e2 => Nat.not_lt.2 e (HRR.out b e2).2.1
      have hX8 := HA2.out.kp.blk hX (hXR _ HA.out.x)
      have hlr8 := hlr.keep HA2.out.kp fun b e _ => hXR b e
      have HSm := hide (same_any w8 cq vn vi a1 b1 a2 b2 vz.length vb.length c1 d1 c2 d2 vz vb hlr8.rz hlr2.rz hlr8.rl hlr2.rl)
      have u0 := cell_blk hX8 0 (v := .int .i64 cq) rfl
      have u1 := cell_blk hX8 1 (v := .int .i64 vn) rfl
      have u2 := cell_blk hX8 2 (v := .bool vi) rfl
      have u3 := cell_blk hX8 3 (v := .slice a1 vz.length c1) rfl
      have u4 := cell_blk hX8 4 (v := .slice a2 vb.length c2) rfl
      have v0 := cell_blk hY 0 (v := .int .i64 cq) rfl
      have v1 := cell_blk hY 1 (v := .int .i64 vn) rfl
      have v2 := cell_blk hY 2 (v := .bool vi) rfl
      have v3 := cell_blk hY 3 (v := .slice b1 vz.length d1) rfl
      have v4 := cell_blk hY 4 (v := .slice b2 vb.length d2) rfl
      generalize vz.length = zn at *
      generalize vb.length = bn at *
      have HNx : Hid (∀ w9, Keep (fun _ => False) w8 w9 → ∃ L', PlJ W (fun _ => False) (i + 1) w9 (.slice (some ⟨gd, 0, none⟩) ln2 cd) (.slice (some ⟨gr, 0, none⟩) ln2 cr) L') := fun w9 k9 => by
        obtain ⟨L', _, h⟩ := HCl.out w7 w8 w9 F2 HA.out.g HA.out.kp HA2.out.g HA2.out.kp k9
        exact ⟨L', h⟩
      have HIn := hide (show i + 1 ≤ n by omega)
      clear HCl HA HA2 hX hY hlr hlr2 hXR hX8 hlr8 HS7 hqc7 x2 HC2 hfit HK7 HJk7 HrR7 HRR7 HJ3 HLn2 hml2 HG HL2 HX2 HrR HSS HRR HRS hm2 hin
      go_wp2_with (go_at_call 12; refine HSm.out.mono ?_; rintro e w9 ⟨rfl, hk9⟩)
      obtain ⟨L', hL'⟩ := HNx.out w9 hk9
      go_roundw
      case rel => exact ⟨i + 1, L', by go_num, HIn.out, hL'⟩
      case measure => have := HIn.out; simp [intOf]; omega
    · have hi : i = n := by omega
      subst hi
      have hl1 := HJ.out.l1
      have hl4 := HJ.out.l4
      obtain ⟨da, dc, hdv, _⟩ : ∃ da dc, _ = Value.slice da L.length dc ∧ True := by
        obtain ⟨_, _, hp, _⟩ := HJ.out.ex
        obtain ⟨da, dc, h, _⟩ := ownsRow_sh hp.rd
        exact ⟨da, dc, h, trivial⟩
      obtain ⟨ra, rc, hrv, _⟩ : ∃ ra rc, _ = Value.slice ra L.length rc ∧ True := by
        obtain ⟨_, _, hp, _⟩ := HJ.out.ex
        obtain ⟨ra, rc, h, _⟩ := ownsRow_sh hp.rr
        exact ⟨ra, rc, h, trivial⟩
      subst hdv hrv
      obtain ⟨ln, hln⟩ : ∃ ln, ln = L.length := ⟨_, rfl⟩
      rw [← hln] at hl1 hl4 ⊢
      have hJ := HJ.out
      rw [← hln] at hJ
      have HJ2 := hide hJ
      have HLn := hide hln
      have HRo := hide fun w => all_new w i hn
      clear hJ HJ hln HM HR
      go_wp2_with (go_at_call 13; refine (HRo.out _).mono ?_; rintro e w5 ⟨fa, fc, rfl, hz, hk5, hfa⟩)
      have HJ5 := hide (HJ2.out.hold hk5)
      have HZ := hide hz
      have HFa := hide hfa
      have HK5 := hide hk5
      clear hz hk5 hfa HRo
      generalize hFF : (fun b => wr.heap.size ≤ b ∧ b < w5.heap.size) = F at *
      have HFF : Hid (∀ g off, fa = some ⟨g, off, none⟩ → F g) := fun g off e => by rw [← hFF]; exact HFa.out g off e
      clear hFF
      go_loopw [17] (fun kv wx => ∃ (k : Nat) (L' : List Dk), kv = .int .i64 (k : Nat) ∧ k ≤ ln ∧ Hid (L'.length = ln) ∧ Hid (PlJ W F (i + k) wx (.slice da ln dc) (.slice ra ln rc) L') ∧ Hid (Rz wx fa i (List.replicate i 1099511627776))) (fun kv _ => ln - (intOf kv).toNat)
      case atStart => exact ⟨0, L, rfl, Nat.zero_le _, HLn.out.symm, HJ5.out, HZ.out⟩
      case round =>
        obtain ⟨k, L2, rfl, hkl, HL2, HJ3, HZ3⟩ := hrel
        obtain ⟨w6, hw6⟩ : ∃ x, x = wr := ⟨_, rfl⟩
        subst hw6
        by_cases hlt : k < ln
        · have hlt' : (k : Int) < (ln : Int) := by omega
          have hkm : k < L2.length := by rw [HL2.out]; exact hlt
          obtain ⟨y, S, R, gd, cd, gr, cr, hy, hvd, hvr, x1, x2, hdS, hrR, hag, hgd, hS, hR, hRS, hF, hgdl, hgrl, hcl⟩ := HJ3.out.pick hkm
          rw [HL2.out] at hvd hvr
          injection hvd with hd1 _ hd3
          injection hvr with hr1 _ hr3
          subst hd1 hd3 hr1 hr3
          have hnb : i + k < 70368744177664 := by omega
          have fw := fitW_of hag hgd (Nat.le_of_lt hnb) []
          obtain ⟨hl1', hl2'⟩ := lose hag hgd hnb (List.replicate i 1099511627776)
          have HlD := hide (hl1' S y.p)
          have HlR := hide (hl2' R y.r)
          have hok := hgd.ok (Nat.le_of_lt hnb)
          have hby : ∀ x ∈ y.f.th, x.2.length < 281474976710656 := fun x hx => by have := fw.f.by_ x hx; omega
          have HThere := hide fun w7 (kk : Keep (fun _ => False) w6 w7) => there_rd R w7 y.r y.f (hrR.stay kk fun _ _ _ f => f) fw.f
          have HDd := hide fun w7 (kk : Keep (fun _ => False) w6 w7) => down_any S w7 y.p y.s (hdS.stay kk fun _ _ _ f => f)
          have HDr := hide fun w7 (kk : Keep (fun _ => False) w6 w7) => refDown_any R w7 y.r y.f (hrR.stay kk fun _ _ _ f => f)
          have hoff : y.f.off = y.s.down := hag.off.symm
          rw [hoff] at HDr
          have hX1 := hide x1
          have hX2 := hide x2
          have HdS := hide hdS
          have HrR := hide hrR
          have HSS := hide hS
          have HRR := hide hR
          have HRS := hide hRS
          have HFn := hide hF
          have HCl := hide hcl
          have HAg := hide hag
          have HOk := hide hok
          have HBy := hide hby
          have HS9 : Hid (∀ V, Keep (fun _ => False) w6 V → (fun V : World => V.cell? ⟨gd, k, none⟩ = some (.pointer (some ⟨y.p, 0, none⟩)) ∧ V.cell? ⟨gr, k, none⟩ = some (.pointer (some ⟨y.r, 0, none⟩))) V) := fun V kk => ⟨kk.cell hX1.out fun f => f, kk.cell hX2.out fun f => f⟩
          have HIk := hide hnb
          clear hl1' hl2' hcl hF hRS hR hS hrR hdS hag hgd hok fw hby hoff hkm hnb hy hgdl hgrl
          have HSn : Hid (Calls Try.prog 14 #[.pointer (some ⟨y.p, 0, none⟩)] w6 fun e w' => ∃ a n c, e = .returned (.tuple #[.slice a n c, .bool (!y.s.down)]) ∧ (y.s.down = false → n = y.f.th.length ∧ RdS w6.heap.size w' a y.f.th) ∧ Keep (fun _ => False) w6 w') := by
            cases hd : y.s.down with
            | true =>
              refine (seen_off S w6 y.p y.s HdS.out HOk.out hd).mono ?_
              rintro e w' ⟨a, c, rfl, hk⟩
              exact ⟨a, 0, c, rfl, (fun e => by cases e), hk⟩
            | false =>
              refine (seen_on S w6 y.p y.s y.f HdS.out HOk.out HAg.out hd).mono ?_
              rintro e w' ⟨a, c, rfl, hr, hk⟩
              exact ⟨a, _, c, rfl, (fun _ => ⟨rfl, hr⟩), hk⟩
          obtain ⟨dn, hdn⟩ : ∃ dn, dn = y.s.down := ⟨_, rfl⟩
          rw [← hdn] at HSn HDd HDr
          clear hdn
          go_upto_region 29 with (go_at_call 14; refine HSn.out.mono ?_; rintro e w7 ⟨sa, sn, sc, rfl, hsn, hk7⟩)
          have HSl := hide hsn
          have HK7 := hide hk7
          clear hsn hk7 HSn
          go_cut [159] from 113 to 198 (fun v wx => v = .bool false ∧ Hid (Keep (fun _ => False) w6 wx))
          case first => as_aux_lemma =>
            cases dn with
            | true =>
              refine wp_region_held_drew (S := fun V : World => V.cell? ⟨gd, k, none⟩ = some (.pointer (some ⟨y.p, 0, none⟩)) ∧ V.cell? ⟨gr, k, none⟩ = some (.pointer (some ⟨y.r, 0, none⟩))) (by kernel_rfl) (HS9.out _ (HK7.out.more (Keep.drew _ _))) (fun hHeld => ?_)
              change wpAnyH _ _ _ _ _ 33 (Array.replicate 33 false) _ _
              have HKW := hide (HK7.out.more (Keep.drew (fun _ => False) w7))
              refine wpAnyH_take (i := 0) (oi := _) (v := ?_) rfl (by kernel_rfl) (by kernel_rfl) (by kernel_rfl) (fun _ _ _ h => h) (Or.inl ⟨by rfl, ?_⟩) (by assumption) ?_
              rotate_left
              · (intro w hSw; (try dsimp only at hSw); go_simp)
                all_goals with_reducible rfl
              go_simp
              refine wpAnyH_take (i := 1) (oi := _) (v := ?_) rfl (by kernel_rfl) (by kernel_rfl) (by kernel_rfl) (fun _ _ _ h => h) (Or.inl ⟨by rfl, ?_⟩) (by assumption) ?_
              rotate_left
              · (intro w hSw; (try dsimp only at hSw); go_simp)
                all_goals with_reducible rfl
              go_simp
              refine wpAnyH_take (i := 2) (oi := _) (v := ?_) rfl (by kernel_rfl) (by kernel_rfl) (by kernel_rfl) (fun _ _ _ h => h) (Or.inl ⟨by rfl, ?_⟩) (by assumption) ?_
              rotate_left
              · (intro w hSw; (try dsimp only at hSw); go_simp)
                all_goals with_reducible rfl
              go_simp
              refine wpAnyH_take (i := 3) (oi := _) (v := ?_) rfl (by kernel_rfl) (by kernel_rfl) (by kernel_rfl) (fun _ _ _ h => h) (Or.inl ⟨by rfl, ?_⟩) (by assumption) ?_
              rotate_left
              · (intro w hSw; (try dsimp only at hSw); go_simp)
                all_goals with_reducible rfl
              go_simp
              refine wpAnyH_take (i := 5) (oi := _) (v := ?_) rfl (by kernel_rfl) (by kernel_rfl) (by kernel_rfl) (fun _ _ _ h => h) (Or.inl ⟨by rfl, ?_⟩) (by assumption) ?_
              rotate_left
              · (intro w hSw; (try dsimp only at hSw); go_simp)
                all_goals with_reducible rfl
              go_simp
              refine wpAnyH_take (i := 6) (oi := _) (v := ?_) rfl (by kernel_rfl) (by kernel_rfl) (by kernel_rfl) (fun _ _ _ h => h) (Or.inl ⟨by rfl, ?_⟩) (by assumption) ?_
              rotate_left
              · (intro w hSw; (try dsimp only at hSw); go_simp)
                all_goals with_reducible rfl
              go_simp
              refine wpAnyH_take (i := 7) (oi := _) (v := ?_) rfl (by kernel_rfl) (by kernel_rfl) (by kernel_rfl) (fun _ _ _ h => h) (Or.inl ⟨by rfl, ?_⟩) (by assumption) ?_
              rotate_left
              · (intro w hSw; (try dsimp only at hSw); go_simp)
                all_goals with_reducible rfl
              go_simp
              refine wpAnyH_take (i := 8) (oi := _) (v := ?_) rfl (by kernel_rfl) (by kernel_rfl) (by kernel_rfl) (fun _ _ _ h => h) (Or.inl ⟨by rfl, ?_⟩) (by assumption) ?_
              rotate_left
              · (intro w hSw; (try dsimp only at hSw); go_simp)
                all_goals with_reducible rfl
              go_simp
              refine wpAnyH_ready (rs := [4]) (by kernel_rfl) (by simp) ?_
              refine AllReadyH.cons (o := _) rfl (fun K hK => ?_) AllReadyH.nil
              rw [if_pos (by rfl)]
              go_simp
              go_at_call 15
              refine (HDd.out _ HKW.out).mono ?_
              rintro e wd ⟨rfl, hw⟩
              have hw := hw.symm
              subst hw
              go_simp
              refine hK.out _ _ (HS9.out _ HKW.out) (fun hHeld => ?_)
              clear hK K
              try simp only [Act.put, List.setIfInBounds_toArray, List.set_cons_zero, List.set_cons_succ]
              refine wpAnyH_ready (rs := [9]) (by kernel_rfl) (by simp) ?_
              refine AllReadyH.cons (o := _) rfl (fun K hK => ?_) AllReadyH.nil
              rw [if_pos (by rfl)]
              go_simp
              go_at_call 16
              refine (HDr.out _ HKW.out).mono ?_
              rintro e wd ⟨rfl, hw⟩
              have hw := hw.symm
              subst hw
              go_simp
              refine hK.out _ _ (HS9.out _ HKW.out) (fun hHeld => ?_)
              clear hK K
              try simp only [Act.put, List.setIfInBounds_toArray, List.set_cons_zero, List.set_cons_succ]
              refine wpAnyH_take (i := 10) (oi := _) (v := ?_) rfl (by kernel_rfl) (by kernel_rfl) (by kernel_rfl) (fun _ _ _ h => h) (Or.inl ⟨by rfl, ?_⟩) (by assumption) ?_
              rotate_left
              · (intro w hSw; (try dsimp only at hSw); go_simp)
                all_goals with_reducible rfl
              go_simp
              refine wpAnyH_take (i := 11) (oi := _) (v := ?_) rfl (by kernel_rfl) (by kernel_rfl) (by kernel_rfl) (fun _ _ _ h => h) (Or.inl ⟨by rfl, ?_⟩) (by assumption) ?_
              rotate_left
              · (intro w hSw; (try dsimp only at hSw); go_simp)
                all_goals with_reducible rfl
              go_simp
              refine wpAnyH_take (i := 12) (oi := _) (v := ?_) rfl (by kernel_rfl) (by kernel_rfl) (by kernel_rfl) (fun _ _ _ h => h) (Or.inl ⟨by rfl, ?_⟩) (by assumption) ?_
              rotate_left
              · (intro w hSw; (try dsimp only at hSw); go_simp)
                all_goals with_reducible rfl
              go_simp
              refine wpAnyH_take (i := 13) (oi := _) (v := ?_) rfl (by kernel_rfl) (by kernel_rfl) (by kernel_rfl) (fun _ _ _ h => h) (Or.inl ⟨by rfl, ?_⟩) (by assumption) ?_
              rotate_left
              · (intro w hSw; (try dsimp only at hSw); go_simp)
                all_goals with_reducible rfl
              go_simp
              refine wpAnyH_take (i := 14) (oi := _) (v := ?_) rfl (by kernel_rfl) (by kernel_rfl) (by kernel_rfl) (fun _ _ _ h => h) (Or.inl ⟨by rfl, ?_⟩) (by assumption) ?_
              rotate_left
              · (intro w hSw; (try dsimp only at hSw); go_simp)
                all_goals with_reducible rfl
              go_simp
              refine wpAnyH_take (i := 15) (oi := _) (v := ?_) rfl (by kernel_rfl) (by kernel_rfl) (by kernel_rfl) (fun _ _ _ h => h) (Or.inl ⟨by rfl, ?_⟩) (by assumption) ?_
              rotate_left
              · (intro w hSw; (try dsimp only at hSw); go_simp)
                all_goals with_reducible rfl
              go_simp
              refine wpAnyH_take (i := 16) (oi := _) (v := ?_) rfl (by kernel_rfl) (by kernel_rfl) (by kernel_rfl) (fun _ _ _ h => h) (Or.inl ⟨by rfl, ?_⟩) (by assumption) ?_
              rotate_left
              · (intro w hSw; (try dsimp only at hSw); go_simp)
                all_goals with_reducible rfl
              go_simp
              refine wpAnyH_ready (rs := [17]) (by kernel_rfl) (by simp) ?_
              refine AllReadyH.cons (o := _) rfl (fun K hK => ?_) AllReadyH.nil
              rw [if_pos (by rfl)]
              go_simp
              go_at_call 16
              refine (HDr.out _ HKW.out).mono ?_
              rintro e wd ⟨rfl, hw⟩
              have hw := hw.symm
              subst hw
              go_simp
              refine hK.out _ _ (HS9.out _ HKW.out) (fun hHeld => ?_)
              clear hK K
              try simp only [Act.put, List.setIfInBounds_toArray, List.set_cons_zero, List.set_cons_succ]
              refine wpAnyH_take (i := 18) (oi := _) (v := ?_) rfl (by kernel_rfl) (by kernel_rfl) (by kernel_rfl) (fun _ _ _ h => h) (Or.inl ⟨by rfl, ?_⟩) (by assumption) ?_
              rotate_left
              · (intro w hSw; (try dsimp only at hSw); go_simp)
                all_goals with_reducible rfl
              go_simp
              refine wpAnyH_take (i := 19) (oi := _) (v := ?_) rfl (by kernel_rfl) (by kernel_rfl) (by kernel_rfl) (fun _ _ _ h => h) (Or.inl ⟨by rfl, ?_⟩) (by assumption) ?_
              rotate_left
              · (intro w hSw; (try dsimp only at hSw); go_simp)
                all_goals with_reducible rfl
              go_simp
              refine wpAnyH_take (i := 20) (oi := _) (v := ?_) rfl (by kernel_rfl) (by kernel_rfl) (by kernel_rfl) (fun _ _ _ h => h) (Or.inl ⟨by rfl, ?_⟩) (by assumption) ?_
              rotate_left
              · (intro w hSw; (try dsimp only at hSw); go_simp)
                all_goals with_reducible rfl
              go_simp
              refine wpAnyH_take (i := 21) (oi := _) (v := ?_) rfl (by kernel_rfl) (by kernel_rfl) (by kernel_rfl) (fun _ _ _ h => h) (Or.inl ⟨by rfl, ?_⟩) (by assumption) ?_
              rotate_left
              · (intro w hSw; (try dsimp only at hSw); go_simp)
                all_goals with_reducible rfl
              go_simp
              refine wpAnyH_take (i := 22) (oi := _) (v := ?_) rfl (by kernel_rfl) (by kernel_rfl) (by kernel_rfl) (fun _ _ _ h => h) (Or.inl ⟨by rfl, ?_⟩) (by assumption) ?_
              rotate_left
              · (intro w hSw; (try dsimp only at hSw); go_simp)
                all_goals with_reducible rfl
              go_simp
              refine wpAnyH_take (i := 23) (oi := _) (v := undef) rfl (by kernel_rfl) (by kernel_rfl) (by kernel_rfl) (fun _ _ _ h => h) (Or.inr ⟨by rfl, rfl⟩) (by assumption) ?_
              go_simp
              refine wpAnyH_take (i := 24) (oi := _) (v := undef) rfl (by kernel_rfl) (by kernel_rfl) (by kernel_rfl) (fun _ _ _ h => h) (Or.inr ⟨by rfl, rfl⟩) (by assumption) ?_
              go_simp
              refine wpAnyH_take (i := 25) (oi := _) (v := undef) rfl (by kernel_rfl) (by kernel_rfl) (by kernel_rfl) (fun _ _ _ h => h) (Or.inr ⟨by rfl, rfl⟩) (by assumption) ?_
              go_simp
              refine wpAnyH_take (i := 26) (oi := _) (v := undef) rfl (by kernel_rfl) (by kernel_rfl) (by kernel_rfl) (fun _ _ _ h => h) (Or.inr ⟨by rfl, rfl⟩) (by assumption) ?_
              go_simp
              refine wpAnyH_take (i := 27) (oi := _) (v := undef) rfl (by kernel_rfl) (by kernel_rfl) (by kernel_rfl) (fun _ _ _ h => h) (Or.inr ⟨by rfl, rfl⟩) (by assumption) ?_
              go_simp
              refine wpAnyH_take (i := 28) (oi := _) (v := undef) rfl (by kernel_rfl) (by kernel_rfl) (by kernel_rfl) (fun _ _ _ h => h) (Or.inr ⟨by rfl, rfl⟩) (by assumption) ?_
              go_simp
              refine wpAnyH_take (i := 29) (oi := _) (v := undef) rfl (by kernel_rfl) (by kernel_rfl) (by kernel_rfl) (fun _ _ _ h => h) (Or.inr ⟨by rfl, rfl⟩) (by assumption) ?_
              go_simp
              refine wpAnyH_take (i := 30) (oi := _) (v := undef) rfl (by kernel_rfl) (by kernel_rfl) (by kernel_rfl) (fun _ _ _ h => h) (Or.inr ⟨by rfl, rfl⟩) (by assumption) ?_
              go_simp
              refine wpAnyH_take (i := 31) (oi := _) (v := ?_) rfl (by kernel_rfl) (by kernel_rfl) (by kernel_rfl) (fun _ _ _ h => h) (Or.inl ⟨by rfl, ?_⟩) (by assumption) ?_
              rotate_left
              · (intro w hSw; (try dsimp only at hSw); go_simp)
                all_goals with_reducible rfl
              go_simp
              refine wpAnyH_take (i := 32) (oi := _) (v := ?_) rfl (by kernel_rfl) (by kernel_rfl) (by kernel_rfl) (fun _ _ _ h => h) (Or.inl ⟨by rfl, ?_⟩) (by assumption) ?_
              rotate_left
              · (intro w hSw; (try dsimp only at hSw); go_simp)
                all_goals with_reducible rfl
              go_simp
              refine wpAnyH_done (by kernel_rfl) ?_ _
              go_wp2_with fail
              go_meet
              case rel => exact ⟨rfl, HKW.out⟩
            | false =>
              obtain ⟨hsn1, hsl⟩ := HSl.out rfl
              subst hsn1
              have HSl2 := hide hsl
              clear hsl
              refine wp_region_held_drew (S := fun V : World => V.cell? ⟨gd, k, none⟩ = some (.pointer (some ⟨y.p, 0, none⟩)) ∧ V.cell? ⟨gr, k, none⟩ = some (.pointer (some ⟨y.r, 0, none⟩))) (by kernel_rfl) (HS9.out _ (HK7.out.more (Keep.drew _ _))) (fun hHeld => ?_)
              change wpAnyH _ _ _ _ _ 33 (Array.replicate 33 false) _ _
              have HKW := hide (HK7.out.more (Keep.drew (fun _ => False) w7))
              refine wpAnyH_take (i := 0) (oi := _) (v := ?_) rfl (by kernel_rfl) (by kernel_rfl) (by kernel_rfl) (fun _ _ _ h => h) (Or.inl ⟨by rfl, ?_⟩) (by assumption) ?_
              rotate_left
              · (intro w hSw; (try dsimp only at hSw); go_simp)
                all_goals with_reducible rfl
              go_simp
              refine wpAnyH_take (i := 1) (oi := _) (v := ?_) rfl (by kernel_rfl) (by kernel_rfl) (by kernel_rfl) (fun _ _ _ h => h) (Or.inl ⟨by rfl, ?_⟩) (by assumption) ?_
              rotate_left
              · (intro w hSw; (try dsimp only at hSw); go_simp)
                all_goals with_reducible rfl
              go_simp
              refine wpAnyH_take (i := 2) (oi := _) (v := ?_) rfl (by kernel_rfl) (by kernel_rfl) (by kernel_rfl) (fun _ _ _ h => h) (Or.inl ⟨by rfl, ?_⟩) (by assumption) ?_
              rotate_left
              · (intro w hSw; (try dsimp only at hSw); go_simp)
                all_goals with_reducible rfl
              go_simp
              refine wpAnyH_take (i := 3) (oi := _) (v := ?_) rfl (by kernel_rfl) (by kernel_rfl) (by kernel_rfl) (fun _ _ _ h => h) (Or.inl ⟨by rfl, ?_⟩) (by assumption) ?_
              rotate_left
              · (intro w hSw; (try dsimp only at hSw); go_simp)
                all_goals with_reducible rfl
              go_simp
              refine wpAnyH_take (i := 5) (oi := _) (v := ?_) rfl (by kernel_rfl) (by kernel_rfl) (by kernel_rfl) (fun _ _ _ h => h) (Or.inl ⟨by rfl, ?_⟩) (by assumption) ?_
              rotate_left
              · (intro w hSw; (try dsimp only at hSw); go_simp)
                all_goals with_reducible rfl
              go_simp
              refine wpAnyH_take (i := 6) (oi := _) (v := ?_) rfl (by kernel_rfl) (by kernel_rfl) (by kernel_rfl) (fun _ _ _ h => h) (Or.inl ⟨by rfl, ?_⟩) (by assumption) ?_
              rotate_left
              · (intro w hSw; (try dsimp only at hSw); go_simp)
                all_goals with_reducible rfl
              go_simp
              refine wpAnyH_take (i := 7) (oi := _) (v := ?_) rfl (by kernel_rfl) (by kernel_rfl) (by kernel_rfl) (fun _ _ _ h => h) (Or.inl ⟨by rfl, ?_⟩) (by assumption) ?_
              rotate_left
              · (intro w hSw; (try dsimp only at hSw); go_simp)
                all_goals with_reducible rfl
              go_simp
              refine wpAnyH_take (i := 8) (oi := _) (v := ?_) rfl (by kernel_rfl) (by kernel_rfl) (by kernel_rfl) (fun _ _ _ h => h) (Or.inl ⟨by rfl, ?_⟩) (by assumption) ?_
              rotate_left
              · (intro w hSw; (try dsimp only at hSw); go_simp)
                all_goals with_reducible rfl
              go_simp
              refine wpAnyH_ready (rs := [4]) (by kernel_rfl) (by simp) ?_
              refine AllReadyH.cons (o := _) rfl (fun K hK => ?_) AllReadyH.nil
              rw [if_pos (by rfl)]
              go_simp
              go_at_call 15
              refine (HDd.out _ HKW.out).mono ?_
              rintro e wd ⟨rfl, hw⟩
              have hw := hw.symm
              subst hw
              go_simp
              refine hK.out _ _ (HS9.out _ HKW.out) (fun hHeld => ?_)
              clear hK K
              try simp only [Act.put, List.setIfInBounds_toArray, List.set_cons_zero, List.set_cons_succ]
              refine wpAnyH_ready (rs := [9]) (by kernel_rfl) (by simp) ?_
              refine AllReadyH.cons (o := _) rfl (fun K hK => ?_) AllReadyH.nil
              rw [if_pos (by rfl)]
              go_simp
              go_at_call 16
              refine (HDr.out _ HKW.out).mono ?_
              rintro e wd ⟨rfl, hw⟩
              have hw := hw.symm
              subst hw
              go_simp
              refine hK.out _ _ (HS9.out _ HKW.out) (fun hHeld => ?_)
              clear hK K
              try simp only [Act.put, List.setIfInBounds_toArray, List.set_cons_zero, List.set_cons_succ]
              refine wpAnyH_take (i := 10) (oi := _) (v := ?_) rfl (by kernel_rfl) (by kernel_rfl) (by kernel_rfl) (fun _ _ _ h => h) (Or.inl ⟨by rfl, ?_⟩) (by assumption) ?_
              rotate_left
              · (intro w hSw; (try dsimp only at hSw); go_simp)
                all_goals with_reducible rfl
              go_simp
              refine wpAnyH_take (i := 11) (oi := _) (v := ?_) rfl (by kernel_rfl) (by kernel_rfl) (by kernel_rfl) (fun _ _ _ h => h) (Or.inl ⟨by rfl, ?_⟩) (by assumption) ?_
              rotate_left
              · (intro w hSw; (try dsimp only at hSw); go_simp)
                all_goals with_reducible rfl
              go_simp
              refine wpAnyH_take (i := 12) (oi := _) (v := ?_) rfl (by kernel_rfl) (by kernel_rfl) (by kernel_rfl) (fun _ _ _ h => h) (Or.inl ⟨by rfl, ?_⟩) (by assumption) ?_
              rotate_left
              · (intro w hSw; (try dsimp only at hSw); go_simp)
                all_goals with_reducible rfl
              go_simp
              refine wpAnyH_take (i := 13) (oi := _) (v := ?_) rfl (by kernel_rfl) (by kernel_rfl) (by kernel_rfl) (fun _ _ _ h => h) (Or.inl ⟨by rfl, ?_⟩) (by assumption) ?_
              rotate_left
              · (intro w hSw; (try dsimp only at hSw); go_simp)
                all_goals with_reducible rfl
              go_simp
              refine wpAnyH_take (i := 14) (oi := _) (v := ?_) rfl (by kernel_rfl) (by kernel_rfl) (by kernel_rfl) (fun _ _ _ h => h) (Or.inl ⟨by rfl, ?_⟩) (by assumption) ?_
              rotate_left
              · (intro w hSw; (try dsimp only at hSw); go_simp)
                all_goals with_reducible rfl
              go_simp
              refine wpAnyH_take (i := 15) (oi := _) (v := ?_) rfl (by kernel_rfl) (by kernel_rfl) (by kernel_rfl) (fun _ _ _ h => h) (Or.inl ⟨by rfl, ?_⟩) (by assumption) ?_
              rotate_left
              · (intro w hSw; (try dsimp only at hSw); go_simp)
                all_goals with_reducible rfl
              go_simp
              refine wpAnyH_take (i := 16) (oi := _) (v := ?_) rfl (by kernel_rfl) (by kernel_rfl) (by kernel_rfl) (fun _ _ _ h => h) (Or.inl ⟨by rfl, ?_⟩) (by assumption) ?_
              rotate_left
              · (intro w hSw; (try dsimp only at hSw); go_simp)
                all_goals with_reducible rfl
              go_simp
              refine wpAnyH_ready (rs := [17]) (by kernel_rfl) (by simp) ?_
              refine AllReadyH.cons (o := _) rfl (fun K hK => ?_) AllReadyH.nil
              rw [if_pos (by rfl)]
              go_simp
              go_at_call 16
              refine (HDr.out _ HKW.out).mono ?_
              rintro e wd ⟨rfl, hw⟩
              have hw := hw.symm
              subst hw
              go_simp
              refine hK.out _ _ (HS9.out _ HKW.out) (fun hHeld => ?_)
              clear hK K
              try simp only [Act.put, List.setIfInBounds_toArray, List.set_cons_zero, List.set_cons_succ]
              refine wpAnyH_take (i := 18) (oi := _) (v := ?_) rfl (by kernel_rfl) (by kernel_rfl) (by kernel_rfl) (fun _ _ _ h => h) (Or.inl ⟨by rfl, ?_⟩) (by assumption) ?_
              rotate_left
              · (intro w hSw; (try dsimp only at hSw); go_simp)
                all_goals with_reducible rfl
              go_simp
              refine wpAnyH_take (i := 19) (oi := _) (v := ?_) rfl (by kernel_rfl) (by kernel_rfl) (by kernel_rfl) (fun _ _ _ h => h) (Or.inl ⟨by rfl, ?_⟩) (by assumption) ?_
              rotate_left
              · (intro w hSw; (try dsimp only at hSw); go_simp)
                all_goals with_reducible rfl
              go_simp
              refine wpAnyH_take (i := 20) (oi := _) (v := ?_) rfl (by kernel_rfl) (by kernel_rfl) (by kernel_rfl) (fun _ _ _ h => h) (Or.inl ⟨by rfl, ?_⟩) (by assumption) ?_
              rotate_left
              · (intro w hSw; (try dsimp only at hSw); go_simp)
                all_goals with_reducible rfl
              go_simp
              refine wpAnyH_take (i := 21) (oi := _) (v := ?_) rfl (by kernel_rfl) (by kernel_rfl) (by kernel_rfl) (fun _ _ _ h => h) (Or.inl ⟨by rfl, ?_⟩) (by assumption) ?_
              rotate_left
              · (intro w hSw; (try dsimp only at hSw); go_simp)
                all_goals with_reducible rfl
              go_simp
              refine wpAnyH_take (i := 22) (oi := _) (v := ?_) rfl (by kernel_rfl) (by kernel_rfl) (by kernel_rfl) (fun _ _ _ h => h) (Or.inl ⟨by rfl, ?_⟩) (by assumption) ?_
              rotate_left
              · (intro w hSw; (try dsimp only at hSw); go_simp)
                all_goals with_reducible rfl
              go_simp
              refine wpAnyH_take (i := 23) (oi := _) (v := ?_) rfl (by kernel_rfl) (by kernel_rfl) (by kernel_rfl) (fun _ _ _ h => h) (Or.inl ⟨by rfl, ?_⟩) (by assumption) ?_
              rotate_left
              · (intro w hSw; (try dsimp only at hSw); go_simp)
                all_goals with_reducible rfl
              go_simp
              refine wpAnyH_take (i := 24) (oi := _) (v := ?_) rfl (by kernel_rfl) (by kernel_rfl) (by kernel_rfl) (fun _ _ _ h => h) (Or.inl ⟨by rfl, ?_⟩) (by assumption) ?_
              rotate_left
              · (intro w hSw; (try dsimp only at hSw); go_simp)
                all_goals with_reducible rfl
              go_simp
              refine wpAnyH_take (i := 25) (oi := _) (v := ?_) rfl (by kernel_rfl) (by kernel_rfl) (by kernel_rfl) (fun _ _ _ h => h) (Or.inl ⟨by rfl, ?_⟩) (by assumption) ?_
              rotate_left
              · (intro w hSw; (try dsimp only at hSw); go_simp)
                all_goals with_reducible rfl
              go_simp
              refine wpAnyH_take (i := 26) (oi := _) (v := ?_) rfl (by kernel_rfl) (by kernel_rfl) (by kernel_rfl) (fun _ _ _ h => h) (Or.inl ⟨by rfl, ?_⟩) (by assumption) ?_
              rotate_left
              · (intro w hSw; (try dsimp only at hSw); go_simp)
                all_goals with_reducible rfl
              go_simp
              refine wpAnyH_take (i := 27) (oi := _) (v := ?_) rfl (by kernel_rfl) (by kernel_rfl) (by kernel_rfl) (fun _ _ _ h => h) (Or.inl ⟨by rfl, ?_⟩) (by assumption) ?_
              rotate_left
              · (intro w hSw; (try dsimp only at hSw); go_simp)
                all_goals with_reducible rfl
              go_simp
              refine wpAnyH_ready (rs := [28]) (by kernel_rfl) (by simp) ?_
              refine AllReadyH.cons (o := _) rfl (fun K hK => ?_) AllReadyH.nil
              rw [if_pos (by rfl)]
              go_simp
              go_at_call 18
              refine (HThere.out _ HKW.out).mono ?_
              rintro e wt ⟨ta, tc, rfl, htr, hkt⟩
              have HT1 := hide htr
              have HKT := hide (HKW.out.more hkt)
              have HT2 := hide (HSl2.out.keep ((Keep.drew (fun _ => False) w7).more hkt) fun _ _ _ f => f)
              clear htr hkt
              go_simp
              refine hK.out _ _ (HS9.out _ HKT.out) (fun hHeld => ?_)
              clear hK K
              try simp only [Act.put, List.setIfInBounds_toArray, List.set_cons_zero, List.set_cons_succ]
              refine wpAnyH_ready (rs := [29]) (by kernel_rfl) (by simp) ?_
              refine AllReadyH.cons (o := _) rfl (fun K hK => ?_) AllReadyH.nil
              rw [if_pos (by rfl)]
              go_simp
              go_at_call 17
              refine (alike_any _ _ _ _ _ _ _ _ HT2.out HT1.out HBy.out).mono ?_
              rintro e wu ⟨rfl, hku⟩
              have HKU := hide (HKT.out.more hku)
              clear hku
              go_simp
              refine hK.out _ _ (HS9.out _ HKU.out) (fun hHeld => ?_)
              clear hK K
              try simp only [Act.put, List.setIfInBounds_toArray, List.set_cons_zero, List.set_cons_succ]
              refine wpAnyH_take (i := 30) (oi := _) (v := ?_) rfl (by kernel_rfl) (by kernel_rfl) (by kernel_rfl) (fun _ _ _ h => h) (Or.inl ⟨by rfl, ?_⟩) (by assumption) ?_
              rotate_left
              · (intro w hSw; (try dsimp only at hSw); go_simp)
                all_goals with_reducible rfl
              go_simp
              refine wpAnyH_take (i := 31) (oi := _) (v := ?_) rfl (by kernel_rfl) (by kernel_rfl) (by kernel_rfl) (fun _ _ _ h => h) (Or.inl ⟨by rfl, ?_⟩) (by assumption) ?_
              rotate_left
              · (intro w hSw; (try dsimp only at hSw); go_simp)
                all_goals with_reducible rfl
              go_simp
              refine wpAnyH_take (i := 32) (oi := _) (v := ?_) rfl (by kernel_rfl) (by kernel_rfl) (by kernel_rfl) (fun _ _ _ h => h) (Or.inl ⟨by rfl, ?_⟩) (by assumption) ?_
              rotate_left
              · (intro w hSw; (try dsimp only at hSw); go_simp)
                all_goals with_reducible rfl
              go_simp
              refine wpAnyH_done (by kernel_rfl) ?_ _
              go_wp2_with fail
              go_meet
              case rel => exact ⟨rfl, HKU.out⟩
          case rest =>
            obtain ⟨rfl, HK9⟩ := hcut
            have hfS : ∀ g off, fa = some ⟨g, off, none⟩ → i ≠ 0 → ¬ S g := fun g off e _ => (HFn.out g (HFF.out g off e)).1
            have hfR : ∀ g off, fa = some ⟨g, off, none⟩ → i ≠ 0 → ¬ R g := fun g off e _ => (HFn.out g (HFF.out g off e)).2
            have hz9 := HZ3.out.stay HK9.out fun _ _ _ _ f => f
            have HCd := hide (HlD.out wc fa i fc (HdS.out.stay HK9.out fun _ _ _ f => f) hz9 hfS)
            have HFS := hide hfS
            have HFR := hide hfR
            have HZ9 := hide hz9
            have x1 := HK9.out.cell hX1.out fun f => f
            clear hfS hfR hz9 HSl HK7 HThere HDd HDr HlD
            go_upto_region 32 with (go_at_call 19; refine HCd.out.mono ?_; rintro e w8 ⟨rfl, t, htd, hta, htg, htn, hk8⟩)
            have HK8 := hide hk8
            have HTd := hide htd
            have HTa := hide hta
            have HTg := hide htg
            have HTn := hide htn
            have HK68 : Hid (Keep S w6 w8) := (HK9.out.mono fun _ f => f.elim).more hk8
            have x2 := HK68.out.cell hX2.out fun e => (HSS.out _ e).2.2.2 rfl
            have hz8 := HZ9.out.stay hk8 HFS.out
            have HCr := hide (HlR.out w8 fa i fc (HrR.out.stay HK68.out fun b _ e => HRS.out b e) hz8)
            have HZ8 := hide hz8
            clear hk8 htd hta htg htn hz8 x1 HCd
            go_upto_region 33 with (go_at_call 20; refine HCr.out.mono ?_; rintro e w9 ⟨rfl, hr9, hk9⟩)
            have hnb2 : i + k + 1 ≤ 70368744177664 := HIk.out
            have hfit := fit_of HTa.out HTg.out hnb2
            have hok := HTg.out.ok hnb2
            have hby : ∀ x ∈ (y.f.crash (List.replicate i 1099511627776)).th, x.2.length < 281474976710656 := fun x hx => by have := hfit.by_ x hx; omega
            have hd9 := HTd.out.stay hk9 fun b _ e e2 => HRS.out b e2 e
            have HFin : Hid (∀ w', Keep (fun _ => False) w9 w' → ∃ L', L'.length = ln ∧ PlJ W F (i + (k + 1)) w' (.slice (some ⟨gd, 0, none⟩) ln dc) (.slice (some ⟨gr, 0, none⟩) ln rc) L') := fun w' kk => by
              obtain ⟨L', e1, e2⟩ := HCl.out w8 w9 w' _ ⟨t, HTd.out.mono fun _ e => .inl e, HTa.out, HTg.out⟩ HK68.out hr9 hk9 kk
              exact ⟨L', by rw [e1, HL2.out], e2⟩
            have HZ10 := hide (HZ8.out.stay hk9 HFR.out)
            have x1 := hk9.cell (HK8.out.cell (HK9.out.cell hX1.out fun f => f) fun e => (HSS.out _ e).2.2.1 rfl) fun e => (HRR.out _ e).2.2.1 rfl
            have x2' := hk9.cell x2 fun e => (HRR.out _ e).2.2.2 rfl
            have HSn2 := hide (seen_on S w9 y.p t (y.f.crash (List.replicate i 1099511627776)) hd9 hok HTa.out HTn.out)
            have HTh2 := hide fun w' (kk : Keep (fun _ => False) w9 w') => there_rd (fun b => R b ∨ w8.heap.size ≤ b) w' y.r (y.f.crash (List.replicate i 1099511627776)) (hr9.stay kk fun _ _ _ f => f) hfit
            have HDn2 := hide fun w' (kk : Keep (fun _ => False) w9 w') => down_any S w' y.p t (hd9.stay kk fun _ _ _ f => f)
            rw [HTn.out] at HDn2
            have HBy2 := hide hby
            have hX1b := hide x1
            have hX2b := hide x2'
            have HKl := hide (show k + 1 ≤ ln by omega)
            generalize y.f.crash (List.replicate i 1099511627776) = fz at *
            clear hnb2 hfit hok hby hd9 hr9 hk9 HCl HTd HTa HTg HTn HK68 HZ8 HCr HK8 HZ9 x2 HlR x2'
            obtain ⟨thn, hthn⟩ : ∃ thn, thn = fz.th.length := ⟨_, rfl⟩
            rw [← hthn] at HSn2 HTh2
            have HTn := hide hthn
            clear hthn
            go_upto_region 34 with (go_at_call 14; refine HSn2.out.mono ?_; rintro e w10 ⟨sa2, sc2, rfl, hs2, hk10⟩)
            have HK10 := hide hk10
            have HS2 := hide hs2
            have x1 := hk10.cell hX1b.out fun f => f
            have x2 := hk10.cell hX2b.out fun f => f
            clear hk10 hs2 HSn2
            go_wp2_with (first
              | (go_at_call 15
                 refine (HDn2.out _ HK12.out).mono ?_
                 rintro e w13 ⟨rfl, hw⟩
                 have hw := hw.symm
                 subst hw)
              | (go_at_call 17
                 refine HAl.out.mono ?_
                 rintro e w12 ⟨rfl, hk12⟩
                 have HK12 := hide (HK11.out.more hk12)
                 have x1c := HK12.out.cell hX1b.out fun f => f
                 clear hk12)
              | (go_at_call 18
                 refine (HTh2.out _ HK10.out).mono ?_
                 rintro e w11 ⟨ta, tc, rfl, ht, hk11⟩
                 have HK11 := hide (HK10.out.more hk11)
                 have HAl : Hid (Calls Try.prog 17 #[.slice sa2 thn sc2, .slice ta thn tc] w11 fun e w' => e = .returned (.bool true) ∧ Keep (fun _ => False) w11 w') := by
                   show Calls _ _ _ _ _
                   rw [HTn.out]
                   exact alike_any _ _ _ _ _ _ _ _ (HS2.out.keep hk11 fun _ _ _ f => f) ht HBy2.out
                 clear hk11 ht))
            obtain ⟨L', hL1, hL2⟩ := HFin.out _ HK12.out
            have HLa := hide hL1
            have HLb := hide hL2
            have HZe := hide (HZ10.out.stay HK12.out fun _ _ _ _ f => f)
            clear hL1 hL2
            go_roundw
            case rel => exact ⟨k + 1, L', by go_num, HKl.out, HLa, HLb, HZe⟩
            case measure => have := HKl.out; simp [intOf]; omega
        · have hk : k = ln := by omega
          subst hk
          go_wp2
          go_ret
          exact ⟨rfl, HJ3.out.k.below (Nat.le_refl _) fun _ e => e⟩
end DP
end Go.Proofs.Ytilpidioengnbaa
