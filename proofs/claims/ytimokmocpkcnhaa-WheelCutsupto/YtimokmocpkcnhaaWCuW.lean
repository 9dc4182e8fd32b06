/- WheelCuts: the walk. -/
import Derived.Test.YtimokmocpkcnhaaWCuM
import Derived.Test.YtimokmocpkcnhaaWNxt
import Derived.Deep.QuietTactic
namespace Go.Proofs.Ytimokmocpkcnhaa
namespace Wh
open Go.RowKit

set_option maxRecDepth 100000 in
set_option maxHeartbeats 16000000 in
theorem cut_walk (x0 : Int) (a1 : Option Addr) (n1 c1 : Nat) (a2 : Option Addr) (n2 c2 : Nat) (z1 z2 : List Int) (w : World) (b1 : -9223372036854775808 ≤ x0) (b2 : x0 ≤ 9223372036854775807) (hz1 : Rz w a1 n1 z1) (hz2 : Rz w a2 n2 z2) :
    Calls Try.prog 5 #[.int .i64 x0, .slice a1 n1 c1, .slice a2 n2 c2] w fun e w' => e = .returned (.bool true) ∧ Below w.heap.size w w' := by
  obtain ⟨now, hnow, hnow2⟩ : ∃ n : Nat, pickV x0 4611686018427387904 = (n : Int) ∧ n < 4611686018427387904 := ⟨(pickV x0 4611686018427387904).toNat, by have := pickV_in x0 4611686018427387904 (by omega); omega, by have := pickV_in x0 4611686018427387904 (by omega); omega⟩
  have P1 : Hid (∀ w, Calls Try.prog 13 #[.int .i64 x0, .int .i64 4611686018427387904] w fun e w' => e = .returned (.int .i64 (now : Nat)) ∧ w' = w) := fun w => by rw [← hnow]; exact pick_any x0 4611686018427387904 b1 b2 (by omega) (by omega) w
  have hnM : now ≤ M := by unfold M; omega
  have hn1 := hz1.2.1
  have hn2 := hz2.2.1
  have hl1 := hide hz1.1
  have hl2 := hide hz2.1
  have HZ1 := hide hz1
  have HZ2 := hide hz2
  have hD : Hid ((z1.map (dueOf now)).length = n1) := by show _ = _; rw [List.length_map, ← hl1.out]
  obtain ⟨i0, hi, hi0, hi1, hi2⟩ := info_parts info_timer
  have HIN := hide (And.intro hi (And.intro hi0 (And.intro hi1 hi2)))
  clear hnow b1 b2 hz1 hz2 hi hi0 hi1 hi2
  go_enter Try.func5, Try.ntmps5
  go_wp2_with fail
  go_at_call 8
  refine (awake_any _).mono ?_
  rintro e w1 ⟨rfl, k1⟩
  have K1 := hide k1
  clear k1
  go_wp2_with fail
  go_at_call 13
  refine (P1.out _).mono ?_
  rintro e w2 ⟨rfl, hw2⟩
  rw [hw2]
  clear hw2 w2 P1
  go_wp2_with fail
  go_at_call 29
  refine (fill_any now hnM a1 n1 c1 z1 w1 (HZ1.out.at K1.out fun _ e => e.elim)).mono ?_
  rintro e w3 ⟨PA, sa, rfl, hfa, h3, k3⟩
  obtain ⟨Sa, hxa, hSal, hSas⟩ := h3.exact
  have K3 := hide (K1.out.more k3)
  have HFA := hide hfa
  have HXA := hide hxa
  have HSA : Hid (∀ k, Sa k → w.heap.size ≤ k ∧ k < w3.heap.size) := fun k e => ⟨Nat.le_trans K1.out.size (hSas k e), hSal k e⟩
  clear hfa h3 k3 hxa hSal hSas
  go_wp2_with fail
  go_at_call 29
  refine (fill_any now hnM a1 n1 c1 z1 w3 (HZ1.out.at K3.out fun _ e => e.elim)).mono ?_
  rintro e w4 ⟨PB, sb, rfl, hfb, h4, k4⟩
  obtain ⟨Sb, hxb, hSbl, hSbs⟩ := h4.exact
  have K4 := hide (K3.out.more k4)
  have HFB := hide hfb
  have HXB := hide hxb
  have HSB : Hid (∀ k, Sb k → w3.heap.size ≤ k ∧ k < w4.heap.size) := fun k e => ⟨hSbs k e, hSbl k e⟩
  have HXA4 := hide (HXA.out.new k4)
  have hs34 : w3.heap.size ≤ w4.heap.size := k4.size
  have hs3 : w.heap.size ≤ w3.heap.size := K3.out.size
  clear hfb h4 k4 hxb hSbl hSbs HXA
  go_wp2_with fail
  go_at_call 29
  refine (fill_any now hnM a1 n1 c1 z1 w4 (HZ1.out.at K4.out fun _ e => e.elim)).mono ?_
  rintro e w5 ⟨PC, sc, rfl, hfc, h5, k5⟩
  obtain ⟨Sc, hxc, hScl, hScs⟩ := h5.exact
  have K5 := hide ((K4.out.more k5).mono (T := fun k => w.heap.size ≤ k) fun _ e => e.elim)
  have HFC := hide hfc
  have HXC := hide hxc
  have HSC : Hid (∀ k, Sc k → w4.heap.size ≤ k ∧ k < w5.heap.size) := fun k e => ⟨hScs k e, hScl k e⟩
  have HXA5 := hide (HXA4.out.new k5)
  have HXB5 := hide (HXB.out.new k5)
  have hs45 : w4.heap.size ≤ w5.heap.size := k5.size
  clear hfc h5 k5 hxc hScl hScs HXA4 HXB K1 K3 K4
  have MS := hide (Mid.start HXA5.out.1 (to := now) (by rw [HFA.out.now_]; exact Nat.le_refl _))
  generalize w3.heap.size = SA at *
  generalize w4.heap.size = SB at *
  obtain ⟨CB, hCB⟩ : ∃ CB, CB = w5.heap.size := ⟨_, rfl⟩
  have HCB := hide hCB
  rw [← hCB] at hs45 HSC
  clear hCB
  go_wp2_with fail
  go_loopw [11, 12, 13] (fun av cv iv wr => ∃ (i at_ : Nat) (cur : St) (T : List Nat) (ac : Option Addr) (cc : Nat), av = .int .i64 (at_ : Nat) ∧ cv = .slice ac T.length cc ∧ iv = .int .i64 (i : Nat) ∧ i ≤ n2 ∧ at_ ≤ 4611686018427387904 ∧ now ≤ at_ ∧ T.length ≤ n1 ∧ Hid (Mid sa at_ T cur ∧ cur.now = at_ ∧ WAt 120 122 Sa wr PA cur ∧ WAt 120 122 Sb wr PB sb ∧ WAt 120 122 Sc wr PC sc ∧ wr.ownsRow CB 90 3 (.slice ac T.length cc) T.length (cells3 sa T) ∧ CB ≤ wr.heap.size ∧ Keep (fun k => w.heap.size ≤ k) w wr)) (fun _ _ iv _ => n2 - (intOf iv).toNat)
  case atStart => exact ⟨0, now, sa, [], none, 0, rfl, rfl, rfl, Nat.zero_le _, by omega, Nat.le_refl _, Nat.zero_le _, MS.out, HFA.out.now_, HXA5.out, HXB5.out, HXC.out, World.ownsRow_nil _ _ _ _, (by rw [HCB.out]; exact Nat.le_refl _), K5.out⟩
  case round =>
    obtain ⟨i, at_, cur, T, ac, cc, rfl, rfl, rfl, hi, hat, hnat, hT, HI⟩ := hrel
    have hCw : CB ≤ wr.heap.size := HI.out.2.2.2.2.2.2.1
    have hww : w.heap.size ≤ CB := by omega
    have hnAB : Hid (∀ k, SA ≤ k → ¬ Sa k) := fun k hk e => by have := (HSA.out k e).2; omega
    have hTy : Hid (∀ id ∈ cur.ids, ∃ y1, cur.what id = .int .i64 y1) := fun id hid => by
      rw [HI.out.1.ids] at hid
      rw [HI.out.1.eqW]
      exact HFA.out.typed id (List.mem_filter.1 hid).1
    have hlast : cur.last < 1048580 := by rw [HI.out.1.eqL, HFA.out.last, hD.out]; omega
    rcases Nat.lt_or_ge i n2 with hlt | hge
    · obtain ⟨b, off, hab, hbl, hcell⟩ := HZ2.out.2.2.2.resolve_left (by omega)
      subst hab
      have cz := HI.out.2.2.2.2.2.2.2.cell (hcell i hlt) (by show ¬ (w.heap.size ≤ b); omega)
      have hbz := HZ2.out.2.2.1 (z2.getD i 0) (by rw [List.getD_eq_getElem?_getD, List.getElem?_eq_getElem (by rw [← hl2.out]; exact hlt)]; simp)
      generalize z2.getD i 0 = x at *
      have hto := dueOf_in (now := at_) hat x
      obtain ⟨pq, hpq⟩ : ∃ pq : Nat, dueOf at_ x = at_ + pq := ⟨dueOf at_ x - at_, by omega⟩
      have hto2 : at_ + pq ≤ 4611686018427387904 := by have := hto.2; rw [hpq] at this; exact this
      have PK : Hid (∀ w, Calls Try.prog 13 #[.int .i64 x, .int .i64 (4611686018427387904 - (at_ : Int) + 1)] w fun e w' => e = .returned (.int .i64 (pq : Nat)) ∧ w' = w) := fun w => by
        have e := pick_due (now := at_) hat x
        rw [hpq, Nat.add_sub_cancel_left] at e
        rw [← e]
        exact pick_any x _ hbz.1 hbz.2 (by omega) (by omega) w
      have AD := adv_any (at_ + pq) wr HI.out.2.2.1 (by rw [HI.out.2.1]; omega) hto2 hlast hTy.out
      rw [Int.natCast_add] at AD
      have AD' := hide AD
      have HLS := hide hlast
      clear hbz hcell hto hpq AD hlast
      go_wp2_with fail
      go_at_call 13
      refine (PK.out _).mono ?_
      rintro e w6 ⟨rfl, hw6⟩
      rw [hw6]
      clear hw6 w6 PK
      go_wp2_with fail
      go_at_call 30
      refine AD'.out.mono ?_
      clear AD'
      rintro e w6 ⟨xs, v, rfl, hadv, h6, hrow, k6⟩
      obtain ⟨va, vc, rfl⟩ := ownsRow_shape hrow
      obtain ⟨hmid, hadv2, heq⟩ := HI.out.1.cut (Nat.le_add_right _ _) hto2 hadv
      have HMI := hide hmid
      have hxl : T.length + xs.length ≤ n1 := by
        have e1 := hadv2.len HXA5.out.1
        rw [HFA.out.len, hD.out, List.length_append] at e1
        omega
      have H6 := hide h6
      have RW6 : Hid (w6.ownsRow wr.heap.size 90 3 (.slice va xs.length vc) xs.length (cells3 sa xs)) := by
        have e : cells3 cur xs = cells3 sa xs := cells3_congr fun id _ => by rw [HI.out.1.eqD, HI.out.1.eqW]; exact ⟨rfl, rfl⟩
        rw [← e]; exact hrow
      have C6 := hide (ownsRow_far HI.out.2.2.2.2.2.1 k6 (fun k e1 e2 => by have := (HSA.out k e2).2; omega))
      have B6 := hide (HI.out.2.2.2.1.stay k6 (fun k _ e1 e2 => hnAB.out k (HSB.out k e1).1 e2))
      have D6 := hide (HI.out.2.2.2.2.1.stay k6 (fun k _ e1 e2 => hnAB.out k (Nat.le_trans hs34 (HSC.out k e1).1) e2))
      have K6 := hide (HI.out.2.2.2.2.2.2.2.more (k6.mono fun k e => (HSA.out k e).1))
      have hz6 : wr.heap.size ≤ w6.heap.size := k6.size
      have ONE := hide (cells3_one (s := sa) (l := xs) fun id hid => HFA.out.typed id ((hadv2.mem id).1 (List.mem_append.2 (.inr hid))).1)
      clear hadv h6 hrow k6 hmid hadv2 heq
      go_wp2_with (at_builtin
                   refine wpList_append_rows rfl _ _ 45 rfl CB 90 i0 (.agg #[.int .i64 0, .int .i64 0, .int .i64 0]) 3 24 Try.underlying45 HIN.out.1 HIN.out.2.1 HIN.out.2.2.1 HIN.out.2.2.2 rfl (by decide) (.slice ac T.length cc) T.length (cells3 sa T) rfl C6.out (.slice va xs.length vc) xs.length wr.heap.size (cells3 sa xs) rfl RW6.out ONE.out (by unfold maxLen; omega) (by omega) (by omega) ?_
                   intro v' w7 hown' hgrow
                   obtain ⟨ac', cc', rfl⟩ := ownsRow_shape hown'
                   have HO := hide hown'
                   have HG := hide hgrow
                   clear hown' hgrow)
      have kg : Keep (fun k => CB ≤ k) w6 w7 := Keep.grown HG.out fun k e => (C6.out.lt k e).1
      have hz7 : w6.heap.size ≤ w7.heap.size := kg.size
      refine ⟨⟨i + 1, at_ + pq, cur.adv (at_ + pq), T ++ xs, ac', cc', ?_, ?_, ?_, by omega, hto2, by omega, by rw [List.length_append]; exact hxl, HMI.out, rfl, H6.out.stay kg (fun k _ e1 e2 => by have := (HSA.out k e1).2; omega), B6.out.stay kg (fun k _ e1 e2 => by have := (HSB.out k e1).2; omega), D6.out.stay kg (fun k _ e1 e2 => by have := (HSC.out k e1).2; omega), by rw [List.length_append, cells3_append]; exact HO.out, by omega, K6.out.more (kg.mono fun k e => by show w.heap.size ≤ k; omega)⟩, by simp [intOf] <;> omega⟩
      all_goals first | (rw [List.length_append]; done) | (congr 1; omega) | (congr 1; done) | rfl
    · obtain rfl : i = n2 := by omega
      have AD := hide (adv_any at_ wr HI.out.2.2.1 (by rw [HI.out.2.1]; exact Nat.le_refl _) hat hlast hTy.out)
      have hcmp : ¬ i < i := Nat.lt_irrefl _
      clear hlast
      go_wp2_with fail
      clear hcmp
      go_at_call 30
      refine AD.out.mono ?_
      clear AD
      rintro e w6 ⟨xs, v, rfl, hadv, h6, hrow, k6⟩
      obtain ⟨va, vc, rfl⟩ := ownsRow_shape hrow
      obtain ⟨hmid, hadv2, heq⟩ := HI.out.1.cut (Nat.le_refl _) hat hadv
      have hxl : T.length + xs.length ≤ n1 := by
        have e1 := hadv2.len HXA5.out.1
        rw [HFA.out.len, hD.out, List.length_append] at e1
        omega
      rw [heq] at h6
      have H6 := hide h6
      have HA2 := hide hadv2
      have RW6 : Hid (w6.ownsRow wr.heap.size 90 3 (.slice va xs.length vc) xs.length (cells3 sa xs)) := by
        have e : cells3 cur xs = cells3 sa xs := cells3_congr fun id _ => by rw [HI.out.1.eqD, HI.out.1.eqW]; exact ⟨rfl, rfl⟩
        rw [← e]; exact hrow
      have C6 := hide (ownsRow_far HI.out.2.2.2.2.2.1 k6 (fun k e1 e2 => by have := (HSA.out k e2).2; omega))
      have B6 := hide (HI.out.2.2.2.1.stay k6 (fun k _ e1 e2 => hnAB.out k (HSB.out k e1).1 e2))
      have D6 := hide (HI.out.2.2.2.2.1.stay k6 (fun k _ e1 e2 => hnAB.out k (Nat.le_trans hs34 (HSC.out k e1).1) e2))
      have K6 := hide (HI.out.2.2.2.2.2.2.2.more (k6.mono fun k e => (HSA.out k e).1))
      have hz6 : wr.heap.size ≤ w6.heap.size := k6.size
      have ONE := hide (cells3_one (s := sa) (l := xs) fun id hid => HFA.out.typed id ((hadv2.mem id).1 (List.mem_append.2 (.inr hid))).1)
      obtain ⟨m2, hm2⟩ : ∃ m2, m2 = T.length + xs.length := ⟨_, rfl⟩
      have HM2 := hide hm2
      have hm3 : m2 ≤ n1 := by omega
      clear hadv h6 hrow k6 hmid hadv2 heq hm2
      go_wp2_with (at_builtin
                   refine wpList_append_rows rfl _ _ 45 rfl CB 90 i0 (.agg #[.int .i64 0, .int .i64 0, .int .i64 0]) 3 24 Try.underlying45 HIN.out.1 HIN.out.2.1 HIN.out.2.2.1 HIN.out.2.2.2 rfl (by decide) (.slice ac T.length cc) T.length (cells3 sa T) rfl C6.out (.slice va xs.length vc) xs.length wr.heap.size (cells3 sa xs) rfl RW6.out ONE.out (by unfold maxLen; omega) (by omega) (by omega) ?_
                   intro v' w7 hown' hgrow
                   rw [← HM2.out] at hown'
                   obtain ⟨ac', cc', rfl⟩ := ownsRow_shape hown'
                   have HO := hide hown'
                   have HG := hide hgrow
                   clear hown' hgrow)
      go_at_call 30
      have kg : Keep (fun k => CB ≤ k) w6 w7 := Keep.grown HG.out fun k e => (C6.out.lt k e).1
      have hz7 : w6.heap.size ≤ w7.heap.size := kg.size
      have A7 := hide (H6.out.stay kg (fun k _ e1 e2 => by have := (HSA.out k e1).2; omega))
      have B7 := hide (B6.out.stay kg (fun k _ e1 e2 => by have := (HSB.out k e1).2; omega))
      have D7 := hide (D6.out.stay kg (fun k _ e1 e2 => by have := (HSC.out k e1).2; omega))
      have K7 := hide (K6.out.more (kg.mono fun k e => by show w.heap.size ≤ k; omega))
      clear kg HG C6 RW6 H6 B6 D6 K6 ONE HI
      refine (adv_any at_ w7 B7.out (by rw [HFB.out.now_]; exact hnat) hat (by rw [HFB.out.last, hD.out]; omega) HFB.out.typed).mono ?_
      rintro e w8 ⟨ys, v, rfl, hadv, h8, hrow, k8⟩
      obtain ⟨vb, vd, rfl⟩ := ownsRow_shape hrow
      have hys : T ++ xs = ys := (HFA.out.same HFB.out).list HA2.out hadv
      have hyl : ys.length = m2 := by rw [← hys, List.length_append, HM2.out]
      have HYS : Hid (Adv sa at_ ys) := by show Adv _ _ _; rw [← hys]; exact HA2.out
      have HYL := hide hyl
      have hz8 : w7.heap.size ≤ w8.heap.size := k8.size
      have RC : Hid (m2 ≠ 0 → ∃ g1 g2, ac' = some ⟨g1, 0, none⟩ ∧ vb = some ⟨g2, 0, none⟩ ∧ CB ≤ g1 ∧ CB ≤ g2 ∧ g1 < w8.heap.size ∧ g2 < w8.heap.size ∧ (∀ j u, (cells3 sa ys)[j]? = some u → w8.cell? ⟨g1, j, none⟩ = some u) ∧ (∀ j u, (cells3 sa ys)[j]? = some u → w8.cell? ⟨g2, j, none⟩ = some u)) := fun h0 => by
        have r1 := ownsRow_far HO.out k8 (fun k e1 e2 => by have := (HSB.out k e2).2; omega)
        obtain ⟨g1, e1, e2, e3, e4⟩ := row3_cells r1 h0
        rw [hyl] at hrow
        obtain ⟨g2, f1, f2, f3, f4⟩ := row3_cells hrow h0
        have c1 : cells3 sa T ++ cells3 sa xs = cells3 sa ys := by rw [← hys, cells3_append]
        have c2 : cells3 sb ys = cells3 sa ys := ((HFA.out.same HFB.out).cells (l := ys) fun id hid => ((HYS.out.mem id).1 hid).1).symm
        rw [c1] at e4
        rw [c2] at f4
        exact ⟨g1, g2, e1, f1, e2, by omega, e3, f3, e4, f4⟩
      have A8 := hide (A7.out.stay k8 (fun k _ e1 e2 => by have := (HSA.out k e1).2; have := (HSB.out k e2).1; omega))
      have B8' := hide h8
      have D8 := hide (D7.out.stay k8 (fun k _ e1 e2 => by have := (HSC.out k e1).1; have := (HSB.out k e2).2; omega))
      have K8 := hide (K7.out.more (k8.mono fun k e => by have := (HSB.out k e).1; show w.heap.size ≤ k; omega))
      have HYC : Hid (Adv sc at_ ys) := by
        refine ⟨HYS.out.ord.imp_of_mem fun {a b} hA hB hab => ?_, fun id => ?_⟩
        · have a1 := ((HFA.out.same HFC.out a).2 ((HYS.out.mem a).1 hA).1).1
          have b1 := ((HFA.out.same HFC.out b).2 ((HYS.out.mem b).1 hB).1).1
          unfold St.bef at hab ⊢
          rw [← a1, ← b1]
          exact hab
        · rw [HYS.out.mem, ← (HFA.out.same HFC.out id).1]
          exact ⟨fun ⟨x, y⟩ => ⟨x, by rw [← ((HFA.out.same HFC.out id).2 x).1]; exact y⟩, fun ⟨x, y⟩ => ⟨x, by rw [((HFA.out.same HFC.out id).2 x).1]; exact y⟩⟩
      have MS2 := hide (Mid.start D8.out.1 (to := at_) (by rw [HFC.out.now_]; exact hnat))
      rw [hyl]
      clear hadv h8 hrow k8 hys hyl HO A7 B7 D7 K7 HA2 hxl HM2
      go_wp2_with fail
      go_loopw [20] (fun iv wx => ∃ (i : Nat) (ms : St), iv = .int .i64 (i : Nat) ∧ i ≤ m2 ∧ Hid (Mid sc at_ (ys.take i) ms ∧ WAt 120 122 Sc wx PC ms ∧ Keep (fun k => Sc k) w8 wx)) (fun iv _ => m2 - (intOf iv).toNat)
      case atStart => exact ⟨0, sc, rfl, Nat.zero_le _, MS2.out, D8.out, Keep.refl _ _⟩
      case round =>
        obtain ⟨k, ms, rfl, hk, HJ⟩ := hrel
        have NX := hide (nextI at_ wr HJ.out.2.1 HJ.out.1.le hat (by rw [HJ.out.1.eqL, HFC.out.last, hD.out]; omega) (fun id hid => by
          rw [HJ.out.1.ids] at hid
          rw [HJ.out.1.eqW]
          exact HFC.out.typed id (List.mem_filter.1 hid).1))
        have hz9 : w8.heap.size ≤ wr.heap.size := HJ.out.2.2.size
        rcases Nat.lt_or_ge k m2 with hlt | hge
        · obtain ⟨g1, g2, rfl, rfl, hg1, hg2, hg3, hg4, hgc1, hgc2⟩ := RC.out (by omega)
          have hky : k < ys.length := by rw [HYL.out]; exact hlt
          go_wp2_with fail
          go_at_call 31
          refine NX.out.mono ?_
          clear NX
          rintro e w9 ⟨k9, hn⟩
          rcases hn with ⟨s', rfl, hnn, _⟩ | ⟨id, s', rfl, hns, h9⟩
          · exact (HJ.out.1.more HYC.out hky hnn).elim
          have hid := HJ.out.1.here HYC.out hky hns
          have hmem : id ∈ sc.ids := by have := hns.1; rw [HJ.out.1.ids] at this; exact (List.mem_filter.1 this).1
          obtain ⟨yy, hyy⟩ := HFC.out.typed id hmem
          have hsm := (HFA.out.same HFC.out id).2 ((HFA.out.same HFC.out id).1.2 hmem)
          obtain ⟨q0, q1, q2⟩ := cells3_at sa ys k hky
          rw [← hid] at q0 q1 q2
          rw [hsm.2, hyy] at q2
          rw [hsm.1] at q1
          rw [HJ.out.1.eqW, hyy, HJ.out.1.eqD]
          have hnow' : s'.now = sc.due id := by rw [hns.2.2.2]; show ms.due id = _; rw [HJ.out.1.eqD]
          have hmid' := HJ.out.1.some hns h9.1
          have HMD : Hid (Mid sc at_ (ys.take (k + 1)) s') := by show Mid _ _ _ _; rw [take_step hky, ← hid]; exact hmid'
          have K9 := hide (HJ.out.2.2.more k9)
          have hnc : Hid (∀ g, CB ≤ g → ¬ Sc g) := fun g e e2 => by have := (HSC.out g e2).2; omega
          have p0 := K9.out.cell (hgc1 _ _ q0) (hnc.out _ hg1)
          have p1 := K9.out.cell (hgc1 _ _ q1) (hnc.out _ hg1)
          have p2 := K9.out.cell (hgc1 _ _ q2) (hnc.out _ hg1)
          have r0 := K9.out.cell (hgc2 _ _ q0) (hnc.out _ hg2)
          have r1 := K9.out.cell (hgc2 _ _ q1) (hnc.out _ hg2)
          have r2 := K9.out.cell (hgc2 _ _ q2) (hnc.out _ hg2)
          rw [Nat.mul_comm 3 k] at p0 p1 p2 r0 r1 r2
          have H9 := hide h9
          have hzz : wr.heap.size ≤ w9.heap.size := k9.size
          have hdd : sc.due id ≤ 4611686018427387904 := by have := (HXC.out.1.inn id hmem).2.2.2; exact this
          have HNW := hide hnow'
          generalize sc.due id = dd at *
          clear k9 hns h9 hmem hyy hsm q0 q1 q2 hgc1 hgc2 hid hnow' hmid'
          go_wp2_with fail
          obtain ⟨Wt, hWt⟩ : ∃ Wt, Wt = w9.alloc (.cells #[.int .i64 (id : Nat), .int .i64 (dd : Nat), .int .i64 yy] 90) := ⟨_, rfl⟩
          rw [← hWt]
          have kt : Keep (fun _ => False) w9 Wt := by rw [hWt]; exact Keep.alloc _ _ _
          have bt : Wt.heap[w9.heap.size]? = some (.cells #[.int .i64 (id : Nat), .int .i64 (dd : Nat), .int .i64 yy] 90 (0, 0)) := by rw [hWt]; exact heap_alloc_new _ _
          have t0 := cell_blk bt 0 rfl
          have t1 := cell_blk bt 1 rfl
          have t2 := cell_blk bt 2 rfl
          have u0 := kt.cell p0 fun f => f
          have u1 := kt.cell p1 fun f => f
          have u2 := kt.cell p2 fun f => f
          have v0 := kt.cell r0 fun f => f
          have v1 := kt.cell r1 fun f => f
          have v2 := kt.cell r2 fun f => f
          have HT := hide (H9.out.new kt)
          have KT := hide (K9.out.more (kt.mono fun _ e => e.elim))
          have NW : Hid (∀ j, Calls Try.prog 32 #[.pointer (some ⟨PC, 0, none⟩)] (Wt.drewN j) fun e w' => e = .returned (.int .i64 (dd : Nat)) ∧ w' = Wt.drewN j) := fun j => by
            rw [← HNW.out]
            obtain ⟨_, m, att, hw⟩ := HT.out
            exact nowI _ (hw.stay (Keep.ofBelow (S := fun _ => False) (B := Wt.heap.size) ⟨rfl, rfl, rfl, Nat.le_refl _, fun _ _ => rfl⟩ (Nat.le_refl _)) (fun _ _ _ h => h) HT.out.1.rows1.sub)
          clear hWt p0 p1 p2 r0 r1 r2 bt kt
          go_quiet ((go_at_call 32; exact (NW.out _).mono (fun _ _ h => ⟨h.1, ⟨_, h.2⟩⟩)))
          have kd : Keep (fun _ => False) Wt (Wt.drewN nq) := ⟨rfl, rfl, rfl, Nat.le_refl _, fun _ _ _ => rfl⟩
          have HDD := hide (HT.out.new kd)
          have KD := hide (KT.out.more (kd.mono fun _ e => e.elim))
          clear kd
          go_wp2_with fail
          refine ⟨⟨k + 1, s', ?_, by omega, HMD.out, HDD.out, KD.out⟩, by simp [intOf] <;> omega⟩
          all_goals first | (congr 1; omega) | (congr 1; done) | rfl
        · obtain rfl : k = m2 := by omega
          have hyt : ys.take k = ys := by rw [← HYL.out, List.take_length]
          have HML : Hid (Mid sc at_ ys ms) := by have := HJ.out.1; rw [hyt] at this; exact this
          have hcmp2 : ¬ k < k := Nat.lt_irrefl _
          clear hyt
          go_wp2_with fail
          clear hcmp2
          go_at_call 31
          refine NX.out.mono ?_
          clear NX
          rintro e w9 ⟨k9, hn⟩
          rcases hn with ⟨s', rfl, hnn, h9⟩ | ⟨id, s', rfl, hns, _⟩
          rotate_left
          · exact (HML.out.over HYC.out hns).elim
          rw [(HML.out.none hnn).2] at h9
          have D9 := hide h9
          have k89 := HJ.out.2.2.more k9
          have A9 := hide (A8.out.stay k89 (fun q _ e1 e2 => by have := (HSA.out q e1).2; have := (HSC.out q e2).1; omega))
          have B9 := hide (B8'.out.stay k89 (fun q _ e1 e2 => by have := (HSB.out q e1).2; have := (HSC.out q e2).1; omega))
          have K9 := hide (K8.out.more (k89.mono fun q e => by have := (HSC.out q e).1; show w.heap.size ≤ q; omega))
          have SAB := hide ((HFA.out.same HFB.out).adv at_)
          have SAC := hide ((HFA.out.same HFC.out).adv at_)
          have TA : Hid (∀ id ∈ (sa.adv at_).ids, ∃ y1, (sa.adv at_).what id = .int .i64 y1) := fun id hid => HFA.out.typed id (List.mem_filter.1 hid).1
          have TB : Hid (∀ id ∈ (sb.adv at_).ids, ∃ y1, (sb.adv at_).what id = .int .i64 y1) := fun id hid => HFB.out.typed id (List.mem_filter.1 hid).1
          have TC : Hid (∀ id ∈ (sc.adv at_).ids, ∃ y1, (sc.adv at_).what id = .int .i64 y1) := fun id hid => HFC.out.typed id (List.mem_filter.1 hid).1
          have LA : Hid ((sa.adv at_).last < 1048580 ∧ (sb.adv at_).last < 1048580 ∧ (sc.adv at_).last < 1048580) := by
            show sa.last < _ ∧ sb.last < _ ∧ sc.last < _
            rw [HFA.out.last, HFB.out.last, HFC.out.last, hD.out]; omega
          have LE : Hid ((sa.adv at_).ids.length ≤ n1) := by
            show (sa.ids.filter _).length ≤ n1
            refine Nat.le_trans (List.length_filter_le _ _) ?_
            rw [HFA.out.len, hD.out]; exact Nat.le_refl _
          have NA : Hid (((sa.adv at_).now = at_) ∧ ((sb.adv at_).now = at_) ∧ ((sc.adv at_).now = at_)) := ⟨rfl, rfl, rfl⟩
          clear hnn h9 k9 k89 A8 B8' D8 K8 HJ HML RC MS2 HYC HYS
          generalize sa.adv at_ = za at *
          generalize sb.adv at_ = zb at *
          generalize sc.adv at_ = zc at *
          go_wp2_with fail
          go_at_call 15
          obtain ⟨Wt, hWt⟩ : ∃ Wt, Wt = w9.alloc (.cells #[.int .i64 0, .int .i64 0, .int .i64 0] 90) := ⟨_, rfl⟩
          rw [← hWt]
          have kt : Keep (fun _ => False) w9 Wt := by rw [hWt]; exact Keep.alloc _ _ _
          have bt : Wt.heap[w9.heap.size]? = some (.cells #[.int .i64 0, .int .i64 0, .int .i64 0] 90 (0, 0)) := by rw [hWt]; exact heap_alloc_new _ _
          have BT := hide bt
          have AT := hide (A9.out.new kt)
          have BB := hide (B9.out.new kt)
          have DT := hide (D9.out.new kt)
          have KT := hide (K9.out.more (kt.mono fun _ e => e.elim))
          clear hWt kt bt A9 B9 D9 K9
          refine (all_any Wt AT.out LA.out.1 TA.out).mono ?_
          rintro e w11 ⟨Ba, xa, v, rfl, hadva, hb, hrow, _, k11⟩
          obtain ⟨hm, hyl⟩ := hadva.all AT.out.1
          have hxa : xa.length ≤ n1 := by rw [hyl]; exact LE.out
          have LS := hide (listed_any w11 hb hrow (fun x hx => TA.out x ((hm x).1 hx)) (by omega))
          have HAV := hide hadva
          have HXM : Hid (∀ id ∈ xa, id ∈ za.ids) := fun id hid => (hm id).1 hid
          have K11 := hide k11
          clear hb hrow k11 hm hyl hadva
          go_wp2_with fail
          go_at_call 14
          refine LS.out.mono ?_
          clear LS
          rintro e w12 ⟨aa, ca, rfl, hrowa, k12⟩
          have RA := hide hrowa
          have K12 := hide (K11.out.more k12)
          clear hrowa k12 K11
          go_wp2_with fail
          go_at_call 15
          refine (all_any w12 (BB.out.new K12.out) LA.out.2.1 TB.out).mono ?_
          rintro e w13 ⟨Bb, xb, v, rfl, hadvb, hb, hrow, _, k13⟩
          obtain rfl : xa = xb := SAB.out.list HAV.out hadvb
          have LS := hide (listed_any w13 hb hrow (fun x hx => TB.out x ((SAB.out x).1.1 (HXM.out x hx))) (by omega))
          have K13 := hide k13
          clear hb hrow k13 hadvb
          go_wp2_with fail
          go_at_call 14
          refine LS.out.mono ?_
          clear LS
          rintro e w14 ⟨ab, cb, rfl, hrowb, k14⟩
          have RB := hide hrowb
          have K14 := hide (K13.out.more k14)
          clear hrowb k14 K13
          go_wp2_with fail
          go_at_call 15
          refine (all_any w14 ((DT.out.new K12.out).new K14.out) LA.out.2.2 TC.out).mono ?_
          rintro e w15 ⟨Bc, xc, v, rfl, hadvc, hb, hrow, _, k15⟩
          obtain rfl : xa = xc := SAC.out.list HAV.out hadvc
          have LS := hide (listed_any w15 hb hrow (fun x hx => TC.out x ((SAC.out x).1.1 (HXM.out x hx))) (by omega))
          have K15 := hide k15
          clear hb hrow k15 hadvc
          go_wp2_with fail
          go_at_call 14
          refine LS.out.mono ?_
          clear LS
          rintro e w16 ⟨ad, cd, rfl, hrowc, k16⟩
          have K16 := hide (K15.out.more k16)
          have KALL := hide ((K12.out.more K14.out).more K16.out)
          have R3 : Hid (xa.length ≠ 0 → ∃ g1 g2 g3, aa = some ⟨g1, 0, none⟩ ∧ ab = some ⟨g2, 0, none⟩ ∧ ad = some ⟨g3, 0, none⟩ ∧ ∀ j u, (cells3 za xa)[j]? = some u → w16.cell? ⟨g1, j, none⟩ = some u ∧ w16.cell? ⟨g2, j, none⟩ = some u ∧ w16.cell? ⟨g3, j, none⟩ = some u) := fun h0 => by
            obtain ⟨g1, e1, _, _, e4⟩ := row3_cells RA.out h0
            obtain ⟨g2, f1, _, _, f4⟩ := row3_cells RB.out h0
            obtain ⟨g3, d1, _, _, d4⟩ := row3_cells hrowc h0
            rw [← SAB.out.cells HXM.out] at f4
            rw [← SAC.out.cells HXM.out] at d4
            exact ⟨g1, g2, g3, e1, f1, d1, fun j u hu => ⟨(K14.out.more K16.out).cell (e4 j u hu) fun f => f, K16.out.cell (f4 j u hu) fun f => f, d4 j u hu⟩⟩
          have A16 := hide (AT.out.new KALL.out)
          have B16 := hide (BB.out.new KALL.out)
          have D16 := hide (DT.out.new KALL.out)
          have KW := hide (KT.out.more (KALL.out.mono fun _ e => e.elim))
          have bt := KALL.out.blk BT.out fun f => f
          have t0 := cell_blk bt 0 (v := .int .i64 0) rfl
          have t1 := cell_blk bt 1 (v := .int .i64 0) rfl
          have t2 := cell_blk bt 2 (v := .int .i64 0) rfl
          clear hrowc k16 K15 K16 K14 K12 KALL RA RB AT BB DT KT bt BT
          go_wp2_with fail
          go_at_call 32
          obtain ⟨hok, m, att, hw⟩ := A16.out
          refine (nowI _ hw).mono ?_
          rintro e wl ⟨rfl, hwl⟩
          rw [hwl, NA.out.1]
          clear hwl wl hw hok m att
          go_wp2_with fail
          go_at_call 32
          obtain ⟨hok, m, att, hw⟩ := B16.out
          refine (nowI _ hw).mono ?_
          rintro e wl ⟨rfl, hwl⟩
          rw [hwl, NA.out.2.1]
          clear hwl wl hw hok m att
          go_wp2_with fail
          go_at_call 32
          obtain ⟨hok, m, att, hw⟩ := D16.out
          refine (nowI _ hw).mono ?_
          rintro e wl ⟨rfl, hwl⟩
          rw [hwl, NA.out.2.2]
          clear hwl wl hw hok m att
          go_wp2_with fail
          go_loopw [31] (fun iv wx => ∃ j : Nat, iv = .int .i64 (j : Nat) ∧ j ≤ xa.length ∧ Hid (Keep (fun _ => False) w16 wx)) (fun iv _ => xa.length - (intOf iv).toNat)
          case atStart => exact ⟨0, rfl, Nat.zero_le _, Keep.refl _ _⟩
          case round =>
            obtain ⟨j, rfl, hj, HJ⟩ := hrel
            rcases Nat.lt_or_ge j xa.length with hjl | hjl
            · obtain ⟨g1, g2, g3, rfl, rfl, rfl, hgc⟩ := R3.out (by omega)
              obtain ⟨q0, q1, q2⟩ := cells3_at za xa j hjl
              obtain ⟨yy, hyy⟩ := TA.out (xa.getD j 0) (HXM.out _ (by rw [List.getD_eq_getElem?_getD, List.getElem?_eq_getElem hjl]; exact List.getElem_mem hjl))
              rw [hyy] at q2
              obtain ⟨p0, p1, p2⟩ := hgc _ _ q0
              obtain ⟨r0, r1, r2⟩ := hgc _ _ q1
              obtain ⟨s0, s1, s2⟩ := hgc _ _ q2
              have u0 := HJ.out.cell p0 fun f => f
              have u1 := HJ.out.cell r0 fun f => f
              have u2 := HJ.out.cell s0 fun f => f
              have v0 := HJ.out.cell p1 fun f => f
              have v1 := HJ.out.cell r1 fun f => f
              have v2 := HJ.out.cell s1 fun f => f
              have x0' := HJ.out.cell p2 fun f => f
              have x1' := HJ.out.cell r2 fun f => f
              have x2' := HJ.out.cell s2 fun f => f
              rw [Nat.mul_comm 3 j] at u0 u1 u2 v0 v1 v2 x0' x1' x2'
              clear q0 q1 q2 p0 p1 p2 r0 r1 r2 s0 s1 s2 hgc hyy t0 t1 t2
              generalize za.due (xa.getD j 0) = dd at *
              generalize xa.getD j 0 = id at *
              go_wp2_with fail
              go_quiet (fail)
              have kd : Hid (Keep (fun _ => False) w16 (wr.drewN nq)) := HJ.out.more ⟨rfl, rfl, rfl, Nat.le_refl _, fun _ _ _ => rfl⟩
              go_wp2_with fail
              refine ⟨⟨j + 1, ?_, by omega, kd.out⟩, by simp [intOf] <;> omega⟩
              all_goals first | (congr 1; omega) | (congr 1; done) | rfl
            · obtain rfl : j = xa.length := by omega
              have hcmp3 : ¬ xa.length < xa.length := Nat.lt_irrefl _
              have KE := hide (KW.out.more (HJ.out.mono fun _ e => e.elim))
              go_wp2_with fail
              go_ret
              exact ⟨rfl, KE.out.below (Nat.le_refl _) fun i e => e⟩

end Wh
end Go.Proofs.Ytimokmocpkcnhaa
