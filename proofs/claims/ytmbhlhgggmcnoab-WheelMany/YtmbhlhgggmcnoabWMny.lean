/- WheelMany: the walk. -/
import Derived.Test.YtmbhlhgggmcnoabWMnM
import Derived.Deep.QuietTactic
namespace Go.Proofs.Ytmbhlhgggmcnoab
namespace Wh
open Go.RowKit

theorem Keep.mono' {S : Nat → Prop} {a b : World} {B : Nat} (h : Keep S a b) (hS : ∀ k, S k → B ≤ k) : Keep (fun k => B ≤ k) a b := h.mono hS

set_option maxRecDepth 100000 in
set_option maxHeartbeats 8000000 in
theorem many_walk (x0 x1 x2 : Int) (w : World) (a1 : -9223372036854775808 ≤ x0) (a2 : x0 ≤ 9223372036854775807) (b1 : -9223372036854775808 ≤ x1) (b2 : x1 ≤ 9223372036854775807) (c1 : -9223372036854775808 ≤ x2) (c2 : x2 ≤ 9223372036854775807) :
    Calls Try.prog 3 #[.int .i64 x0, .int .i64 x1, .int .i64 x2] w fun e w' => e = .returned (.bool true) ∧ Below w.heap.size w w' := by
  obtain ⟨n, hn, hn2⟩ : ∃ n : Nat, pickV x0 4000 = (n : Int) ∧ n < 4000 := ⟨(pickV x0 4000).toNat, by have := pickV_in x0 4000 (by omega); omega, by have := pickV_in x0 4000 (by omega); omega⟩
  obtain ⟨d0, hd, hd2⟩ : ∃ n : Nat, pickV x1 4611686018427387904 = (n : Int) ∧ n < 4611686018427387904 := ⟨(pickV x1 4611686018427387904).toNat, by have := pickV_in x1 4611686018427387904 (by omega); omega, by have := pickV_in x1 4611686018427387904 (by omega); omega⟩
  obtain ⟨by_, hb, hb2⟩ : ∃ n : Nat, pickV x2 4611686018427387904 = (n : Int) ∧ n < 4611686018427387904 := ⟨(pickV x2 4611686018427387904).toNat, by have := pickV_in x2 4611686018427387904 (by omega); omega, by have := pickV_in x2 4611686018427387904 (by omega); omega⟩
  have P1 : Hid (∀ w, Calls Try.prog 7 #[.int .i64 x0, .int .i64 4000] w fun e w' => e = .returned (.int .i64 (n : Nat)) ∧ w' = w) := fun w => by rw [← hn]; exact pick_any x0 4000 a1 a2 (by omega) (by omega) w
  have P2 : Hid (∀ w, Calls Try.prog 7 #[.int .i64 x1, .int .i64 4611686018427387904] w fun e w' => e = .returned (.int .i64 (d0 : Nat)) ∧ w' = w) := fun w => by rw [← hd]; exact pick_any x1 4611686018427387904 b1 b2 (by omega) (by omega) w
  have P3 : Hid (∀ w, Calls Try.prog 7 #[.int .i64 x2, .int .i64 4611686018427387904] w fun e w' => e = .returned (.int .i64 (by_ : Nat)) ∧ w' = w) := fun w => by rw [← hb]; exact pick_any x2 4611686018427387904 c1 c2 (by omega) (by omega) w
  clear hn hd hb a1 a2 b1 b2 c1 c2
  go_enter Try.func3, Try.ntmps3
  go_wp2_with (first
    | (go_at_call 5; refine (awake_any _).mono ?_; rintro e w1 ⟨rfl, k1⟩; have K1 := hide k1; clear k1)
    | (go_at_call 6; refine (newI 0 _ (by decide)).mono ?_; rintro e w2 ⟨P, rfl, h2, k2⟩
       have H2 := hide (h2.mono (T := fun k => w.heap.size ≤ k) fun k e => Nat.le_trans K1.out.size e)
       have K2 := hide (K1.out.more k2)
       clear h2 k2))
  go_at_call 7
  refine (P1.out _).mono ?_
  rintro e w' ⟨rfl, rfl⟩
  go_wp2_with fail
  go_at_call 7
  refine (P2.out _).mono ?_
  rintro e w' ⟨rfl, rfl⟩
  go_wp2_with fail
  go_at_call 7
  refine (P3.out _).mono ?_
  rintro e w' ⟨rfl, rfl⟩
  clear P1 P2 P3
  go_wp2_with fail
  go_loopw [10, 11] (fun dv iv wr => ∃ (dn ii : Nat) (st : St), dv = .int .i64 (dn : Nat) ∧ iv = .int .i64 (ii : Nat) ∧ dn < 4611686018427387904 ∧ ii ≤ n ∧ Hid (Many ii st ∧ st.now = 0 ∧ WAt 66 69 (fun k => w.heap.size ≤ k) wr P st ∧ Keep (fun k => w.heap.size ≤ k) w wr)) (fun _ iv _ => n - (intOf iv).toNat)
  case atStart => exact ⟨d0, 0, fresh 0, rfl, rfl, hd2, Nat.zero_le _, many_fresh, rfl, H2.out, K2.out.mono fun _ e => e.elim⟩
  case round =>
    obtain ⟨dn, ii, st, rfl, rfl, hdn, hii, HI⟩ := hrel
    have hlast : st.last = ii := HI.out.1.last
    rcases Nat.lt_or_ge ii n with hlt | hlt
    · have SC := hide (schedI dn (.int .i64 (ii : Nat)) ⟨_, rfl⟩ wr HI.out.2.2.1 (by rw [HI.out.2.1]; exact Nat.zero_le _) (by unfold M; omega) (by omega))
      rw [hlast] at SC
      by_cases hpar : ii % 2 = 1
      · have hr1 : (ii : Int).tmod 2 = 1 := by rw [Int.tmod_eq_emod_of_nonneg (by omega)]; omega
        go_wp2_with fail
        go_at_call 8
        refine SC.out.mono ?_
        rintro e w3 ⟨rfl, h3, k3⟩
        have H3 := hide (h3.mono (T := fun k => w.heap.size ≤ k) fun k e => e.elim (fun x => x) fun e => Nat.le_trans HI.out.2.2.2.size e)
        have K3 := hide (HI.out.2.2.2.more k3)
        have MA := hide (HI.out.1.addDel HI.out.2.2.1.1 hpar H3.out.1)
        clear h3 k3 SC
        go_wp2_with fail
        go_at_call 9
        refine (cancelI ii _ H3.out (by omega) (by show st.last + 1 < 2 ^ 62; omega)).mono ?_
        rintro e w4 ⟨k4, ⟨_, rfl, h4⟩ | ⟨hm, _⟩⟩
        · have H4 := hide h4
          have K4 := hide (K3.out.more k4)
          clear h4 k4
          go_wp2_with fail
          refine ⟨⟨(dn + by_) % 4611686018427387904, ii + 1, _, ?_, by congr 1, Nat.mod_lt _ (by omega), by omega, MA.out.2, HI.out.2.1, H4.out, K4.out⟩, by simp [intOf]; omega⟩
          congr 1
        · exact absurd MA.out.1 hm
      · have hr1 : (ii : Int).tmod 2 = 0 := by rw [Int.tmod_eq_emod_of_nonneg (by omega)]; omega
        go_wp2_with fail
        go_at_call 8
        refine SC.out.mono ?_
        rintro e w3 ⟨rfl, h3, k3⟩
        have H3 := hide (h3.mono (T := fun k => w.heap.size ≤ k) fun k e => e.elim (fun x => x) fun e => Nat.le_trans HI.out.2.2.2.size e)
        have K3 := hide (HI.out.2.2.2.more k3)
        have MA := hide (HI.out.1.add HI.out.2.2.1.1 (by omega) dn)
        clear h3 k3 SC
        go_wp2_with fail
        refine ⟨⟨(dn + by_) % 4611686018427387904, ii + 1, _, ?_, by congr 1, Nat.mod_lt _ (by omega), by omega, MA.out, HI.out.2.1, H3.out, K3.out⟩, by simp [intOf]; omega⟩
        congr 1
    · obtain rfl : ii = n := by omega
      obtain ⟨S1, hS1, hSl, hSs⟩ := HI.out.2.2.1.exact
      have HS := hide (And.intro hS1 (And.intro hSl hSs))
      have hq : (ii : Int).tdiv 2 = ((ii / 2 : Nat) : Int) := by rw [Int.tdiv_eq_ediv_of_nonneg (by omega)]; omega
      obtain ⟨lf, hlf⟩ : ∃ lf : Nat, lf = ii - ii / 2 := ⟨_, rfl⟩
      have hE : (ii : Int) - (ii : Int) / 2 = (lf : Int) := by omega
      have hlen : Hid (st.ids.length = lf) := by show _ = _; rw [HI.out.1.len, hlf]
      clear hS1 hSl hSs
      go_wp2_with fail
      go_at_call 10
      obtain ⟨hok, m, at_, hw⟩ := HS.out.1
      refine (lenI _ hw hok).mono ?_
      rw [hlen.out]
      rintro e wl ⟨rfl, hwl⟩
      rw [hwl]
      clear hw hok hq hlf hwl wl
      go_wp2_with fail
      obtain ⟨W5, hW5⟩ : ∃ W5, W5 = wr.alloc (.cells #[.int .i64 0, .int .i64 0, .int .i64 0] 33) := ⟨_, rfl⟩
      rw [← hW5]
      have HA := hide (show WAt 66 69 S1 W5 P st by rw [hW5]; exact HS.out.1.new (Keep.alloc _ _ _))
      have HB := hide (show W5.heap[wr.heap.size]? = some (.cells #[.int .i64 0, .int .i64 0, .int .i64 0] 33 (0, 0)) by rw [hW5]; exact heap_alloc_new _ _)
      have HK := hide (show Keep (fun k => w.heap.size ≤ k) w W5 by rw [hW5]; exact HI.out.2.2.2.more (Keep.alloc _ _ _))
      have hlo : w.heap.size ≤ wr.heap.size := HI.out.2.2.2.size
      have HSL : Hid (∀ k, S1 k → k < wr.heap.size ∧ w.heap.size ≤ k) := fun k e => ⟨HS.out.2.1 k e, HS.out.2.2 k e⟩
      have HL0 := hide (Left.start HI.out.1 HI.out.2.2.1.1)
      clear hW5 HS HI
      generalize wr.heap.size = LB at *
      go_loopw [17] (fun kv wx => ∃ (k lid ldue : Nat) (lw : Int) (s' : St), kv = .int .i64 (k : Nat) ∧ k ≤ lf ∧ s'.ids.length = lf - k ∧ s'.last = ii ∧ Hid (Left ii lid ldue s' ∧ WAt 66 69 S1 wx P s' ∧ wx.heap[LB]? = some (.cells #[.int .i64 (lid : Nat), .int .i64 (ldue : Nat), .int .i64 lw] 33 (0, 0)) ∧ Keep (fun k => w.heap.size ≤ k) w wx)) (fun kv _ => lf - (intOf kv).toNat)
      case atStart => exact ⟨0, 0, 0, 0, st, rfl, Nat.zero_le _, by rw [hlen.out]; rfl, hlast, HL0.out, HA.out, HB.out, HK.out⟩
      case round =>
        obtain ⟨k, lid, ldue, lw, s', rfl, hk, hsl, hsl2, HJ⟩ := hrel
        have NX : Hid (Calls Try.prog 11 #[.pointer (some ⟨P, 0, none⟩), .int .i64 4611686018427387904] wr (Nexts 66 69 (.int .i64 0) S1 wr P s' M)) := nextI M wr HJ.out.2.1 HJ.out.2.1.1.nowM (Nat.le_refl _) (by omega) (fun id hid => ⟨_, HJ.out.1.what id hid⟩)
        have hLBS : ¬ S1 LB := fun e => by have := (HSL.out LB e).1; omega
        rcases Nat.lt_or_ge k lf with hklt | hklt
        · go_wp2_with fail
          go_at_call 11
          refine NX.out.mono ?_
          rintro e w6 ⟨k6, ⟨s2, rfl, hno, _⟩ | ⟨id, s2, rfl, hso, h6⟩⟩
          · exfalso
            cases hids : s'.ids with
            | nil => rw [hids] at hsl; simp at hsl; omega
            | cons j t =>
              have h1 := hno.1 j (by rw [hids]; simp)
              have h2 := (HJ.out.2.1.1.inn j (by rw [hids]; simp)).2.2.2
              omega
          · have hidm := hso.1
            have hin := HJ.out.2.1.1.inn id hidm
            obtain ⟨t1, t2, t3⟩ := HJ.out.1.took HJ.out.2.1.1 hso
            have hbef := HJ.out.1.bef id hidm
            have hpar := HJ.out.1.par id hidm
            have hwh := HJ.out.1.what id hidm
            have hnow : s2.now = s'.due id := by rw [hso.2.2.2]; rfl
            rw [hwh]
            have R6 := hide (k6.blk HJ.out.2.2.1 hLBS)
            have hlt6 := (Array.getElem?_eq_some_iff.1 R6.out).1
            have r0 := cell_blk R6.out 0 (v := .int .i64 (lid : Nat)) rfl
            have r1 := cell_blk R6.out 1 (v := .int .i64 (ldue : Nat)) rfl
            have r2 := cell_blk R6.out 2 (v := .int .i64 lw) rfl
            have q0 := frozen_blk R6.out 0
            have q1 := frozen_blk R6.out 1
            have q2 := frozen_blk R6.out 2
            have K6 := hide (HJ.out.2.2.2.more (k6.mono fun k e => (HSL.out k e).2))
            have H6 := hide h6
            have T1 := hide t1
            clear k6 h6 t1 hso
            go_wp2_with fail
            obtain ⟨W7, hW7⟩ : ∃ W7, W7 = w6.alloc (.cells #[.int .i64 (id : Nat), .int .i64 (s'.due id : Nat), .int .i64 ((id : Int) - 1)] 33) := ⟨_, rfl⟩
            rw [← hW7]
            have k7 : Keep (fun _ => False) w6 W7 := by rw [hW7]; exact Keep.alloc _ _ _
            have B7 : Hid (W7.heap[w6.heap.size]? = some (.cells #[.int .i64 (id : Nat), .int .i64 (s'.due id : Nat), .int .i64 ((id : Int) - 1)] 33 (0, 0))) := by rw [hW7]; exact heap_alloc_new _ _
            have R7 := hide (k7.blk R6.out fun f => f)
            have K7 := hide (K6.out.more (k7.mono fun _ e => e.elim))
            have H7 := hide (H6.out.new k7)
            have t0 := cell_blk B7.out 0 (v := .int .i64 (id : Nat)) rfl
            have t1 := cell_blk B7.out 1 (v := .int .i64 (s'.due id : Nat)) rfl
            have t2 := cell_blk B7.out 2 (v := .int .i64 ((id : Int) - 1)) rfl
            have u0 := k7.cell r0 fun f => f
            have u1 := k7.cell r1 fun f => f
            have u2 := k7.cell r2 fun f => f
            have v0 := frozen_blk R7.out 0
            have v1 := frozen_blk R7.out 1
            have v2 := frozen_blk R7.out 2
            have NW : Hid (∀ j, Calls Try.prog 12 #[.pointer (some ⟨P, 0, none⟩)] (W7.drewN j) fun e w' => e = .returned (.int .i64 (s'.due id : Nat)) ∧ w' = W7.drewN j) := fun j => by
              rw [← hnow]
              obtain ⟨_, m, at_, hw⟩ := H7.out
              exact nowI _ (hw.stay (Keep.ofBelow (S := fun _ => False) (B := W7.heap.size) ⟨rfl, rfl, rfl, Nat.le_refl _, fun _ _ => rfl⟩ (Nat.le_refl _)) (fun _ _ _ h => h) H7.out.1.rows1.sub)
            have hd1 : ¬ ((s'.due id : Int) < (ldue : Int)) := by omega
            have hwp : wrap64 ((id : Int) - 1 + 1) = (id : Int) := by unfold wrap64; omega
            have hwp2 : IntKind.i64.wrap (id : Int) = (id : Int) := by rw [IntKind.wrap_i64]; omega
            have hr2 : (id : Int).tmod 2 = ((id % 2 : Nat) : Int) := by rw [Int.tmod_eq_emod_of_nonneg (by omega)]; omega
            clear hW7 k7 r0 r1 r2 q0 q1 q2
            have hTT : (ldue < s'.due id ∧ ¬ ((s'.due id : Int) = (ldue : Int))) ∨ (ldue = s'.due id ∧ ¬ ((id : Int) ≤ (lid : Int))) := by omega
            have hPP : ((id : Int).tmod 2 = 1 ∧ id = ii) ∨ ¬ ((id : Int).tmod 2 = 1) := by
              rw [hr2]
              by_cases hev : id % 2 = 1
              · exact .inl ⟨by omega, hpar hev⟩
              · exact .inr (by omega)
            have HEnd : Hid (∀ nq, Keep (fun k => k = LB) W7 ((((W7.drewN nq).setCell ⟨LB, 0, none⟩ (.int .i64 (id : Nat))).setCell ⟨LB, 1, none⟩ (.int .i64 (s'.due id : Nat))).setCell ⟨LB, 2, none⟩ (.int .i64 ((id : Int) - 1))) ∧ ((((W7.drewN nq).setCell ⟨LB, 0, none⟩ (.int .i64 (id : Nat))).setCell ⟨LB, 1, none⟩ (.int .i64 (s'.due id : Nat))).setCell ⟨LB, 2, none⟩ (.int .i64 ((id : Int) - 1))).heap[LB]? = some (.cells #[.int .i64 (id : Nat), .int .i64 (s'.due id : Nat), .int .i64 ((id : Int) - 1)] 33 (0, 0))) := fun nq =>
              ⟨(show Keep (fun k => k = LB) W7 (W7.drewN nq) from ⟨rfl, rfl, rfl, Nat.le_refl _, fun _ _ _ => rfl⟩).more (keep3 _ _ _ _ _), set3 (show (W7.drewN nq).heap[LB]? = _ from R7.out) _ _ _⟩
            clear hr2 hpar hbef hwh hnow
            rcases hTT with ⟨_, hdd⟩ | ⟨rfl, hid2⟩ <;> rcases hPP with ⟨hp1, rfl⟩ | hp1
            all_goals
              go_quiet ((go_at_call 12; exact (NW.out _).mono (fun _ _ h => ⟨h.1, ⟨_, h.2⟩⟩)))
              go_wp2_with fail
              refine ⟨⟨k + 1, by omega, by omega, id, s'.due id, (id : Int) - 1, s2, by omega, by omega, T1.out, H7.out.stay (HEnd.out nq).1 (fun j _ e1 e2 => hLBS (e2 ▸ e1)), (HEnd.out nq).2, K7.out.trans (HEnd.out nq).1 (fun j e => .inl (by rw [e]; exact hlo))⟩, by simp [intOf]; omega⟩
        · have hids : s'.ids = [] := List.eq_nil_of_length_eq_zero (by omega)
          have HIDS := hide hids
          clear hids
          go_wp2_with fail
          go_at_call 11
          refine NX.out.mono ?_
          rintro e w6 ⟨k6, ⟨s2, rfl, hno, h6⟩ | ⟨id, s2, rfl, hso, _⟩⟩
          · have K6 := hide (HJ.out.2.2.2.more (k6.mono fun k e => (HSL.out k e).2))
            have H6 := hide h6
            have hl6 : s2.ids.length = 0 := by rw [hno.2]; show s'.ids.length = 0; rw [HIDS.out]; rfl
            clear h6 k6 hno
            go_wp2_with fail
            go_at_call 10
            obtain ⟨hok, m, at_, hw⟩ := H6.out.new (Keep.alloc (fun _ => False) w6 (.cells #[.int .i64 0, .int .i64 0, .int .i64 0] 33))
            refine (lenI _ hw hok).mono ?_
            rw [hl6]
            rintro e wl ⟨rfl, hwl⟩
            rw [hwl]
            clear hw hwl wl
            go_wp2_with fail
            go_ret
            exact ⟨rfl, (K6.out.more (Keep.alloc _ _ _)).below (Nat.le_refl _) fun i e => e⟩
          · have := hso.1
            rw [HIDS.out] at this
            cases this

end Wh
end Go.Proofs.Ytmbhlhgggmcnoab
