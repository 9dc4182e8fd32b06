/- QueuePlays: the walk (begun). -/
import Derived.Test.YtdokpaljlpfcjaaQPlN
import Derived.Test.YtdokpaljlpfcjaaRLst
import Derived.BigQuiet
import Derived.Deep.CutRange
namespace Go.Proofs.Ytdokpaljlpfcjaa
namespace Qu
open Go.RowKit

set_option maxRecDepth 100000 in
set_option maxHeartbeats 8000000 in
theorem plays_walk (x y : Int) (a : Option Addr) (n cc : Nat) (l : List Sp) (W : World) (x1 : -9223372036854775808 ≤ x) (x2 : x ≤ 9223372036854775807) (y1 : -9223372036854775808 ≤ y) (y2 : y ≤ 9223372036854775807) (hl : RdQ W.heap.size W a n l) :
    Calls Try.prog 3 #[.int .i64 x, .int .i64 y, .slice a n cc] W fun e w' => e = .returned (.bool true) ∧ Below W.heap.size W w' := by
  have HKn := hide (known_any W)
  have HL := hide hl
  obtain ⟨c1, c1a, c1b, hc1⟩ := brought_val x x1 x2
  obtain ⟨c2, c2a, c2b, hc2⟩ := brought_val y y1 y2
  have HB1 := hide hc1
  have HB2 := hide hc2
  clear hl x1 x2 y1 y2 hc1 hc2
  go_enter Try.func3, Try.ntmps3
  go_wp2_with fail
  go_at_call 4
  refine HKn.out.mono ?_
  rintro e w1 ⟨rfl, k1⟩
  have K1 := hide k1
  clear k1 HKn
  go_upto_region 5 with (first
    | (go_at_call 6; refine (HB1.out _).mono ?_; rintro e w' ⟨rfl, hw⟩; have hw := hw.symm; subst hw)
    | (go_at_call 5; refine (newI c1 w1 c1a c1b).mono ?_; rintro e w2 ⟨P1, rfl, hq, hk⟩; have HQ1 := hide hq; have K2 := hide hk; clear hq hk))
  go_upto_region 6 with (first
    | (go_at_call 6; refine (HB2.out _).mono ?_; rintro e w' ⟨rfl, hw⟩; have hw := hw.symm; subst hw)
    | (go_at_call 5; refine (newI c2 w2 c2a c2b).mono ?_; rintro e w3 ⟨P2, rfl, hq, hk⟩; have HQ2 := hide hq; have K3 := hide hk; clear hq hk))
  go_upto_region 7 with (first
    | (go_at_call 6; refine (HB1.out _).mono ?_; rintro e w' ⟨rfl, hw⟩; have hw := hw.symm; subst hw)
    | (go_at_call 7; refine (refNew_any c1 w3 c1a c1b).mono ?_; rintro e w4 ⟨D1, rfl, hq, hk⟩; have HR1 := hide hq; have K4 := hide hk; clear hq hk))
  go_upto_region 8 with (first
    | (go_at_call 6; refine (HB2.out _).mono ?_; rintro e w' ⟨rfl, hw⟩; have hw := hw.symm; subst hw)
    | (go_at_call 7; refine (refNew_any c2 w4 c2a c2b).mono ?_; rintro e w5 ⟨D2, rfl, hq, hk⟩; have HR2 := hide hq; have K5 := hide hk; clear hq hk))
  go_wp2_with fail
  have HI0 : Hid (∃ s1 s2, PlI W w5.heap.size 24 29 P1 P2 D1 D2 0 s1 s2 _) := ⟨_, _, PlI.begin_ K1.out K2.out K3.out K4.out K5.out HQ1.out HQ2.out HR1.out HR2.out⟩
  have hfew : n ≤ 8796093022208 := by rw [HL.out.len]; exact HL.out.few
  clear K1 K2 K3 K4 K5 HQ1 HQ2 HR1 HR2 HB1 HB2
  go_loopw [18, 19, 20, 21] (fun iv _ _ _ wx => ∃ i : Nat, iv = .int .i64 (i : Nat) ∧ i ≤ n ∧ Hid (∃ s1 s2, PlI W w5.heap.size 24 29 P1 P2 D1 D2 i s1 s2 wx)) (fun iv _ _ _ _ => n - (intOf iv).toNat)
  case atStart => exact ⟨0, rfl, Nat.zero_le _, HI0.out⟩
  case round =>
    clear HI0
    obtain ⟨i, rfl, hi, HI⟩ := hrel
    by_cases hlt : i < n
    · have hlt' : (i : Int) < (n : Int) := by omega
      obtain ⟨s1, s2, hI⟩ := HI.out
      obtain ⟨⟨xw, xq, xk⟩, hx⟩ : ∃ x, l[i]? = some x := ⟨_, List.getElem?_eq_getElem (by rw [← HL.out.len]; exact hlt)⟩
      obtain ⟨g, off, rfl, hg, r0, r1, r2⟩ := HL.out.rd i _ hx
      have r0 := hI.k.cell r0 (Nat.not_le.2 hg)
      have r1 := hI.k.cell r1 (Nat.not_le.2 hg)
      have r2 := hI.k.cell r2 (Nat.not_le.2 hg)
      have hin := HL.out.inn _ (List.mem_of_getElem? hx)
      have HP := hide fun w => pick_any xw 2 hin.1.1 hin.1.2 (by decide) (by decide) w
      have hpv := pickV_in xw 2 (by decide)
      obtain ⟨m, hm⟩ : ∃ m : Nat, pickV xw 2 = (m : Int) := ⟨(pickV xw 2).toNat, by omega⟩
      rw [hm] at HP hpv
      have hm2 : m < 2 := by omega
      have hm2' : (m : Int) < 2 := by omega
      obtain ⟨P, D, s, S, R, hQ, hD, hls, hS, hR, hRS, ca, cb, hcl⟩ := hI.pick m hm2
      obtain ⟨vc, vn, vk, vb, mm, z, t, hz, hmm, htl, hstp, hwan⟩ := both s xq xk hin.2.1.1 hin.2.1.2 hin.2.2.1 hin.2.2.2 (by omega) hQ.1 hQ.2.1
      have HC1 := hide hstp
      have HC2 := hide hwan
      have HCl := hide hcl
      have HQ := hide hQ
      have HD := hide hD
      have HSS := hide hS
      have HRR := hide hR
      have HRS := hide hRS
      have HTl := hide htl
      have HZ := hide (And.intro hz hmm)
      have HW5 := hide hg
      have HAB : Hid (w5.heap.size < wr.heap.size ∧ w5.heap.size + 1 < wr.heap.size ∧ g < wr.heap.size) := ⟨(Array.getElem?_eq_some_iff.1 hI.a).1, (Array.getElem?_eq_some_iff.1 hI.b).1, Nat.lt_of_lt_of_le hg hI.k.size⟩
      have HS6 : Hid (∀ W', Keep S wr W' → (fun V : World => V.cell? ⟨w5.heap.size, m, none⟩ = some (.pointer (some ⟨P, 0, none⟩)) ∧ V.cell? ⟨g, off + i * 3, none⟩ = some (.int .i64 xw) ∧ V.cell? ⟨g, off + i * 3 + 1, none⟩ = some (.int .i64 xq) ∧ V.cell? ⟨g, off + i * 3 + 2, none⟩ = some (.int .i64 xk)) W') := fun W' kk => ⟨kk.cell ca fun e => (hS _ e).2.2.1 rfl, kk.cell r0 fun e => absurd (hS _ e).2.1 (Nat.not_le.2 hg), kk.cell r1 fun e => absurd (hS _ e).2.1 (Nat.not_le.2 hg), kk.cell r2 fun e => absurd (hS _ e).2.1 (Nat.not_le.2 hg)⟩
      clear hI hx hin hg HI hm hls hQ hD hS hR hRS hcl hz hmm htl hstp hwan hpv
      go_upto_region 16 with (go_at_call 8; refine (HP.out _).mono ?_; rintro e w' ⟨rfl, hw⟩; have hw := hw.symm; subst hw)
      go_cut [20] from 93 to 101 (fun v wx => ∃ X : Nat, v = .pointer (some ⟨X, 0, none⟩) ∧ Hid (Aft (fun S w => QAt KI S w P t) wr S vc vn vk vb mm (z.map (Value.int .i64)) X wx))
      case first => as_aux_lemma =>
        refine RL.wp_region_held_last (S := fun V : World => V.cell? ⟨w5.heap.size, m, none⟩ = some (.pointer (some ⟨P, 0, none⟩)) ∧ V.cell? ⟨g, off + i * 3, none⟩ = some (.int .i64 xw) ∧ V.cell? ⟨g, off + i * 3 + 1, none⟩ = some (.int .i64 xq) ∧ V.cell? ⟨g, off + i * 3 + 2, none⟩ = some (.int .i64 xk)) rfl (by kernel_rfl) (by kernel_rfl) (HS6.out _ (Keep.drew _ _)) (fun hHeld => ?_)
        change wpAnyH _ _ _ _ _ 11 (Array.replicate 11 false) _ _
        simp only [List.dropLast, List.getLast, List.cons_append, List.nil_append, RL.still]
        refine wpAnyH_take (i := 0) (oi := _) (v := ?_) rfl (by kernel_rfl) (by kernel_rfl) (by kernel_rfl) (fun _ _ _ h => h) (Or.inl ⟨by rfl, ?_⟩) (by assumption) ?_
        rotate_left
        · (intro w hSw; (try dsimp only at hSw); go_simp)
          all_goals with_reducible rfl
        go_simp
        refine wpAnyH_take (i := 1) (oi := _) (v := ?_) rfl (by kernel_rfl) (by kernel_rfl) (by kernel_rfl) (fun _ _ _ h => h) (Or.inl ⟨by rfl, ?_⟩) (by assumption) ?_
        rotate_left
        · (intro w hSw; (try dsimp only at hSw); go_simp)
          all_goals with_reducible rfl
        go_simp
        refine wpAnyH_take (i := 2) (oi := _) (v := ?_) rfl (by kernel_rfl) (by kernel_rfl) (by kernel_rfl) (fun _ _ _ h => h) (Or.inl ⟨by rfl, ?_⟩) (by assumption) ?_
        rotate_left
        · (intro w hSw; (try dsimp only at hSw); go_simp)
          all_goals with_reducible rfl
        go_simp
        refine wpAnyH_take (i := 3) (oi := _) (v := ?_) rfl (by kernel_rfl) (by kernel_rfl) (by kernel_rfl) (fun _ _ _ h => h) (Or.inl ⟨by rfl, ?_⟩) (by assumption) ?_
        rotate_left
        · (intro w hSw; (try dsimp only at hSw); go_simp)
          all_goals with_reducible rfl
        go_simp
        refine wpAnyH_take (i := 4) (oi := _) (v := ?_) rfl (by kernel_rfl) (by kernel_rfl) (by kernel_rfl) (fun _ _ _ h => h) (Or.inl ⟨by rfl, ?_⟩) (by assumption) ?_
        rotate_left
        · (intro w hSw; (try dsimp only at hSw); go_simp)
          all_goals with_reducible rfl
        go_simp
        refine wpAnyH_take (i := 5) (oi := _) (v := ?_) rfl (by kernel_rfl) (by kernel_rfl) (by kernel_rfl) (fun _ _ _ h => h) (Or.inl ⟨by rfl, ?_⟩) (by assumption) ?_
        rotate_left
        · (intro w hSw; (try dsimp only at hSw); go_simp)
          all_goals with_reducible rfl
        go_simp
        refine wpAnyH_take (i := 6) (oi := _) (v := ?_) rfl (by kernel_rfl) (by kernel_rfl) (by kernel_rfl) (fun _ _ _ h => h) (Or.inl ⟨by rfl, ?_⟩) (by assumption) ?_
        rotate_left
        · (intro w hSw; (try dsimp only at hSw); go_simp)
          all_goals with_reducible rfl
        go_simp
        refine wpAnyH_take (i := 7) (oi := _) (v := ?_) rfl (by kernel_rfl) (by kernel_rfl) (by kernel_rfl) (fun _ _ _ h => h) (Or.inl ⟨by rfl, ?_⟩) (by assumption) ?_
        rotate_left
        · (intro w hSw; (try dsimp only at hSw); go_simp)
          all_goals with_reducible rfl
        go_simp
        refine wpAnyH_ready (rs := [8, 9]) (by kernel_rfl) (by simp) ?_
        refine AllReadyH.cons (o := _) rfl (fun K hK => ?_) (AllReadyH.cons (o := _) rfl (fun K hK => ?_) AllReadyH.nil)
        · rw [if_pos (by rfl)]
          go_simp
          go_at_call 9
          refine (HC1.out S P xw wr.drew (HQ.out.new (Keep.drew _ _)) (fun i e => (HSS.out i e).1)).mono ?_
          rintro e w2 ⟨ao, co, rfl, ho, hq, hk⟩
          have HA := hide (Aft.one (staysQ P t) (w := wr) vc vn vk vb hq hk ho)
          have HKk := hide (HS6.out _ ((Keep.drew _ _).more hk))
          have HKa := hide (HS6.out _ (((Keep.drew _ _).more hk).more (Keep.alloc S w2 (.cells #[.int .i64 0, .int .i64 0, .bool false, .int .i64 0, .slice none 0 0] 39))))
          clear ho hq hk
          go_simp
          refine hK.out _ _ (HKk.out) (fun hHeld => ?_)
          clear hK K
          try simp only [Act.put, List.setIfInBounds_toArray, List.set_cons_zero, List.set_cons_succ]
          refine wpAnyH_ready (rs := [9]) (by kernel_rfl) (by simp) ?_
          refine AllReadyH.cons (o := _) rfl (fun K hK => ?_) AllReadyH.nil
          rw [if_pos (by rfl)]
          unfold Oper.wp
          go_simp
          refine hK.out _ _ (HKa.out) (fun hHeld => ?_)
          clear hK K
          try simp only [Act.put, List.setIfInBounds_toArray, List.set_cons_zero, List.set_cons_succ]
          refine wpAnyH_take (i := 10) (oi := _) (v := ?_) rfl (by kernel_rfl) (by kernel_rfl) (by kernel_rfl) (fun _ _ _ h => h) (Or.inl ⟨by rfl, ?_⟩) (by assumption) ?_
          rotate_left
          · (intro w hSw; (try dsimp only at hSw); go_simp)
            all_goals with_reducible rfl
          go_simp
          refine wpAnyH_done (by kernel_rfl) ?_ _
          simp only [RL.endQ]
          refine wp_store_row 39 _ _ rfl w2.heap.size #[.int .i64 vc, .int .i64 vn, .bool vb, .int .i64 vk, .slice ao mm co] (by rfl) (by rfl) 39 #[.int .i64 0, .int .i64 0, .bool false, .int .i64 0, .slice none 0 0] (heap_alloc_new _ _) (by rw [info_told]; rfl) rfl (by simp [Value.oneCell']) ?_
          dsimp only [Act.put]
          go_wp2_with fail
          go_meet
          case rel => exact ⟨_, rfl, HA.out⟩
        · rw [if_pos (by rfl)]
          unfold Oper.wp
          go_simp
          refine hK.out _ _ (HS6.out _ ((Keep.drew _ _).more (Keep.alloc _ _ _))) (fun hHeld => ?_)
          clear hK K
          try simp only [Act.put, List.setIfInBounds_toArray, List.set_cons_zero, List.set_cons_succ]
          refine wpAnyH_ready (rs := [8]) (by kernel_rfl) (by simp) ?_
          refine AllReadyH.cons (o := _) rfl (fun K hK => ?_) AllReadyH.nil
          rw [if_pos (by rfl)]
          go_simp
          go_at_call 9
          refine (HC1.out S P xw (wr.drew.alloc (.cells #[.int .i64 0, .int .i64 0, .bool false, .int .i64 0, .slice none 0 0] 39)) (HQ.out.new ((Keep.drew _ _).more (Keep.alloc _ _ _))) (fun i e => Nat.lt_trans (HSS.out i e).1 (by simp))).mono ?_
          rintro e w2 ⟨ao, co, rfl, ho, hq, hk⟩
          rw [World.size_alloc] at ho hq
          have HA := hide (Aft.two (staysQ P t) (w := wr) vc vn vk vb (fun i e => (HSS.out i e).1) hq hk ho)
          have HKk := hide (HS6.out _ (((Keep.drew _ _).more (Keep.alloc _ _ _)).more hk))
          have hX : w2.heap[wr.heap.size]? = some (.cells #[.int .i64 0, .int .i64 0, .bool false, .int .i64 0, .slice none 0 0] 39 (0, 0)) := hk.blk (heap_alloc_new wr.drew _) fun e => Nat.lt_irrefl _ (HSS.out _ e).1
          clear ho hq hk
          go_simp
          refine hK.out _ _ (HKk.out) (fun hHeld => ?_)
          clear hK K
          try simp only [Act.put, List.setIfInBounds_toArray, List.set_cons_zero, List.set_cons_succ]
          refine wpAnyH_take (i := 10) (oi := _) (v := ?_) rfl (by kernel_rfl) (by kernel_rfl) (by kernel_rfl) (fun _ _ _ h => h) (Or.inl ⟨by rfl, ?_⟩) (by assumption) ?_
          rotate_left
          · (intro w hSw; (try dsimp only at hSw); go_simp)
            all_goals with_reducible rfl
          go_simp
          refine wpAnyH_done (by kernel_rfl) ?_ _
          simp only [RL.endQ]
          refine wp_store_row 39 _ _ rfl wr.heap.size #[.int .i64 vc, .int .i64 vn, .bool vb, .int .i64 vk, .slice ao mm co] (by rfl) (by rfl) 39 #[.int .i64 0, .int .i64 0, .bool false, .int .i64 0, .slice none 0 0] hX (by rw [info_told]; rfl) rfl (by simp [Value.oneCell']) ?_
          dsimp only [Act.put]
          go_wp2_with fail
          go_meet
          case rel => exact ⟨_, rfl, HA.out⟩
      case rest => as_aux_lemma =>
        obtain ⟨X, rfl, HA⟩ := hcut
        obtain ⟨w7, hw7⟩ : ∃ x, x = wc := ⟨_, rfl⟩
        subst hw7
        have HS7 : Hid (∀ W', Keep R w7 W' → (fun V : World => V.cell? ⟨w5.heap.size + 1, m, none⟩ = some (.pointer (some ⟨D, 0, none⟩)) ∧ V.cell? ⟨g, off + i * 3, none⟩ = some (.int .i64 xw) ∧ V.cell? ⟨g, off + i * 3 + 1, none⟩ = some (.int .i64 xq) ∧ V.cell? ⟨g, off + i * 3 + 2, none⟩ = some (.int .i64 xk)) W') := fun W' kk => ⟨kk.cell (HA.out.kp.cell cb fun e => (HSS.out _ e).2.2.2 rfl) fun e => (HRR.out _ e).2.2.2 rfl, kk.cell (HA.out.kp.cell r0 fun e => absurd (HSS.out _ e).2.1 (Nat.not_le.2 HW5.out)) fun e => absurd (HRR.out _ e).2.1 (Nat.not_le.2 HW5.out), kk.cell (HA.out.kp.cell r1 fun e => absurd (HSS.out _ e).2.1 (Nat.not_le.2 HW5.out)) fun e => absurd (HRR.out _ e).2.1 (Nat.not_le.2 HW5.out), kk.cell (HA.out.kp.cell r2 fun e => absurd (HSS.out _ e).2.1 (Nat.not_le.2 HW5.out)) fun e => absurd (HRR.out _ e).2.1 (Nat.not_le.2 HW5.out)⟩
        have HD7 : Hid (Dq R w7 D s) := HD.out.stay HA.out.kp fun k e => HRS.out k e
        have HRR7 : Hid (∀ b, R b → b < w7.heap.size) := fun b e => Nat.lt_of_lt_of_le (HRR.out b e).1 HA.out.kp.size
        clear HS6 ca cb r0 r1 r2 HQ HD HC1
        go_upto_region 17 with fail
        go_cut [21] from 102 to 110 (fun v wx => ∃ X : Nat, v = .pointer (some ⟨X, 0, none⟩) ∧ Hid (Aft (fun S w => Dq S w D t) w7 R vc vn vk vb mm (z.map (Value.int .i64)) X wx))
        case first => as_aux_lemma =>
          refine RL.wp_region_held_last (S := fun V : World => V.cell? ⟨w5.heap.size + 1, m, none⟩ = some (.pointer (some ⟨D, 0, none⟩)) ∧ V.cell? ⟨g, off + i * 3, none⟩ = some (.int .i64 xw) ∧ V.cell? ⟨g, off + i * 3 + 1, none⟩ = some (.int .i64 xq) ∧ V.cell? ⟨g, off + i * 3 + 2, none⟩ = some (.int .i64 xk)) rfl (by kernel_rfl) (by kernel_rfl) (HS7.out _ (Keep.drew _ _)) (fun hHeld => ?_)
          change wpAnyH _ _ _ _ _ 11 (Array.replicate 11 false) _ _
          simp only [List.dropLast, List.getLast, List.cons_append, List.nil_append, RL.still]
          refine wpAnyH_take (i := 0) (oi := _) (v := ?_) rfl (by kernel_rfl) (by kernel_rfl) (by kernel_rfl) (fun _ _ _ h => h) (Or.inl ⟨by rfl, ?_⟩) (by assumption) ?_
          rotate_left
          · (intro w hSw; (try dsimp only at hSw); go_simp)
            all_goals with_reducible rfl
          go_simp
          refine wpAnyH_take (i := 1) (oi := _) (v := ?_) rfl (by kernel_rfl) (by kernel_rfl) (by kernel_rfl) (fun _ _ _ h => h) (Or.inl ⟨by rfl, ?_⟩) (by assumption) ?_
          rotate_left
          · (intro w hSw; (try dsimp only at hSw); go_simp)
            all_goals with_reducible rfl
          go_simp
          refine wpAnyH_take (i := 2) (oi := _) (v := ?_) rfl (by kernel_rfl) (by kernel_rfl) (by kernel_rfl) (fun _ _ _ h => h) (Or.inl ⟨by rfl, ?_⟩) (by assumption) ?_
          rotate_left
          · (intro w hSw; (try dsimp only at hSw); go_simp)
            all_goals with_reducible rfl
          go_simp
          refine wpAnyH_take (i := 3) (oi := _) (v := ?_) rfl (by kernel_rfl) (by kernel_rfl) (by kernel_rfl) (fun _ _ _ h => h) (Or.inl ⟨by rfl, ?_⟩) (by assumption) ?_
          rotate_left
          · (intro w hSw; (try dsimp only at hSw); go_simp)
            all_goals with_reducible rfl
          go_simp
          refine wpAnyH_take (i := 4) (oi := _) (v := ?_) rfl (by kernel_rfl) (by kernel_rfl) (by kernel_rfl) (fun _ _ _ h => h) (Or.inl ⟨by rfl, ?_⟩) (by assumption) ?_
          rotate_left
          · (intro w hSw; (try dsimp only at hSw); go_simp)
            all_goals with_reducible rfl
          go_simp
          refine wpAnyH_take (i := 5) (oi := _) (v := ?_) rfl (by kernel_rfl) (by kernel_rfl) (by kernel_rfl) (fun _ _ _ h => h) (Or.inl ⟨by rfl, ?_⟩) (by assumption) ?_
          rotate_left
          · (intro w hSw; (try dsimp only at hSw); go_simp)
            all_goals with_reducible rfl
          go_simp
          refine wpAnyH_take (i := 6) (oi := _) (v := ?_) rfl (by kernel_rfl) (by kernel_rfl) (by kernel_rfl) (fun _ _ _ h => h) (Or.inl ⟨by rfl, ?_⟩) (by assumption) ?_
          rotate_left
          · (intro w hSw; (try dsimp only at hSw); go_simp)
            all_goals with_reducible rfl
          go_simp
          refine wpAnyH_take (i := 7) (oi := _) (v := ?_) rfl (by kernel_rfl) (by kernel_rfl) (by kernel_rfl) (fun _ _ _ h => h) (Or.inl ⟨by rfl, ?_⟩) (by assumption) ?_
          rotate_left
          · (intro w hSw; (try dsimp only at hSw); go_simp)
            all_goals with_reducible rfl
          go_simp
          refine wpAnyH_ready (rs := [8, 9]) (by kernel_rfl) (by simp) ?_
          refine AllReadyH.cons (o := _) rfl (fun K hK => ?_) (AllReadyH.cons (o := _) rfl (fun K hK => ?_) AllReadyH.nil)
          · rw [if_pos (by rfl)]
            go_simp
            go_at_call 10
            refine (HC2.out R D xw w7.drew (HD7.out.stay (Keep.drew (fun _ => False) _) fun _ _ f => f) (fun i e => (HRR7.out i e))).mono ?_
            rintro e w2 ⟨ao, co, rfl, ho, hq, hk⟩
            have HA := hide (Aft.one (staysD D t) (w := w7) vc vn vk vb hq hk ho)
            have HKk := hide (HS7.out _ ((Keep.drew _ _).more hk))
            have HKa := hide (HS7.out _ (((Keep.drew _ _).more hk).more (Keep.alloc R w2 (.cells #[.int .i64 0, .int .i64 0, .bool false, .int .i64 0, .slice none 0 0] 39))))
            clear ho hq hk
            go_simp
            refine hK.out _ _ (HKk.out) (fun hHeld => ?_)
            clear hK K
            try simp only [Act.put, List.setIfInBounds_toArray, List.set_cons_zero, List.set_cons_succ]
            refine wpAnyH_ready (rs := [9]) (by kernel_rfl) (by simp) ?_
            refine AllReadyH.cons (o := _) rfl (fun K hK => ?_) AllReadyH.nil
            rw [if_pos (by rfl)]
            unfold Oper.wp
            go_simp
            refine hK.out _ _ (HKa.out) (fun hHeld => ?_)
            clear hK K
            try simp only [Act.put, List.setIfInBounds_toArray, List.set_cons_zero, List.set_cons_succ]
            refine wpAnyH_take (i := 10) (oi := _) (v := ?_) rfl (by kernel_rfl) (by kernel_rfl) (by kernel_rfl) (fun _ _ _ h => h) (Or.inl ⟨by rfl, ?_⟩) (by assumption) ?_
            rotate_left
            · (intro w hSw; (try dsimp only at hSw); go_simp)
              all_goals with_reducible rfl
            go_simp
            refine wpAnyH_done (by kernel_rfl) ?_ _
            simp only [RL.endQ]
            refine wp_store_row 39 _ _ rfl w2.heap.size #[.int .i64 vc, .int .i64 vn, .bool vb, .int .i64 vk, .slice ao mm co] (by rfl) (by rfl) 39 #[.int .i64 0, .int .i64 0, .bool false, .int .i64 0, .slice none 0 0] (heap_alloc_new _ _) (by rw [info_told]; rfl) rfl (by simp [Value.oneCell']) ?_
            dsimp only [Act.put]
            go_wp2_with fail
            go_meet
            case rel => exact ⟨_, rfl, HA.out⟩
          · rw [if_pos (by rfl)]
            unfold Oper.wp
            go_simp
            refine hK.out _ _ (HS7.out _ ((Keep.drew _ _).more (Keep.alloc _ _ _))) (fun hHeld => ?_)
            clear hK K
            try simp only [Act.put, List.setIfInBounds_toArray, List.set_cons_zero, List.set_cons_succ]
            refine wpAnyH_ready (rs := [8]) (by kernel_rfl) (by simp) ?_
            refine AllReadyH.cons (o := _) rfl (fun K hK => ?_) AllReadyH.nil
            rw [if_pos (by rfl)]
            go_simp
            go_at_call 10
            refine (HC2.out R D xw (w7.drew.alloc (.cells #[.int .i64 0, .int .i64 0, .bool false, .int .i64 0, .slice none 0 0] 39)) (HD7.out.stay ((Keep.drew (fun _ => False) _).more (Keep.alloc _ _ _)) fun _ _ f => f) (fun i e => Nat.lt_trans (HRR7.out i e) (by simp))).mono ?_
            rintro e w2 ⟨ao, co, rfl, ho, hq, hk⟩
            rw [World.size_alloc] at ho hq
            have HA := hide (Aft.two (staysD D t) (w := w7) vc vn vk vb (fun i e => (HRR7.out i e)) hq hk ho)
            have HKk := hide (HS7.out _ (((Keep.drew _ _).more (Keep.alloc _ _ _)).more hk))
            have hX : w2.heap[w7.heap.size]? = some (.cells #[.int .i64 0, .int .i64 0, .bool false, .int .i64 0, .slice none 0 0] 39 (0, 0)) := hk.blk (heap_alloc_new w7.drew _) fun e => Nat.lt_irrefl _ (HRR7.out _ e)
            clear ho hq hk
            go_simp
            refine hK.out _ _ (HKk.out) (fun hHeld => ?_)
            clear hK K
            try simp only [Act.put, List.setIfInBounds_toArray, List.set_cons_zero, List.set_cons_succ]
            refine wpAnyH_take (i := 10) (oi := _) (v := ?_) rfl (by kernel_rfl) (by kernel_rfl) (by kernel_rfl) (fun _ _ _ h => h) (Or.inl ⟨by rfl, ?_⟩) (by assumption) ?_
            rotate_left
            · (intro w hSw; (try dsimp only at hSw); go_simp)
              all_goals with_reducible rfl
            go_simp
            refine wpAnyH_done (by kernel_rfl) ?_ _
            simp only [RL.endQ]
            refine wp_store_row 39 _ _ rfl w7.heap.size #[.int .i64 vc, .int .i64 vn, .bool vb, .int .i64 vk, .slice ao mm co] (by rfl) (by rfl) 39 #[.int .i64 0, .int .i64 0, .bool false, .int .i64 0, .slice none 0 0] hX (by rw [info_told]; rfl) rfl (by simp [Value.oneCell']) ?_
            dsimp only [Act.put]
            go_wp2_with fail
            go_meet
            case rel => exact ⟨_, rfl, HA.out⟩
        case rest => as_aux_lemma =>
          obtain ⟨Y, rfl, HB⟩ := hcut
          obtain ⟨w8, hw8⟩ : ∃ x, x = wc := ⟨_, rfl⟩
          subst hw8
          obtain ⟨a1, cc1, x1, o1⟩ := HA.out.t
          obtain ⟨a2, cc2, y1, o2⟩ := HB.out.t
          have x2 := HB.out.kp.blk x1 fun e => absurd (HRR.out _ e).1 (Nat.not_lt.2 HA.out.x)
          have o3 := ownsRow_kp o1 HB.out.kp fun gg e e' => absurd (HRR.out _ e').1 (Nat.not_lt.2 (o1.lt gg e).1)
          have HSm := hide (same_any vc vn vk vb w8 (RdZ.ofOwns o3) (RdZ.ofOwns o2) (by have := HZ.out.1; have := HZ.out.2; omega))
          have c0 := cell_blk x2 0 (v := .int .i64 vc) rfl
          have c1 := cell_blk x2 1 (v := .int .i64 vn) rfl
          have c2 := cell_blk x2 2 (v := .bool vb) rfl
          have c3 := cell_blk x2 3 (v := .int .i64 vk) rfl
          have c4 := cell_blk x2 4 (v := .slice a1 mm cc1) rfl
          have d0 := cell_blk y1 0 (v := .int .i64 vc) rfl
          have d1 := cell_blk y1 1 (v := .int .i64 vn) rfl
          have d2 := cell_blk y1 2 (v := .bool vb) rfl
          have d3 := cell_blk y1 3 (v := .int .i64 vk) rfl
          have d4 := cell_blk y1 4 (v := .slice a2 mm cc2) rfl
          clear x1 x2 y1 o1 o2 o3 HS7
          go_wp2_with (go_at_call 11; refine HSm.out.mono ?_; rintro e w9 ⟨rfl, hk⟩; have HK9 := hide hk; clear hk)
          go_roundw
          case rel => exact ⟨i + 1, by go_num, by omega, HCl.out _ _ _ _ HA.out.g HA.out.kp HB.out.g HB.out.kp HK9.out HTl.out⟩
          case measure => simp [intOf]; omega
    · have hlt' : ¬ (i : Int) < (n : Int) := by omega
      obtain ⟨s1, s2, hI⟩ := HI.out
      obtain ⟨col, h1, h2, _, _, _⟩ := hI.ex
      obtain ⟨v1, hv1⟩ := h1.r
      obtain ⟨v2, hv2⟩ := h2.r
      obtain ⟨a1, cc1, rfl, _⟩ := ownsRow_sh hv1.row
      obtain ⟨a2, cc2, rfl, _⟩ := ownsRow_sh hv2.row
      have HQ1 : Hid (∀ W', Keep (fun _ => False) wr W' → QAt KI (Cl col wr 1) W' P1 s1) := fun W' k => h1.q.new k
      have HQ2 : Hid (∀ W', Keep (fun _ => False) wr W' → QAt KI (Cl col wr 2) W' P2 s2) := fun W' k => h2.q.new k
      have HD1 : Hid (∀ W', Keep (fun _ => False) wr W' → Dq (Cl col wr 3) W' D1 s1) := fun W' k => h1.r.stay k fun _ _ f => f
      have HD2 : Hid (∀ W', Keep (fun _ => False) wr W' → Dq (Cl col wr 4) W' D2 s2) := fun W' k => h2.r.stay k fun _ _ f => f
      have HR1 := hide h1.q.2.1
      have HR2 := hide h2.q.2.1
      have HN1 : Hid (s1.row.length ≤ 65536) := Nat.le_trans h1.q.1.len h1.q.1.pl
      have HN2 : Hid (s2.row.length ≤ 65536) := Nat.le_trans h2.q.1.len h2.q.1.pl
      have HS : Hid (∀ W', Keep (fun _ => False) wr W' → (fun V : World => V.cell? ⟨D1, 2, none⟩ = some (.slice a1 s1.row.length cc1) ∧ V.cell? ⟨D2, 2, none⟩ = some (.slice a2 s2.row.length cc2)) W') := fun W' k => ⟨k.cell (cell_blk hv1.blk 2 rfl) fun f => f, k.cell (cell_blk hv2.blk 2 rfl) fun f => f⟩
      have HKK : Hid (Keep (fun _ => False) wr wr.drew) := Keep.drew _ _
      have HKE := hide hI.k
      clear hI HI h1 h2 hv1 hv2
      go_upto_region 20 with fail
      refine wp_region_held_drew (S := fun V : World => V.cell? ⟨D1, 2, none⟩ = some (.slice a1 s1.row.length cc1) ∧ V.cell? ⟨D2, 2, none⟩ = some (.slice a2 s2.row.length cc2)) (by kernel_rfl) (HS.out _ (Keep.drew _ _)) (fun hHeld => ?_)
      change wpAnyH _ _ _ _ _ 33 (Array.replicate 33 false) _ _
      refine wpAnyH_take (i := 0) (oi := _) (v := ?_) rfl (by kernel_rfl) (by kernel_rfl) (by kernel_rfl) (fun _ _ _ h => h) (Or.inl ⟨by rfl, ?_⟩) (by assumption) ?_
      rotate_left
      · (intro w hSw; (try dsimp only at hSw); go_simp)
        all_goals with_reducible rfl
      go_simp
      refine wpAnyH_take (i := 2) (oi := _) (v := ?_) rfl (by kernel_rfl) (by kernel_rfl) (by kernel_rfl) (fun _ _ _ h => h) (Or.inl ⟨by rfl, ?_⟩) (by assumption) ?_
      rotate_left
      · (intro w hSw; (try dsimp only at hSw); go_simp)
        all_goals with_reducible rfl
      go_simp
      refine wpAnyH_ready (rs := [1]) (by kernel_rfl) (by simp) ?_
      refine AllReadyH.cons (o := _) rfl (fun K hK => ?_) AllReadyH.nil
      rw [if_pos (by rfl)]
      go_simp
      go_at_call 13
      refine (whole_any _ (HQ1.out _ HKK.out)).mono ?_
      rintro e wpa ⟨aa, ca, rfl, ho, hk⟩
      have HOA := hide ho
      have HKA := hide (HKK.out.more hk)
      clear ho hk
      go_simp
      refine hK.out _ _ (HS.out _ HKA.out) (fun hHeld => ?_)
      clear hK K
      try simp only [Act.put, List.setIfInBounds_toArray, List.set_cons_zero, List.set_cons_succ]
      refine wpAnyH_ready (rs := [3]) (by kernel_rfl) (by simp) ?_
      refine AllReadyH.cons (o := _) rfl (fun K hK => ?_) AllReadyH.nil
      rw [if_pos (by rfl)]
      go_simp
      go_at_call 14
      refine (refRow_any _ (HD1.out _ HKA.out) HR1.out HN1.out).mono ?_
      rintro e wpb ⟨ab, cb, rfl, ho, hk⟩
      have HOB := hide (RdZ.ofOwns (z := pairs s1.row) (by rw [← flat_pairs]; exact ho))
      have HOA2 := hide (RdZ.new (RdZ.ofOwns (z := pairs s1.row) (by rw [← flat_pairs]; exact HOA.out)) hk)
      have HKB := hide (HKA.out.more hk)
      clear ho hk
      go_simp
      refine hK.out _ _ (HS.out _ HKB.out) (fun hHeld => ?_)
      clear hK K
      try simp only [Act.put, List.setIfInBounds_toArray, List.set_cons_zero, List.set_cons_succ]
      refine wpAnyH_ready (rs := [4]) (by kernel_rfl) (by simp) ?_
      refine AllReadyH.cons (o := _) rfl (fun K hK => ?_) AllReadyH.nil
      rw [if_pos (by rfl)]
      go_simp
      go_at_call 12
      refine (ints_same _ HOA2.out HOB.out (by rw [pairs_length]; have := HN1.out; omega)).mono ?_
      rintro e wpc ⟨rfl, hk⟩
      have HKK := hide (HKB.out.more hk)
      clear hk HOA HOA2 HOB HKA HKB
      go_simp
      refine hK.out _ _ (HS.out _ HKK.out) (fun hHeld => ?_)
      clear hK K
      try simp only [Act.put, List.setIfInBounds_toArray, List.set_cons_zero, List.set_cons_succ]
      refine wpAnyH_take (i := 5) (oi := _) (v := ?_) rfl (by kernel_rfl) (by kernel_rfl) (by kernel_rfl) (fun _ _ _ h => h) (Or.inl ⟨by rfl, ?_⟩) (by assumption) ?_
      rotate_left
      · (intro w hSw; (try dsimp only at hSw); go_simp)
        all_goals with_reducible rfl
      go_simp
      refine wpAnyH_take (i := 6) (oi := _) (v := ?_) rfl (by kernel_rfl) (by kernel_rfl) (by kernel_rfl) (fun _ _ _ h => h) (Or.inl ⟨by rfl, ?_⟩) (by assumption) ?_
      rotate_left
      · (intro w hSw; (try dsimp only at hSw); go_simp)
        all_goals with_reducible rfl
      go_simp
      refine wpAnyH_take (i := 8) (oi := _) (v := ?_) rfl (by kernel_rfl) (by kernel_rfl) (by kernel_rfl) (fun _ _ _ h => h) (Or.inl ⟨by rfl, ?_⟩) (by assumption) ?_
      rotate_left
      · (intro w hSw; (try dsimp only at hSw); go_simp)
        all_goals with_reducible rfl
      go_simp
      refine wpAnyH_ready (rs := [7]) (by kernel_rfl) (by simp) ?_
      refine AllReadyH.cons (o := _) rfl (fun K hK => ?_) AllReadyH.nil
      rw [if_pos (by rfl)]
      go_simp
      go_at_call 13
      refine (whole_any _ (HQ2.out _ HKK.out)).mono ?_
      rintro e wqa ⟨aa, ca, rfl, ho, hk⟩
      have HOA := hide ho
      have HKA := hide (HKK.out.more hk)
      clear ho hk
      go_simp
      refine hK.out _ _ (HS.out _ HKA.out) (fun hHeld => ?_)
      clear hK K
      try simp only [Act.put, List.setIfInBounds_toArray, List.set_cons_zero, List.set_cons_succ]
      refine wpAnyH_ready (rs := [9]) (by kernel_rfl) (by simp) ?_
      refine AllReadyH.cons (o := _) rfl (fun K hK => ?_) AllReadyH.nil
      rw [if_pos (by rfl)]
      go_simp
      go_at_call 14
      refine (refRow_any _ (HD2.out _ HKA.out) HR2.out HN2.out).mono ?_
      rintro e wqb ⟨ab, cb, rfl, ho, hk⟩
      have HOB := hide (RdZ.ofOwns (z := pairs s2.row) (by rw [← flat_pairs]; exact ho))
      have HOA2 := hide (RdZ.new (RdZ.ofOwns (z := pairs s2.row) (by rw [← flat_pairs]; exact HOA.out)) hk)
      have HKB := hide (HKA.out.more hk)
      clear ho hk
      go_simp
      refine hK.out _ _ (HS.out _ HKB.out) (fun hHeld => ?_)
      clear hK K
      try simp only [Act.put, List.setIfInBounds_toArray, List.set_cons_zero, List.set_cons_succ]
      refine wpAnyH_ready (rs := [10]) (by kernel_rfl) (by simp) ?_
      refine AllReadyH.cons (o := _) rfl (fun K hK => ?_) AllReadyH.nil
      rw [if_pos (by rfl)]
      go_simp
      go_at_call 12
      refine (ints_same _ HOA2.out HOB.out (by rw [pairs_length]; have := HN2.out; omega)).mono ?_
      rintro e wqc ⟨rfl, hk⟩
      have HKK := hide (HKB.out.more hk)
      clear hk HOA HOA2 HOB HKA HKB
      go_simp
      refine hK.out _ _ (HS.out _ HKK.out) (fun hHeld => ?_)
      clear hK K
      try simp only [Act.put, List.setIfInBounds_toArray, List.set_cons_zero, List.set_cons_succ]
      refine wpAnyH_take (i := 11) (oi := _) (v := ?_) rfl (by kernel_rfl) (by kernel_rfl) (by kernel_rfl) (fun _ _ _ h => h) (Or.inl ⟨by rfl, ?_⟩) (by assumption) ?_
      rotate_left
      · (intro w hSw; (try dsimp only at hSw); go_simp)
        all_goals with_reducible rfl
      go_simp
      refine wpAnyH_take (i := 12) (oi := _) (v := ?_) rfl (by kernel_rfl) (by kernel_rfl) (by kernel_rfl) (fun _ _ _ h => h) (Or.inl ⟨by rfl, ?_⟩) (by assumption) ?_
      rotate_left
      · (intro w hSw; (try dsimp only at hSw); go_simp)
        all_goals with_reducible rfl
      go_simp
      refine wpAnyH_take (i := 13) (oi := _) (v := ?_) rfl (by kernel_rfl) (by kernel_rfl) (by kernel_rfl) (fun _ _ _ h => h) (Or.inl ⟨by rfl, ?_⟩) (by assumption) ?_
      rotate_left
      · (intro w hSw; (try dsimp only at hSw); go_simp)
        all_goals with_reducible rfl
      go_simp
      refine wpAnyH_take (i := 15) (oi := _) (v := ?_) rfl (by kernel_rfl) (by kernel_rfl) (by kernel_rfl) (fun _ _ _ h => h) (Or.inl ⟨by rfl, ?_⟩) (by assumption) ?_
      rotate_left
      · (intro w hSw; (try dsimp only at hSw); go_simp)
        all_goals with_reducible rfl
      go_simp
      refine wpAnyH_take (i := 16) (oi := _) (v := ?_) rfl (by kernel_rfl) (by kernel_rfl) (by kernel_rfl) (fun _ _ _ h => h) (Or.inl ⟨by rfl, ?_⟩) (by assumption) ?_
      rotate_left
      · (intro w hSw; (try dsimp only at hSw); go_simp)
        all_goals with_reducible rfl
      go_simp
      refine wpAnyH_take (i := 17) (oi := _) (v := ?_) rfl (by kernel_rfl) (by kernel_rfl) (by kernel_rfl) (fun _ _ _ h => h) (Or.inl ⟨by rfl, ?_⟩) (by assumption) ?_
      rotate_left
      · (intro w hSw; (try dsimp only at hSw); go_simp)
        all_goals with_reducible rfl
      go_simp
      refine wpAnyH_take (i := 18) (oi := _) (v := ?_) rfl (by kernel_rfl) (by kernel_rfl) (by kernel_rfl) (fun _ _ _ h => h) (Or.inl ⟨by rfl, ?_⟩) (by assumption) ?_
      rotate_left
      · (intro w hSw; (try dsimp only at hSw); go_simp)
        all_goals with_reducible rfl
      go_simp
      refine wpAnyH_take (i := 19) (oi := _) (v := ?_) rfl (by kernel_rfl) (by kernel_rfl) (by kernel_rfl) (fun _ _ _ h => h) (Or.inl ⟨by rfl, ?_⟩) (by assumption) ?_
      rotate_left
      · (intro w hSw; (try dsimp only at hSw); go_simp)
        all_goals with_reducible rfl
      go_simp
      refine wpAnyH_ready (rs := [14]) (by kernel_rfl) (by simp) ?_
      refine AllReadyH.cons (o := _) rfl (fun K hK => ?_) AllReadyH.nil
      rw [if_pos (by rfl)]
      go_simp
      go_at_call 15
      refine (lenI _ (HQ1.out _ HKK.out).2.2.choose_spec.choose_spec).mono ?_
      rintro e wz ⟨rfl, hw⟩
      have hw := hw.symm
      subst hw
      go_simp
      refine hK.out _ _ (HS.out _ HKK.out) (fun hHeld => ?_)
      clear hK K
      try simp only [Act.put, List.setIfInBounds_toArray, List.set_cons_zero, List.set_cons_succ]
      refine wpAnyH_take (i := 20) (oi := _) (v := ?_) rfl (by kernel_rfl) (by kernel_rfl) (by kernel_rfl) (fun _ _ _ h => h) (Or.inl ⟨by rfl, ?_⟩) (by assumption) ?_
      rotate_left
      · (intro w hSw; (try dsimp only at hSw); go_simp)
        all_goals with_reducible rfl
      go_simp
      refine wpAnyH_take (i := 21) (oi := _) (v := ?_) rfl (by kernel_rfl) (by kernel_rfl) (by kernel_rfl) (fun _ _ _ h => h) (Or.inl ⟨by rfl, ?_⟩) (by assumption) ?_
      rotate_left
      · (intro w hSw; (try dsimp only at hSw); go_simp)
        all_goals with_reducible rfl
      go_simp
      refine wpAnyH_take (i := 22) (oi := _) (v := ?_) rfl (by kernel_rfl) (by kernel_rfl) (by kernel_rfl) (fun _ _ _ h => h) (Or.inl ⟨by rfl, ?_⟩) (by assumption) ?_
      rotate_left
      · (intro w hSw; (try dsimp only at hSw); go_simp)
        all_goals with_reducible rfl
      go_simp
      refine wpAnyH_take (i := 23) (oi := _) (v := ?_) rfl (by kernel_rfl) (by kernel_rfl) (by kernel_rfl) (fun _ _ _ h => h) (Or.inl ⟨by rfl, ?_⟩) (by assumption) ?_
      rotate_left
      · (intro w hSw; (try dsimp only at hSw); go_simp)
        all_goals with_reducible rfl
      go_simp
      refine wpAnyH_take (i := 25) (oi := _) (v := ?_) rfl (by kernel_rfl) (by kernel_rfl) (by kernel_rfl) (fun _ _ _ h => h) (Or.inl ⟨by rfl, ?_⟩) (by assumption) ?_
      rotate_left
      · (intro w hSw; (try dsimp only at hSw); go_simp)
        all_goals with_reducible rfl
      go_simp
      refine wpAnyH_take (i := 26) (oi := _) (v := ?_) rfl (by kernel_rfl) (by kernel_rfl) (by kernel_rfl) (fun _ _ _ h => h) (Or.inl ⟨by rfl, ?_⟩) (by assumption) ?_
      rotate_left
      · (intro w hSw; (try dsimp only at hSw); go_simp)
        all_goals with_reducible rfl
      go_simp
      refine wpAnyH_take (i := 27) (oi := _) (v := ?_) rfl (by kernel_rfl) (by kernel_rfl) (by kernel_rfl) (fun _ _ _ h => h) (Or.inl ⟨by rfl, ?_⟩) (by assumption) ?_
      rotate_left
      · (intro w hSw; (try dsimp only at hSw); go_simp)
        all_goals with_reducible rfl
      go_simp
      refine wpAnyH_take (i := 28) (oi := _) (v := ?_) rfl (by kernel_rfl) (by kernel_rfl) (by kernel_rfl) (fun _ _ _ h => h) (Or.inl ⟨by rfl, ?_⟩) (by assumption) ?_
      rotate_left
      · (intro w hSw; (try dsimp only at hSw); go_simp)
        all_goals with_reducible rfl
      go_simp
      refine wpAnyH_take (i := 29) (oi := _) (v := ?_) rfl (by kernel_rfl) (by kernel_rfl) (by kernel_rfl) (fun _ _ _ h => h) (Or.inl ⟨by rfl, ?_⟩) (by assumption) ?_
      rotate_left
      · (intro w hSw; (try dsimp only at hSw); go_simp)
        all_goals with_reducible rfl
      go_simp
      refine wpAnyH_ready (rs := [24]) (by kernel_rfl) (by simp) ?_
      refine AllReadyH.cons (o := _) rfl (fun K hK => ?_) AllReadyH.nil
      rw [if_pos (by rfl)]
      go_simp
      go_at_call 15
      refine (lenI _ (HQ2.out _ HKK.out).2.2.choose_spec.choose_spec).mono ?_
      rintro e wz ⟨rfl, hw⟩
      have hw := hw.symm
      subst hw
      go_simp
      refine hK.out _ _ (HS.out _ HKK.out) (fun hHeld => ?_)
      clear hK K
      try simp only [Act.put, List.setIfInBounds_toArray, List.set_cons_zero, List.set_cons_succ]
      refine wpAnyH_take (i := 30) (oi := _) (v := ?_) rfl (by kernel_rfl) (by kernel_rfl) (by kernel_rfl) (fun _ _ _ h => h) (Or.inl ⟨by rfl, ?_⟩) (by assumption) ?_
      rotate_left
      · (intro w hSw; (try dsimp only at hSw); go_simp)
        all_goals with_reducible rfl
      go_simp
      refine wpAnyH_take (i := 31) (oi := _) (v := ?_) rfl (by kernel_rfl) (by kernel_rfl) (by kernel_rfl) (fun _ _ _ h => h) (Or.inl ⟨by rfl, ?_⟩) (by assumption) ?_
      rotate_left
      · (intro w hSw; (try dsimp only at hSw); go_simp)
        all_goals with_reducible rfl
      go_simp
      refine wpAnyH_take (i := 32) (oi := _) (v := ?_) rfl (by kernel_rfl) (by kernel_rfl) (by kernel_rfl) (fun _ _ _ h => h) (Or.inl ⟨by rfl, ?_⟩) (by assumption) ?_
      rotate_left
      · (intro w hSw; (try dsimp only at hSw); go_simp)
        all_goals with_reducible rfl
      go_simp
      refine wpAnyH_done (by kernel_rfl) ?_ _
      go_wp2_with fail
      go_ret
      exact ⟨by simp, (HKE.out.more (HKK.out.mono fun _ f => f.elim)).below (Nat.le_refl _) fun _ e => e⟩
end Qu
end Go.Proofs.Ytdokpaljlpfcjaa
