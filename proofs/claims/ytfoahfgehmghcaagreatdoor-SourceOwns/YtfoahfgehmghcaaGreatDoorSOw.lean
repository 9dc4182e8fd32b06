/- Law own of package source: the walk. -/
import Derived.Test.YtfoahfgehmghcaaGreatDoorRLst
import Derived.Deep.DeepMust
import Derived.Deep.WholeRow
namespace Go.Proofs.YtfoahfgehmghcaaGreatDoor
namespace So
open Go.RowKit

set_option maxRecDepth 100000 in
set_option maxHeartbeats 20000000 in
theorem own_any (B G N : Nat) (PA : Nat → Option Addr) (PN PC : Nat → Nat) (Xs : Nat → List Gr.No) (A : Nat → Option Addr) (n C : Nat → Nat) (Z : Nat → List Value) (cs : Array Value) (w : World)
    (hG : w.heap[G]? = some (.cells cs 24 (0, 0))) (hcs : ∀ j, j < 3 → cs[j * 3 + 2]? = some (.slice (PA j) (PN j) (PC j))) (hpn : ∀ j, j < 3 → PN j ≤ 1000000)
    (hnd : ∀ j, j < 3 → w.ownsRow B 32 10 (.slice (PA j) (PN j) (PC j)) (PN j) (U.flat ((Xs j).map (·.q)))) (hxl : ∀ j, j < 3 → (Xs j).length = PN j)
    (hap : Apart 3 fun j => .slice (PA j) (PN j) (PC j)) (hN : (lsP Xs 3).length = N) (hLS : ∀ t, t < N → (lsP Xs 3)[t]? = some (A t, n t, C t)) (hn : ∀ t, t < N → n t ≤ 1000000)
    (hl : ∀ t, t < N → w.ownsRow B 3 1 (.slice (A t) (n t) (C t)) (n t) (Z t)) (hla : Apart N fun t => .slice (A t) (n t) (C t)) :
    Calls Tryz.prog 13 #[.slice (some ⟨G, 0, none⟩) 3 3] w fun e w' => e = .returned (.bool true) ∧ Keep (fun k => B ≤ k) w w' := by
  have HC : Hid (∀ W, Keep (fun _ => False) w W → ∀ j, j < 3 → W.cell? ⟨G, j * 3 + 2, none⟩ = some (.slice (PA j) (PN j) (PC j))) := fun W k j hj => k.cell (cell_blk hG (j * 3 + 2) (hcs j hj)) (fun f => f)
  have HNb : Hid (N ≤ 6000000) := by
    have h1 := lsP_le Xs
    rw [hxl 0 (by omega), hxl 1 (by omega), hxl 2 (by omega)] at h1
    have h2 := hpn 0 (by omega)
    have h3 := hpn 1 (by omega)
    have h4 := hpn 2 (by omega)
    show _ ≤ _
    omega
  have HLb : Hid (∀ j i, j < 3 → i ≤ PN j → (lsP Xs j).length + 2 * i ≤ N) := fun j i hj hi => by
    have h1 := lsP_le Xs
    rw [hxl 0 (by omega), hxl 1 (by omega), hxl 2 (by omega)] at h1
    have e0 := hxl 0 (by omega)
    have e1 := hxl 1 (by omega)
    obtain rfl | rfl | rfl : j = 0 ∨ j = 1 ∨ j = 2 := by omega
    · simp only [lsP, List.length_nil]; omega
    · simp only [lsP, List.nil_append, lsN_len]; omega
    · simp only [lsP, List.nil_append, List.length_append, lsN_len]; omega
  have HG := hide hG
  have HPN := hide hpn
  have HND := hide hnd
  have HXL := hide hxl
  have HAP := hide hap
  have HN := hide hN
  have HLS := hide hLS
  have HNN := hide hn
  have HL := hide hl
  have HLA := hide hla
  clear hG hcs hpn hnd hxl hap hN hLS hn hl hla
  have I0 : Hid (w.ownsRow w.heap.size 30 1 (.slice none 0 0) 0 ((lsP Xs 0).map sv) ∧ Keep (fun _ => False) w w) := ⟨World.ownsRow_nil _ _ _ _, Keep.refl _ _⟩
  go_enter Tryz.func13, Tryz.ntmps13
  go_wp2_with fail
  go_loopw [3, 4] (fun lv jv wr => ∃ (j m : Nat) (a : Option Addr) (c : Nat), lv = .slice a m c ∧ jv = .int .i64 (j : Nat) ∧ j ≤ 3 ∧ Hid (m = (lsP Xs j).length) ∧ Hid (wr.ownsRow w.heap.size 30 1 (.slice a m c) m ((lsP Xs j).map sv) ∧ Keep (fun _ => False) w wr)) (fun _ jv _ => 3 - (intOf jv).toNat)
  case atStart => exact ⟨0, 0, none, 0, rfl, rfl, by omega, rfl, I0.out⟩
  case round => as_aux_lemma =>
    clear I0
    obtain ⟨j, m, a, c, rfl, rfl, hj, Hm, HD⟩ := hrel
    by_cases hj3 : j < 3
    · as_aux_lemma =>
      have hj3' : (j : Int) < 3 := by omega
      have hpj : PN j ≤ 1000000 := HPN.out j hj3
      have I1 : Hid (wr.ownsRow w.heap.size 30 1 (.slice a m c) m ((lsP Xs j ++ lsN ((Xs j).take 0)).map sv) ∧ Keep (fun _ => False) w wr) := by
        have h1 := HD.out
        simp only [List.take_zero, lsN, List.flatMap_nil, List.append_nil]
        exact h1
      clear HD
      go_wp2_with fail
      go_loopw [3, 5] (fun lv iv wr => ∃ (i m : Nat) (a : Option Addr) (c : Nat), lv = .slice a m c ∧ iv = .int .i64 (i : Nat) ∧ i ≤ PN j ∧ Hid (m = (lsP Xs j).length + 2 * i) ∧ Hid (wr.ownsRow w.heap.size 30 1 (.slice a m c) m ((lsP Xs j ++ lsN ((Xs j).take i)).map sv) ∧ Keep (fun _ => False) w wr)) (fun _ iv _ => PN j - (intOf iv).toNat)
      case atStart => exact ⟨0, m, a, c, rfl, rfl, by omega, Hm.out, I1.out⟩
      case round => as_aux_lemma =>
        clear I1
        obtain ⟨i, m, a, c, rfl, rfl, hi, Hm, HD⟩ := hrel
        have cP := HC.out _ HD.out.2 j hj3
        by_cases hin : i < PN j
        · have hin' : (i : Int) < (PN j : Int) := by omega
          obtain ⟨x, hx⟩ : ∃ x, (Xs j)[i]? = some x := ⟨_, List.getElem?_eq_getElem (by rw [HXL.out j hj3]; exact hin)⟩
          have hb := HLb.out j (i + 1) hj3 (by omega)
          have hNb := HNb.out
          have hmm := Hm.out
          have hnj := HND.out j hj3
          obtain ⟨gj, capj, e⟩ := own_form hnj (by omega)
          injection e with eA _ eC
          rw [eA] at hnj cP
          have hrow : w.ownsRow B 32 10 (.slice (some ⟨gj, 0, none⟩) (Xs j).length (PC j)) (Xs j).length (U.flat ((Xs j).map (·.q))) := by rw [HXL.out j hj3]; exact hnj
          have h8 := nd_cell hrow hx (j := 8) (u := .slice x.q.ne.1 x.q.ne.2.1 x.q.ne.2.2) rfl
          have h9 := nd_cell hrow hx (j := 9) (u := .slice x.q.af.1 x.q.af.2.1 x.q.af.2.2) rfl
          have HSN : Hid (lsP Xs j ++ lsN ((Xs j).take (i + 1)) = (lsP Xs j ++ lsN ((Xs j).take i)) ++ [x.q.ne, x.q.af]) := by show _ = _; rw [lsN_snoc hx, List.append_assoc]
          have HSM : Hid ((lsP Xs j ++ lsN ((Xs j).take (i + 1))).map sv = (lsP Xs j ++ lsN ((Xs j).take i)).map sv ++ [.slice x.q.ne.1 x.q.ne.2.1 x.q.ne.2.2, .slice x.q.af.1 x.q.af.2.1 x.q.af.2.2]) := by show _ = _; rw [HSN.out, List.map_append]; rfl
          generalize x.q.ne.1 = x1 at *
          generalize x.q.ne.2.1 = x2 at *
          generalize x.q.ne.2.2 = x3 at *
          generalize x.q.af.1 = y1 at *
          generalize x.q.af.2.1 = y2 at *
          generalize x.q.af.2.2 = y3 at *
          have HS : Hid (∀ W, Keep (fun _ => False) w W → (fun W' : World => W'.cell? ⟨G, j * 3 + 2, none⟩ = some (.slice (some ⟨gj, 0, none⟩) (PN j) (PC j)) ∧ W'.cell? ⟨gj, i * 10 + 8, none⟩ = some (.slice x1 x2 x3) ∧ W'.cell? ⟨gj, i * 10 + 9, none⟩ = some (.slice y1 y2 y3)) W) := fun W k => ⟨by have := HC.out W k j hj3; rw [eA] at this; exact this, k.cell h8 (fun f => f), k.cell h9 (fun f => f)⟩
          have HMB := hide (show m + 2 ≤ 1000000000 by omega)
          clear hx hnj hrow h8 h9 HSN eC hb hNb hmm
          go_upto_region 8 with fail
          refine wp_region_held_drew (S := fun W' : World => W'.cell? ⟨G, j * 3 + 2, none⟩ = some (.slice (some ⟨gj, 0, none⟩) (PN j) (PC j)) ∧ W'.cell? ⟨gj, i * 10 + 8, none⟩ = some (.slice x1 x2 x3) ∧ W'.cell? ⟨gj, i * 10 + 9, none⟩ = some (.slice y1 y2 y3)) (by kernel_rfl) (HS.out _ (HD.out.2.more (Keep.drew _ _))) (fun hHeld => ?_)
          refine wpAnyH_take (i := 0) (oi := _) (v := ?_) rfl (by kernel_rfl) (by kernel_rfl) (by kernel_rfl) (fun _ _ _ h => h) (Or.inl ⟨by rfl, ?_⟩) (by assumption) ?_
          rotate_left
          · (intro w hSw; (try dsimp only at hSw); go_simp)
            all_goals with_reducible rfl
          go_simp
          refine wpAnyH_take (i := 1) (oi := _) (v := ?_) rfl (by kernel_rfl) (by kernel_rfl) (by kernel_rfl) (fun _ _ _ h => h) (Or.inl ⟨by rfl, ?_⟩) (by assumption) ?_
          rotate_left
          · (intro w hSw; (try dsimp only at hSw); go_simp)
            all_goals with_reducible rfl
          go_simp
          refine wpAnyH_take (i := 2) (oi := _) (v := ?_) rfl (by kernel_rfl) (by kernel_rfl) (by kernel_rfl) (fun _ _ _ h => h) (Or.inl ⟨by rfl, ?_⟩) (by assumption) ?_
          rotate_left
          · (intro w hSw; (try dsimp only at hSw); go_simp)
            all_goals with_reducible rfl
          go_simp
          refine wpAnyH_take (i := 3) (oi := _) (v := ?_) rfl (by kernel_rfl) (by kernel_rfl) (by kernel_rfl) (fun _ _ _ h => h) (Or.inl ⟨by rfl, ?_⟩) (by assumption) ?_
          rotate_left
          · (intro w hSw; (try dsimp only at hSw); go_simp)
            all_goals with_reducible rfl
          go_simp
          refine wpAnyH_take (i := 4) (oi := _) (v := ?_) rfl (by kernel_rfl) (by kernel_rfl) (by kernel_rfl) (fun _ _ _ h => h) (Or.inl ⟨by rfl, ?_⟩) (by assumption) ?_
          rotate_left
          · (intro w hSw; (try dsimp only at hSw); go_simp)
            all_goals with_reducible rfl
          go_simp
          refine wpAnyH_take (i := 5) (oi := _) (v := ?_) rfl (by kernel_rfl) (by kernel_rfl) (by kernel_rfl) (fun _ _ _ h => h) (Or.inl ⟨by rfl, ?_⟩) (by assumption) ?_
          rotate_left
          · (intro w hSw; (try dsimp only at hSw); go_simp)
            all_goals with_reducible rfl
          go_simp
          refine wpAnyH_take (i := 6) (oi := _) (v := ?_) rfl (by kernel_rfl) (by kernel_rfl) (by kernel_rfl) (fun _ _ _ h => h) (Or.inl ⟨by rfl, ?_⟩) (by assumption) ?_
          rotate_left
          · (intro w hSw; (try dsimp only at hSw); go_simp)
            all_goals with_reducible rfl
          go_simp
          refine wpAnyH_take (i := 7) (oi := _) (v := ?_) rfl (by kernel_rfl) (by kernel_rfl) (by kernel_rfl) (fun _ _ _ h => h) (Or.inl ⟨by rfl, ?_⟩) (by assumption) ?_
          rotate_left
          · (intro w hSw; (try dsimp only at hSw); go_simp)
            all_goals with_reducible rfl
          go_simp
          refine wpAnyH_take (i := 8) (oi := _) (v := ?_) rfl (by kernel_rfl) (by kernel_rfl) (by kernel_rfl) (fun _ _ _ h => h) (Or.inl ⟨by rfl, ?_⟩) (by assumption) ?_
          rotate_left
          · (intro w hSw; (try dsimp only at hSw); go_simp)
            all_goals with_reducible rfl
          go_simp
          refine wpAnyH_take (i := 9) (oi := _) (v := ?_) rfl (by kernel_rfl) (by kernel_rfl) (by kernel_rfl) (fun _ _ _ h => h) (Or.inl ⟨by rfl, ?_⟩) (by assumption) ?_
          rotate_left
          · (intro w hSw; (try dsimp only at hSw); go_simp)
            all_goals with_reducible rfl
          go_simp
          refine wpAnyH_take (i := 10) (oi := _) (v := ?_) rfl (by kernel_rfl) (by kernel_rfl) (by kernel_rfl) (fun _ _ _ h => h) (Or.inl ⟨by rfl, ?_⟩) (by assumption) ?_
          rotate_left
          · (intro w hSw; (try dsimp only at hSw); go_simp)
            all_goals with_reducible rfl
          go_simp
          refine wpAnyH_take (i := 11) (oi := _) (v := ?_) rfl (by kernel_rfl) (by kernel_rfl) (by kernel_rfl) (fun _ _ _ h => h) (Or.inl ⟨by rfl, ?_⟩) (by assumption) ?_
          rotate_left
          · (intro w hSw; (try dsimp only at hSw); go_simp)
            all_goals with_reducible rfl
          go_simp
          refine wpAnyH_take (i := 12) (oi := _) (v := ?_) rfl (by kernel_rfl) (by kernel_rfl) (by kernel_rfl) (fun _ _ _ h => h) (Or.inl ⟨by rfl, ?_⟩) (by assumption) ?_
          rotate_left
          · (intro w hSw; (try dsimp only at hSw); go_simp)
            all_goals with_reducible rfl
          go_simp
          refine wpAnyH_take (i := 13) (oi := _) (v := ?_) rfl (by kernel_rfl) (by kernel_rfl) (by kernel_rfl) (fun _ _ _ h => h) (Or.inl ⟨by rfl, ?_⟩) (by assumption) ?_
          rotate_left
          · (intro w hSw; (try dsimp only at hSw); go_simp)
            all_goals with_reducible rfl
          go_simp
          refine wpAnyH_take (i := 14) (oi := _) (v := ?_) rfl (by kernel_rfl) (by kernel_rfl) (by kernel_rfl) (fun _ _ _ h => h) (Or.inl ⟨by rfl, ?_⟩) (by assumption) ?_
          rotate_left
          · (intro w hSw; (try dsimp only at hSw); go_simp)
            all_goals with_reducible rfl
          go_simp
          refine wpAnyH_take (i := 15) (oi := _) (v := ?_) rfl (by kernel_rfl) (by kernel_rfl) (by kernel_rfl) (fun _ _ _ h => h) (Or.inl ⟨by rfl, ?_⟩) (by assumption) ?_
          rotate_left
          · (intro w hSw; (try dsimp only at hSw); go_simp)
            all_goals with_reducible rfl
          go_simp
          refine wpAnyH_take (i := 16) (oi := _) (v := ?_) rfl (by kernel_rfl) (by kernel_rfl) (by kernel_rfl) (fun _ _ _ h => h) (Or.inl ⟨by rfl, ?_⟩) (by assumption) ?_
          rotate_left
          · (intro w hSw; (try dsimp only at hSw); go_simp)
            all_goals with_reducible rfl
          go_simp
          refine wpAnyH_take (i := 17) (oi := _) (v := ?_) rfl (by kernel_rfl) (by kernel_rfl) (by kernel_rfl) (fun _ _ _ h => h) (Or.inl ⟨by rfl, ?_⟩) (by assumption) ?_
          rotate_left
          · (intro w hSw; (try dsimp only at hSw); go_simp)
            all_goals with_reducible rfl
          go_simp
          refine wpAnyH_take (i := 18) (oi := _) (v := ?_) rfl (by kernel_rfl) (by kernel_rfl) (by kernel_rfl) (fun _ _ _ h => h) (Or.inl ⟨by rfl, ?_⟩) (by assumption) ?_
          rotate_left
          · (intro w hSw; (try dsimp only at hSw); go_simp)
            all_goals with_reducible rfl
          go_simp
          have kD : Keep (fun _ => False) wr wr.drew := Keep.drew _ _
          have kA : Keep (fun _ => False) wr.drew (wr.drew.alloc (.cells #[.slice x1 x2 x3, .slice y1 y2 y3] 30)) := Keep.alloc _ _ _
          have HK9 := hide ((HD.out.2.more kD).more kA)
          have hblk := heap_alloc_new wr.drew (.cells #[.slice x1 x2 x3, .slice y1 y2 y3] 30)
          obtain ⟨a2, c2, w10, hap, ho10, hk10⟩ := run_app2L (ownsRow_new (ownsRow_new HD.out.1 kD) kA) hblk rfl rfl HMB.out HK9.out.size 27
          have HK10 : Hid (Keep (fun _ => False) w w10) := HK9.out.trans hk10 fun q hq => .inr ((HD.out.1.lt q hq).1)
          have N1 : Hid (w10.ownsRow w.heap.size 30 1 (.slice a2 (m + 2) c2) (m + 2) ((lsP Xs j ++ lsN ((Xs j).take (i + 1))).map sv) ∧ Keep (fun _ => False) w w10) := ⟨by rw [HSM.out]; exact ho10, HK10.out⟩
          have HRUN := hide hap
          clear hap ho10 hk10 kA kD hblk
          refine wpAnyH_ready (rs := [19]) (by kernel_rfl) (by simp) ?_
          refine AllReadyH.cons (o := _) rfl (fun K hK => ?_) AllReadyH.nil
          rw [if_pos (by rfl)]
          unfold Oper.wp
          go_simp
          refine hK.out _ _ (HS.out _ HK9.out) (fun hHeld => ?_)
          clear hK K
          try simp only [Act.put, List.setIfInBounds_toArray, List.set_cons_zero, List.set_cons_succ]
          refine wpAnyH_ready (rs := [20]) (by kernel_rfl) (by simp) ?_
          refine AllReadyH.cons (o := _) rfl (fun K hK => ?_) AllReadyH.nil
          refine U.step_append_run rfl _ _ _ rfl _ _ rfl rfl HRUN.out ?_
          refine hK.out _ _ (HS.out _ HK10.out) (fun hHeld => ?_)
          clear hK K
          try simp only [Act.put, List.setIfInBounds_toArray]
          refine wpAnyH_take (i := 21) (oi := _) (v := ?_) rfl (by kernel_rfl) (by kernel_rfl) (by kernel_rfl) (fun _ _ _ h => h) (Or.inl ⟨by rfl, ?_⟩) (by assumption) ?_
          rotate_left
          · (intro w hSw; (try dsimp only at hSw); go_simp)
            all_goals with_reducible rfl
          go_simp
          refine wpAnyH_done (by kernel_rfl) ?_ _
          clear cP
          go_wp2_with fail
          go_roundw
          · exact ⟨i + 1, m + 2, a2, c2, rfl, rfl, by omega, by show _ = _; rw [Hm.out]; omega, N1.out⟩
          · show PN j - ((i : Int) + 1).toNat < PN j - (i : Int).toNat
            omega
        · have hin' : ¬ ((i : Int) < (PN j : Int)) := by omega
          obtain rfl : i = PN j := by omega
          have N1 : Hid (m = (lsP Xs (j + 1)).length ∧ wr.ownsRow w.heap.size 30 1 (.slice a m c) m ((lsP Xs (j + 1)).map sv) ∧ Keep (fun _ => False) w wr) := by
            have h1 := HD.out
            rw [List.take_of_length_le (by rw [HXL.out j hj3]; exact Nat.le_refl _)] at h1
            refine ⟨?_, h1⟩
            rw [Hm.out]
            simp only [lsP, List.length_append, lsN_len, HXL.out j hj3]
          clear HD Hm
          go_wp2_with fail
          clear cP
          go_roundw
          · exact ⟨j + 1, m, a, c, rfl, rfl, by omega, N1.out.1, N1.out.2⟩
          · show 3 - ((j : Int) + 1).toNat < 3 - (j : Int).toNat
            omega
    · as_aux_lemma =>
      rename World => wA
      obtain rfl : j = 3 := by omega
      obtain rfl : m = N := Hm.out.trans HN.out
      obtain ⟨g0, Hg0⟩ : ∃ g0, Hid (0 < m → a = some ⟨g0, 0, none⟩) := by
        by_cases e : 0 < m
        · obtain ⟨g0, _, e2⟩ := own_form HD.out.1 e
          injection e2 with e2
          exact ⟨g0, fun _ => e2⟩
        · exact ⟨0, fun h => absurd h e⟩
      have HRow := hide HD.out.1
      have HKA := hide HD.out.2
      have hNb := HNb.out
      have I2 : Hid (F1 pkI wA m (fun t => ⟨g0, t, none⟩) (fun t => .slice (A t) (n t) (C t)) n 0 wA) := by
        refine ⟨Z, ⟨fun t ht => ?_, fun t ht => ?_, fun i t g hi ht hg e => ?_⟩, fun t ht => absurd ht (Nat.not_lt_zero _), Keep.refl _ _⟩
        · exact ownsRow_base (ownsRow_new (HL.out t ht) HKA.out) (Nat.zero_le _)
        · have h1 := HRow.out
          rw [Hg0.out (by omega)] at h1
          rw [h1.cellAt t (by omega), List.getElem?_map, HLS.out t ht]
          rfl
        · have h1 := HRow.out
          rw [Hg0.out (by omega)] at h1
          exact typ_ne (ownsRow_new (HL.out i hi) HKA.out) h1 (by decide) hg (congrArg some e)
      clear Hm HD
      go_wp2_with fail
      go_loopw [6] (fun iv wr => ∃ i : Nat, iv = .int .i64 (i : Nat) ∧ i ≤ m ∧ Hid (F1 pkI wA m (fun t => ⟨g0, t, none⟩) (fun t => .slice (A t) (n t) (C t)) n i wr)) (fun iv _ => m - (intOf iv).toNat)
      case atStart => exact ⟨0, rfl, by omega, I2.out⟩
      case round => as_aux_lemma =>
        clear I2
        obtain ⟨i, rfl, hi, HD⟩ := hrel
        by_cases hlt : i < m
        · as_aux_lemma =>
          have hlt' : (i : Int) < (m : Int) := by omega
          have hni : n i ≤ 1000000 := HNN.out i hlt
          obtain ⟨d, hd⟩ : ∃ d : Int, d = -(i : Int) - 1 := ⟨_, rfl⟩
          have HDD := hide hd
          have hm1 : -(i : Int) - 1 = d := hd.symm
          clear hd
          have ha := Hg0.out (by omega)
          subst ha
          have I3 : Hid (F2 pkI wA m (fun t => ⟨g0, t, none⟩) (fun t => .slice (A t) (n t) (C t)) n i 0 wr) := HD.out.begin
          clear HD
          go_wp2_with fail
          go_loopw [7] (fun kv wr => ∃ k : Nat, kv = .int .i64 (k : Nat) ∧ k ≤ n i ∧ Hid (F2 pkI wA m (fun t => ⟨g0, t, none⟩) (fun t => .slice (A t) (n t) (C t)) n i k wr)) (fun kv _ => n i - (intOf kv).toNat)
          case atStart => exact ⟨0, rfl, Nat.zero_le _, I3.out⟩
          case round => as_aux_lemma =>
            clear I3
            obtain ⟨k, rfl, hk, HD⟩ := hrel
            by_cases hkn : k < n i
            · have hkn' : (k : Int) < (n i : Int) := by omega
              obtain ⟨Y, h1, h2, h3, h4⟩ := HD.out
              have cP := h1.cell i hlt
              try dsimp only at cP
              have ho : wr.ownsRow 0 3 1 (.slice (A i) (n i) (C i)) (n i) (Y i) := h1.own i hlt
              obtain ⟨g, cap, e⟩ := own_form ho (by omega)
              injection e with eA _ eC
              rw [eA] at ho cP
              obtain ⟨y, hy⟩ : ∃ y, (Y i)[k]? = some y := ⟨_, List.getElem?_eq_getElem (by have := ho.1; omega)⟩
              have cc := ho.cellAt k (by omega)
              rw [hy] at cc
              have fz := ho.frozenAt k
              have N1 : Hid (F2 pkI wA m (fun t => ⟨g0, t, none⟩) (fun t => .slice (A t) (n t) (C t)) n i (k + 1) (wr.setCell ⟨g, k, none⟩ (.int .i64 d))) := by
                have kk : Keep (fun q => (Value.slice (A i) (n i) (C i)).ownBlock = some q) wr (wr.setCell ⟨g, k, none⟩ (.int .i64 d)) := by
                  rw [eA]
                  exact Keep.setCell (S := fun q => (Value.slice (some ⟨g, 0, none⟩) (n i) (C i)).ownBlock = some q) wr (p := ⟨g, k, none⟩) rfl _
                refine HD.out.step HLA.out hlt kk fun Y hY => ?_
                have hY' : wr.ownsRow 0 3 1 (.slice (A i) (n i) (C i)) (n i) Y := hY
                rw [eA] at hY'
                obtain ⟨Y', q1, q2⟩ := stepI (v := .int .i64 d) hY' hkn
                refine ⟨Y', ?_, ?_⟩
                · show World.ownsRow _ _ _ _ (.slice (A i) (n i) (C i)) _ _
                  rw [eA]
                  exact q1
                · rw [HDD.out] at q2
                  exact q2
              clear h1 h2 h3 h4 ho hy HD
              go_wp2_with fail
              go_roundw
              · exact ⟨k + 1, rfl, by omega, N1.out⟩
              · show n i - ((k : Int) + 1).toNat < n i - (k : Int).toNat
                omega
            · have hkn' : ¬ ((k : Int) < (n i : Int)) := by omega
              obtain rfl : k = n i := by omega
              obtain ⟨Y, h1, h2, h3, h4⟩ := HD.out
              have cP := h1.cell i hlt
              try dsimp only at cP
              have N1 : Hid (F1 pkI wA m (fun t => ⟨g0, t, none⟩) (fun t => .slice (A t) (n t) (C t)) n (i + 1) wr) := HD.out.done hlt
              clear h1 h2 h3 h4 HD
              go_wp2_with fail
              clear cP
              go_roundw
              · exact ⟨i + 1, rfl, by omega, N1.out⟩
              · show m - ((i : Int) + 1).toNat < m - (i : Int).toNat
                omega
        · as_aux_lemma =>
          rename World => wC
          obtain rfl : i = m := by omega
          have hge : ¬ ((i : Int) < (i : Int)) := by omega
          have HP0 : Hid (∀ j, j < i → g0 < wA.heap.size) := fun j hj => by
            have h1 := HRow.out
            rw [Hg0.out (by omega)] at h1
            exact (h1.lt g0 rfl).2
          have J0 : Hid (F3 pkI wA i wA.heap.size (fun t => ⟨g0, t, none⟩) (fun t => .slice (A t) (n t) (C t)) n 0 (.slice none 0 0) wC) := by
            obtain ⟨_, _, _, h4⟩ := HD.out
            exact HD.out.grow HP0.out h4.size
          clear HD hlt hi
          go_wp2_with fail
          go_loopw [8, 9] (fun gvv iv wr => ∃ (t : Nat) (ga : Option Addr) (gc : Nat), gvv = .slice ga t gc ∧ iv = .int .i64 (t : Nat) ∧ t ≤ i ∧ Hid (F3 pkI wA i wA.heap.size (fun t => ⟨g0, t, none⟩) (fun t => .slice (A t) (n t) (C t)) n t (.slice ga t gc) wr)) (fun _ iv _ => i - (intOf iv).toNat)
          case atStart => exact ⟨0, none, 0, rfl, rfl, by omega, J0.out⟩
          case round => as_aux_lemma =>
            clear J0
            obtain ⟨t, ga, gc, rfl, rfl, hi, HD⟩ := hrel
            by_cases hlt : t < i
            · as_aux_lemma =>
              have hlt' : (t : Int) < (i : Int) := by omega
              have hni : n t ≤ 1000000 := HNN.out t hlt
              have ha := Hg0.out (by omega)
              subst ha
              obtain ⟨u, h1, h2⟩ := HD.out
              have cP := h1.o3.cell t hlt
              try dsimp only at cP
              have J1 : Hid (G4 pkI wr i wA.heap.size (fun t => ⟨g0, t, none⟩) (fun t => .slice (A t) (n t) (C t)) n t (.slice ga t gc) u 0 (.slice (A t) (n t) (C t)) ∧ Keep (Sb i fun t => .slice (A t) (n t) (C t)) wA wr) := ⟨h1.begin HLA.out hlt, h2⟩
              clear HD h1 h2
              go_wp2_with fail
              clear cP
              go_loopw [10, 11] (fun vv kv wr => ∃ (k : Nat) (av : Option Addr) (cv : Nat), vv = .slice av (n t + k) cv ∧ kv = .int .i64 (k : Nat) ∧ k ≤ 20 ∧ Hid (G4 pkI wr i wA.heap.size (fun t => ⟨g0, t, none⟩) (fun t => .slice (A t) (n t) (C t)) n t (.slice ga t gc) u k (.slice av (n t + k) cv) ∧ Keep (Sb i fun t => .slice (A t) (n t) (C t)) wA wr)) (fun _ kv _ => 20 - (intOf kv).toNat)
              case atStart => exact ⟨0, _, _, rfl, rfl, by omega, J1.out⟩
              case round => as_aux_lemma =>
                clear J1
                obtain ⟨k, av, cv, rfl, rfl, hm, HD⟩ := hrel
                by_cases hm40 : k < 20
                · have hm' : (k : Int) < 20 := by omega
                  obtain ⟨d, hd⟩ : ∃ d : Int, d = (t : Int) + 1 := ⟨_, rfl⟩
                  have HDD := hide hd
                  have hm2 : (t : Int) + 1 = d := hd.symm
                  clear hd
                  have kA := Keep.alloc (fun _ => False) wr (.cells #[.int .i64 d] 3)
                  have GA := hide (HD.out.1.new kA)
                  have KA := hide (HD.out.2.more (kA.mono fun _ f => f.elim))
                  have CA := hide (cell_one wr (.int .i64 d) 3)
                  have VA := hide GA.out.vo
                  have hn1 : n t + k + 1 ≤ 17592186044416 := by omega
                  clear HD kA
                  go_wp2_with (at_builtin; go_must (refine wp_appendI rfl _ _ rfl (.slice av (n t + k) cv) (n t + k) (gl (n t) k (pkI.f t) (pkI.g t)) rfl VA.out ⟨wr.heap.size, 0, none⟩ _ rfl CA.out hn1 ?_); intro v' w4 ap; obtain ⟨u4, u6, hv4⟩ := ownsRow_shape ap.own; subst hv4; have AP := hide ap; clear ap)
                  go_roundw
                  · have hgg : pkI.g t = [.int .i64 d] := by
                      show [Value.int .i64 ((t : Int) + 1)] = _
                      rw [HDD.out]
                    refine ⟨k + 1, u4, u6, rfl, rfl, by omega, GA.out.app hlt (by have h0 := AP.out; rw [hgg] at h0 ⊢; exact h0), KA.out.trans AP.out.keep fun q hq => ?_⟩
                    rcases GA.out.vf q hq with h | h
                    · exact .inl ⟨t, hlt, h⟩
                    · exact .inr h
                  · show 20 - ((k : Int) + 1).toNat < 20 - (k : Int).toNat
                    omega
                · obtain rfl : k = 20 := by omega
                  have kA := Keep.alloc (fun _ => False) wr (.cells #[.slice av (n t + 20) cv] 30)
                  have GA := hide (HD.out.1.new kA)
                  have KA := hide (HD.out.2.more (kA.mono fun _ f => f.elim))
                  have CA := hide (cell_one wr (.slice av (n t + 20) cv) 30)
                  have VA := hide GA.out.g3.gs
                  have hbs := hide GA.out.g3.q
                  clear HD kA
                  go_wp2_with (at_builtin; go_must (refine wp_appendL rfl _ _ rfl wA.heap.size (.slice ga t gc) t ((List.range t).map u) rfl VA.out ⟨wr.heap.size, 0, none⟩ _ _ _ rfl CA.out (by omega) hbs.out ?_); intro v' w4 o4 k4 b4; obtain ⟨u4, u6, hv4⟩ := ownsRow_shape o4; subst hv4; have O4 := hide o4; have K4 := hide k4; clear o4 k4 b4)
                  go_roundw
                  · refine ⟨t + 1, u4, u6, rfl, rfl, by omega, _, GA.out.done hlt O4.out K4.out, KA.out.trans K4.out fun q hq => .inr ?_⟩
                    exact (VA.out.lt q hq).1
                  · show i - ((t : Int) + 1).toNat < i - (t : Int).toNat
                    omega
            · as_aux_lemma =>
              rename World => wD
              obtain rfl : t = i := by omega
              obtain ⟨u, h1, h2⟩ := HD.out
              have HG3 := hide h1
              have HK := hide h2
              obtain ⟨gg, Hgg⟩ : ∃ gg, Hid (0 < t → ga = some ⟨gg, 0, none⟩) := by
                by_cases e : 0 < t
                · obtain ⟨gg, _, e2⟩ := own_form h1.gs e
                  injection e2 with e2
                  exact ⟨gg, fun _ => e2⟩
                · exact ⟨0, fun h => absurd h e⟩
              clear HD h1 h2
              go_wp2_with fail
              go_loopw [12] (fun iv wr => ∃ i : Nat, iv = .int .i64 (i : Nat) ∧ i ≤ t ∧ wr = wD) (fun iv _ => t - (intOf iv).toNat)
              case atStart => exact ⟨0, rfl, by omega, rfl⟩
              case round => as_aux_lemma =>
                obtain ⟨i, rfl, hi, hwx⟩ := hrel
                subst hwx
                by_cases hlt : i < t
                · as_aux_lemma =>
                  have hlt' : (i : Int) < (t : Int) := by omega
                  have hni : n i ≤ 1000000 := HNN.out i hlt
                  have ha := Hg0.out (by omega)
                  subst ha
                  have ha := Hgg.out (by omega)
                  subst ha
                  obtain ⟨d1, hd1⟩ : ∃ d : Int, -(i : Int) - 1 = d := ⟨_, rfl⟩
                  obtain ⟨d2, hd2⟩ : ∃ d : Int, (i : Int) + 1 = d := ⟨_, rfl⟩
                  have hm1 : -(i : Int) - 1 = d1 := hd1
                  have hm2 : (i : Int) + 1 = d2 := hd2
                  have HD1 := hide hd1
                  have HD2 := hide hd2
                  clear hd1 hd2
                  have hui : wr.ownsRow 0 3 1 (u i) (n i + 20) (gl (n i) 20 (pkI.f i) (pkI.g i)) := HG3.out.us i hlt
                  obtain ⟨hg, hcap, eu⟩ := own_form hui (by omega)
                  have cG : wr.cell? ⟨gg, i, none⟩ = some (u i) := by
                    rw [HG3.out.gs.cellAt i (by omega), List.getElem?_map, List.getElem?_range hlt]
                    rfl
                  have cP := HG3.out.o3.cell i hlt
                  try dsimp only at cP
                  rw [eu] at cG hui
                  have HUI : Hid (∀ t, t < n i + 20 → wr.cell? ⟨hg, t, none⟩ = some (if t < n i then .int .i64 (-(i : Int) - 1) else .int .i64 ((i : Int) + 1))) := fun t ht => by
                    rw [hui.cellAt t (by omega), glI_at ht]
                  have HOI : Hid (∀ t, t < n i → ∃ g, A i = some ⟨g, 0, none⟩ ∧ wr.cell? ⟨g, t, none⟩ = some (.int .i64 (-(i : Int) - 1))) := fun t ht => by
                    have ho : wr.ownsRow 0 3 1 (.slice (A i) (n i) (C i)) (n i) (rep (n i) (pkI.f i)) := HG3.out.o3.own i hlt
                    obtain ⟨g, cap, e⟩ := own_form ho (by omega)
                    injection e with eA _ eC
                    rw [eA] at ho
                    refine ⟨g, eA, ?_⟩
                    rw [ho.cellAt t (by omega), repI_at ht]
                  clear hui eu
                  go_wp2_with fail
                  go_loopw [13] (fun kv wx => ∃ k : Nat, kv = .int .i64 (k : Nat) ∧ k ≤ n i + 20 ∧ wx = wr) (fun kv _ => n i + 20 - (intOf kv).toNat)
                  case atStart => exact ⟨0, rfl, by omega, rfl⟩
                  case round => as_aux_lemma =>
                    obtain ⟨k, rfl, hk, hwx⟩ := hrel
                    subst hwx
                    by_cases hkn : k < n i + 20
                    · have hkn' : (k : Int) < (n i : Int) + 20 := by omega
                      have cc := HUI.out k hkn
                      by_cases hk2 : k < n i
                      · have hk2' : (k : Int) < (n i : Int) := by omega
                        rw [if_pos hk2] at cc
                        obtain ⟨g, eA, c3⟩ := HOI.out k hk2
                        rw [eA] at cP
                        rw [HD1.out] at cc c3
                        clear HUI HOI
                        go_wp2_with fail
                        go_roundw
                        · exact ⟨k + 1, rfl, by omega, by trivial⟩
                        · show n i + 20 - ((k : Int) + 1).toNat < n i + 20 - (k : Int).toNat
                          omega
                      · have hk2' : ¬ ((k : Int) < (n i : Int)) := by omega
                        rw [if_neg hk2] at cc
                        rw [HD2.out] at cc
                        clear HUI HOI
                        go_wp2_with fail
                        go_roundw
                        · exact ⟨k + 1, rfl, by omega, by trivial⟩
                        · show n i + 20 - ((k : Int) + 1).toNat < n i + 20 - (k : Int).toNat
                          omega
                    · have hkn' : ¬ ((k : Int) < (n i : Int) + 20) := by omega
                      clear HUI HOI hm1 hm2
                      go_wp2_with fail
                      go_roundw
                      · exact ⟨i + 1, rfl, by omega, by trivial⟩
                      · show t - ((i : Int) + 1).toNat < t - (i : Int).toNat
                        omega
                · as_aux_lemma =>
                  obtain rfl : i = t := by omega
                  rename World => wE
                  have HBx : Hid (∀ q, Sb i (fun t => .slice (A t) (n t) (C t)) q → B ≤ q) := fun q hq => by
                    obtain ⟨t, ht, e⟩ := hq
                    exact ((HL.out t ht).lt q e).1
                  have K0 : Hid (F1 pkN wE 3 (fun j => ⟨G, j * 3 + 2, none⟩) (fun j => .slice (PA j) (PN j) (PC j)) PN 0 wE) := by
                    refine ⟨fun j => U.flat ((Xs j).map (·.q)), ⟨fun j hj => ?_, fun j hj => ?_, fun i j g hi hj hg => own_not (HND.out i hi) HG.out (by decide) hg⟩, fun j hj => absurd hj (Nat.not_lt_zero _), Keep.refl _ _⟩
                    · refine ownsRow_base (ownsRow_keep (ownsRow_new (HND.out j hj) HKA.out) HK.out fun q hq => ?_) (Nat.zero_le _)
                      obtain ⟨t, ht, e⟩ := hq
                      exact typ_ne (HL.out t ht) (HND.out j hj) (by decide) e
                    · refine HK.out.cell (HC.out _ HKA.out j hj) fun hq => ?_
                      obtain ⟨t, ht, e⟩ := hq
                      exact own_not (HL.out t ht) HG.out (by decide) e rfl
                  have HZ : Hid (G < wE.heap.size) := by
                    have h1 := (Array.getElem?_eq_some_iff.1 HG.out).1
                    have h2 := HKA.out.size
                    have h3 := HK.out.size
                    show _ < _
                    omega
                  have HKK : Hid (Keep (fun k => B ≤ k) w wE) := (HKA.out.mono fun _ f => f.elim).trans HK.out fun q hq => .inl (HBx.out q hq)
                  have HBy : Hid (∀ q, Sb 3 (fun j => .slice (PA j) (PN j) (PC j)) q → B ≤ q) := fun q hq => by
                    obtain ⟨t, ht, e⟩ := hq
                    exact ((HND.out t ht).lt q e).1
                  clear HBx HG3 HK Hgg hlt hi HP0 HRow HKA Hg0 HLA HL HNN HLS HND HXL HC HLb
                  go_wp2_with fail
                  go_loopw [14] (fun iv wr => ∃ j : Nat, iv = .int .i64 (j : Nat) ∧ j ≤ 3 ∧ Hid (F1 pkN wE 3 (fun j => ⟨G, j * 3 + 2, none⟩) (fun j => .slice (PA j) (PN j) (PC j)) PN j wr)) (fun iv _ => 3 - (intOf iv).toNat)
                  case atStart => exact ⟨0, rfl, by omega, K0.out⟩
                  case round => as_aux_lemma =>
                    clear K0
                    obtain ⟨j, rfl, hj, HD⟩ := hrel
                    by_cases hlt : j < 3
                    · as_aux_lemma =>
                      have hlt' : (j : Int) < 3 := by omega
                      have hpj : PN j ≤ 1000000 := HPN.out j hlt
                      obtain ⟨d, hd⟩ : ∃ d : Int, d = (j : Int) + 1 := ⟨_, rfl⟩
                      have HDD := hide hd
                      have hm1 : (j : Int) + 1 = d := hd.symm
                      clear hd
                      have I3 : Hid (F2 pkN wE 3 (fun j => ⟨G, j * 3 + 2, none⟩) (fun j => .slice (PA j) (PN j) (PC j)) PN j 0 wr) := HD.out.begin
                      clear HD
                      go_wp2_with fail
                      go_loopw [15] (fun kv wr => ∃ k : Nat, kv = .int .i64 (k : Nat) ∧ k ≤ PN j ∧ Hid (F2 pkN wE 3 (fun j => ⟨G, j * 3 + 2, none⟩) (fun j => .slice (PA j) (PN j) (PC j)) PN j k wr)) (fun kv _ => PN j - (intOf kv).toNat)
                      case atStart => exact ⟨0, rfl, Nat.zero_le _, I3.out⟩
                      case round => as_aux_lemma =>
                        clear I3
                        obtain ⟨k, rfl, hk, HD⟩ := hrel
                        obtain ⟨Y, h1, h2, h3, h4⟩ := HD.out
                        have cP := h1.cell j hlt
                        try dsimp only at cP
                        by_cases hkn : k < PN j
                        · have hkn' : (k : Int) < (PN j : Int) := by omega
                          have ho : wr.ownsRow 0 32 10 (.slice (PA j) (PN j) (PC j)) (PN j) (Y j) := h1.own j hlt
                          obtain ⟨g, cap, e⟩ := own_form ho (by omega)
                          injection e with eA _ eC
                          rw [eA] at ho cP
                          have HTh : Hid (wr.there g (k * 10) (nodeC d).toArray.size) := own_there ho (k * 10) _ (by show k * 10 + 10 ≤ PN j * 10; omega)
                          have N1 : Hid (F2 pkN wE 3 (fun j => ⟨G, j * 3 + 2, none⟩) (fun j => .slice (PA j) (PN j) (PC j)) PN j (k + 1) (wr.setCells g (k * 10) (nodeC d))) := by
                            have kk : Keep (fun q => (Value.slice (PA j) (PN j) (PC j)).ownBlock = some q) wr (wr.setCells g (k * 10) (nodeC d)) := by
                              rw [eA]
                              exact (setCells_keep g (nodeC d) (k * 10) wr).mono fun q hq => by rw [hq]; rfl
                            refine HD.out.step HAP.out hlt kk fun Y hY => ?_
                            have hY' : wr.ownsRow 0 32 10 (.slice (PA j) (PN j) (PC j)) (PN j) Y := hY
                            rw [eA] at hY'
                            obtain ⟨Y', q1, q2⟩ := stepN (vs := nodeC d) rfl hY' hkn
                            refine ⟨Y', ?_, ?_⟩
                            · show World.ownsRow _ _ _ _ (.slice (PA j) (PN j) (PC j)) _ _
                              rw [eA]
                              exact q1
                            · rw [HDD.out] at q2
                              exact q2
                          clear h1 h2 h3 h4 ho HD
                          go_upto_region 40 with fail
                          iterate 32 go_step
                          with_reducible refine wp_node (g := g) (k := k) (d := d) ?_ ?_ ?_ ?_ HTh.out ?_
                          focus kernel_rfl
                          focus kernel_rfl
                          focus kernel_rfl
                          focus kernel_rfl
                          clear HTh
                          go_wp2_with fail
                          clear cP hm1
                          go_roundw
                          · exact ⟨k + 1, rfl, by omega, N1.out⟩
                          · show PN j - ((k : Int) + 1).toNat < PN j - (k : Int).toNat
                            omega
                        · have hkn' : ¬ ((k : Int) < (PN j : Int)) := by omega
                          obtain rfl : k = PN j := by omega
                          have N1 : Hid (F1 pkN wE 3 (fun j => ⟨G, j * 3 + 2, none⟩) (fun j => .slice (PA j) (PN j) (PC j)) PN (j + 1) wr) := HD.out.done hlt
                          clear h1 h2 h3 h4 HD hm1
                          go_wp2_with fail
                          clear cP
                          go_roundw
                          · exact ⟨j + 1, rfl, by omega, N1.out⟩
                          · show 3 - ((j : Int) + 1).toNat < 3 - (j : Int).toNat
                            omega
                    · as_aux_lemma =>
                      rename World => wF
                      obtain rfl : j = 3 := by omega
                      have HK0 : Hid (wE.heap.size ≤ wF.heap.size) := by
                        obtain ⟨_, _, _, h4⟩ := HD.out
                        exact h4.size
                      have J0 : Hid (F3 pkN wE 3 wE.heap.size (fun j => ⟨G, j * 3 + 2, none⟩) (fun j => .slice (PA j) (PN j) (PC j)) PN 0 (.slice none 0 0) wF) := HD.out.grow (fun j _ => HZ.out) HK0.out
                      clear HD hlt hj HZ HK0
                      go_wp2_with fail
                      go_loopw [16, 17] (fun gvv iv wr => ∃ (t : Nat) (ga : Option Addr) (gc : Nat), gvv = .slice ga t gc ∧ iv = .int .i64 (t : Nat) ∧ t ≤ 3 ∧ Hid (F3 pkN wE 3 wE.heap.size (fun j => ⟨G, j * 3 + 2, none⟩) (fun j => .slice (PA j) (PN j) (PC j)) PN t (.slice ga t gc) wr)) (fun _ iv _ => 3 - (intOf iv).toNat)
                      case atStart => exact ⟨0, none, 0, rfl, rfl, by omega, J0.out⟩
                      case round => as_aux_lemma =>
                        clear J0
                        obtain ⟨t, ga, gc, rfl, rfl, hi, HD⟩ := hrel
                        by_cases hlt : t < 3
                        · as_aux_lemma =>
                          have hlt' : (t : Int) < 3 := by omega
                          have hni : PN t ≤ 1000000 := HPN.out t hlt
                          obtain ⟨u, h1, h2⟩ := HD.out
                          have cP := h1.o3.cell t hlt
                          try dsimp only at cP
                          have J1 : Hid (G4 pkN wr 3 wE.heap.size (fun j => ⟨G, j * 3 + 2, none⟩) (fun j => .slice (PA j) (PN j) (PC j)) PN t (.slice ga t gc) u 0 (.slice (PA t) (PN t) (PC t)) ∧ Keep (Sb 3 fun j => .slice (PA j) (PN j) (PC j)) wE wr) := ⟨h1.begin HAP.out hlt, h2⟩
                          clear HD h1 h2
                          go_wp2_with fail
                          clear cP
                          go_loopw [18, 19] (fun vv kv wr => ∃ (k : Nat) (av : Option Addr) (cv : Nat), vv = .slice av (PN t + k) cv ∧ kv = .int .i64 (k : Nat) ∧ k ≤ 20 ∧ Hid (G4 pkN wr 3 wE.heap.size (fun j => ⟨G, j * 3 + 2, none⟩) (fun j => .slice (PA j) (PN j) (PC j)) PN t (.slice ga t gc) u k (.slice av (PN t + k) cv) ∧ Keep (Sb 3 fun j => .slice (PA j) (PN j) (PC j)) wE wr)) (fun _ kv _ => 20 - (intOf kv).toNat)
                          case atStart => exact ⟨0, _, _, rfl, rfl, by omega, J1.out⟩
                          case round => as_aux_lemma =>
                            clear J1
                            obtain ⟨k, av, cv, rfl, rfl, hm, HD⟩ := hrel
                            by_cases hm40 : k < 20
                            · have hm' : (k : Int) < 20 := by omega
                              obtain ⟨d, hd⟩ : ∃ d : Int, d = -(t : Int) - 1 := ⟨_, rfl⟩
                              have HDD := hide hd
                              have hm2 : -(t : Int) - 1 = d := hd.symm
                              clear hd
                              have kA := Keep.alloc (fun _ => False) wr (.cells (nodeC d).toArray 32)
                              have GA := hide (HD.out.1.new kA)
                              have KA := hide (HD.out.2.more (kA.mono fun _ f => f.elim))
                              have CA : Hid (∀ j u, (nodeC d)[j]? = some u → (wr.alloc (.cells (nodeC d).toArray 32)).cell? ((⟨wr.heap.size, 0, none⟩ : Addr).add j) = some u) := fun j u hu => by
                                rw [Addr.add_mid, Nat.zero_add]
                                exact cell_blk (heap_alloc_new wr _) j (by simpa [nodeC] using hu)
                              have VA : Hid ((wr.alloc (.cells (nodeC d).toArray 32)).ownsRow 0 32 10 (.slice av (PN t + k) cv) (PN t + k) (gl (PN t) k (pkN.f t) (pkN.g t))) := GA.out.vo
                              have hn1 : PN t + k + 1 ≤ 1000000000000 := by omega
                              clear HD kA
                              go_upto_region 49 with fail
                              iterate 17 go_step
                              refine wp_bsN (d := d) ?_ ?_ ?_ ?_
                              focus kernel_rfl
                              focus kernel_rfl
                              focus kernel_rfl
                              go_wp2_with (at_builtin; go_must (refine wp_appendN rfl _ _ rfl (.slice av (PN t + k) cv) (PN t + k) (gl (PN t) k (pkN.f t) (pkN.g t)) rfl VA.out ⟨wr.heap.size, 0, none⟩ (nodeC d) rfl (nodeC_one d) rfl CA.out hn1 ?_); intro v' w4 ap; obtain ⟨u4, u6, hv4⟩ := ownsRow_shape ap.own; subst hv4; have AP := hide ap; clear ap)
                              have N1 : Hid (G4 pkN w4 3 wE.heap.size (fun j => ⟨G, j * 3 + 2, none⟩) (fun j => .slice (PA j) (PN j) (PC j)) PN t (.slice ga t gc) u (k + 1) (.slice u4 (PN t + (k + 1)) u6) ∧ Keep (Sb 3 fun j => .slice (PA j) (PN j) (PC j)) wE w4) := by
                                have hgg : pkN.g t = nodeC d := by
                                  show nodeC (-(t : Int) - 1) = _
                                  rw [HDD.out]
                                refine ⟨GA.out.app hlt (by have h0 := AP.out; rw [hgg] at h0 ⊢; exact h0), KA.out.trans AP.out.keep fun q hq => ?_⟩
                                rcases GA.out.vf q hq with h | h
                                · exact .inl ⟨t, hlt, h⟩
                                · exact .inr h
                              clear GA KA CA VA AP hm2
                              go_roundw
                              · first
                                  | exact ⟨k + 1, u4, u6, rfl, rfl, by omega, N1.out⟩
                                  | ((repeat apply Exists.intro); exact ⟨⟨k + 1, u4, u6, rfl, rfl, by omega, N1.out⟩, rfl⟩)
                              · show 20 - ((k : Int) + 1).toNat < 20 - (k : Int).toNat
                                omega
                            · obtain rfl : k = 20 := by omega
                              have kA := Keep.alloc (fun _ => False) wr (.cells #[.slice av (PN t + 20) cv] 22)
                              have GA := hide (HD.out.1.new kA)
                              have KA := hide (HD.out.2.more (kA.mono fun _ f => f.elim))
                              have CA := hide (cell_one wr (.slice av (PN t + 20) cv) 22)
                              have VA := hide GA.out.g3.gs
                              have hbs := hide GA.out.g3.q
                              clear HD kA
                              go_wp2_with (at_builtin; go_must (refine wp_appendLN rfl _ _ rfl wE.heap.size (.slice ga t gc) t ((List.range t).map u) rfl VA.out ⟨wr.heap.size, 0, none⟩ _ _ _ rfl CA.out (by omega) hbs.out ?_); intro v' w4 o4 k4 b4; obtain ⟨u4, u6, hv4⟩ := ownsRow_shape o4; subst hv4; have O4 := hide o4; have K4 := hide k4; clear o4 k4 b4)
                              have N1 : Hid (F3 pkN wE 3 wE.heap.size (fun j => ⟨G, j * 3 + 2, none⟩) (fun j => .slice (PA j) (PN j) (PC j)) PN (t + 1) (.slice u4 (t + 1) u6) w4) := ⟨_, GA.out.done hlt O4.out K4.out, KA.out.trans K4.out fun q hq => .inr (VA.out.lt q hq).1⟩
                              clear GA KA CA VA hbs O4 K4
                              go_roundw
                              · first
                                  | exact ⟨t + 1, u4, u6, rfl, rfl, by omega, N1.out⟩
                                  | ((repeat apply Exists.intro); exact ⟨⟨t + 1, u4, u6, rfl, rfl, by omega, N1.out⟩, rfl⟩)
                              · show 3 - ((t : Int) + 1).toNat < 3 - (t : Int).toNat
                                omega
                        · as_aux_lemma =>
                          rename World => wG
                          obtain rfl : t = 3 := by omega
                          obtain ⟨u, h1, h2⟩ := HD.out
                          have HG3 := hide h1
                          have HKF : Hid (Keep (fun k => B ≤ k) w wG) := HKK.out.trans h2 fun q hq => .inl (HBy.out q hq)
                          obtain ⟨gg, gcap, e2⟩ := own_form h1.gs (by omega)
                          injection e2 with e2 _ e3
                          subst e2 e3
                          clear HD h1 h2 HKK HBy
                          go_wp2_with fail
                          go_loopw [20] (fun iv wr => ∃ i : Nat, iv = .int .i64 (i : Nat) ∧ i ≤ 3 ∧ wr = wG) (fun iv _ => 3 - (intOf iv).toNat)
                          case atStart => exact ⟨0, rfl, by omega, rfl⟩
                          case round => as_aux_lemma =>
                            obtain ⟨i, rfl, hi, hwx⟩ := hrel
                            subst hwx
                            by_cases hlt : i < 3
                            · as_aux_lemma =>
                              have hlt' : (i : Int) < 3 := by omega
                              have hni : PN i ≤ 1000000 := HPN.out i hlt
                              obtain ⟨d1, hd1⟩ : ∃ d : Int, -(i : Int) - 1 = d := ⟨_, rfl⟩
                              obtain ⟨d2, hd2⟩ : ∃ d : Int, (i : Int) + 1 = d := ⟨_, rfl⟩
                              have hm1 : -(i : Int) - 1 = d1 := hd1
                              have hm2 : (i : Int) + 1 = d2 := hd2
                              have HD1 := hide hd1
                              have HD2 := hide hd2
                              clear hd1 hd2
                              have hui : wr.ownsRow 0 32 10 (u i) (PN i + 20) (gl (PN i) 20 (pkN.f i) (pkN.g i)) := HG3.out.us i hlt
                              obtain ⟨hg, hcap, eu⟩ := own_form hui (by omega)
                              have cG : wr.cell? ⟨gg, i, none⟩ = some (u i) := by
                                rw [HG3.out.gs.cellAt i (by omega), List.getElem?_map, List.getElem?_range hlt]
                                rfl
                              have cP := HG3.out.o3.cell i hlt
                              try dsimp only at cP
                              rw [eu] at cG hui
                              have HUI : Hid (∀ t, t < PN i + 20 → wr.cell? ⟨hg, t * 10 + 1, none⟩ = some (if t < PN i then .int .i64 ((i : Int) + 1) else .int .i64 (-(i : Int) - 1))) := fun t ht => by
                                rw [hui.cellAt (t * 10 + 1) (by omega), glN_at ht]
                              have HOI : Hid (∀ t, t < PN i → ∃ g, PA i = some ⟨g, 0, none⟩ ∧ wr.cell? ⟨g, t * 10 + 1, none⟩ = some (.int .i64 ((i : Int) + 1))) := fun t ht => by
                                have ho : wr.ownsRow 0 32 10 (.slice (PA i) (PN i) (PC i)) (PN i) (rep (PN i) (pkN.f i)) := HG3.out.o3.own i hlt
                                obtain ⟨g, cap, e⟩ := own_form ho (by omega)
                                injection e with eA _ eC
                                rw [eA] at ho
                                refine ⟨g, eA, ?_⟩
                                rw [ho.cellAt (t * 10 + 1) (by omega), repN_at ht]
                              clear hui eu
                              go_wp2_with fail
                              go_loopw [21] (fun kv wx => ∃ k : Nat, kv = .int .i64 (k : Nat) ∧ k ≤ PN i + 20 ∧ wx = wr) (fun kv _ => PN i + 20 - (intOf kv).toNat)
                              case atStart => exact ⟨0, rfl, by omega, rfl⟩
                              case round => as_aux_lemma =>
                                obtain ⟨k, rfl, hk, hwx⟩ := hrel
                                subst hwx
                                by_cases hkn : k < PN i + 20
                                · have hkn' : (k : Int) < (PN i : Int) + 20 := by omega
                                  have cc := HUI.out k hkn
                                  by_cases hk2 : k < PN i
                                  · have hk2' : (k : Int) < (PN i : Int) := by omega
                                    rw [if_pos hk2] at cc
                                    obtain ⟨g, eA, c3⟩ := HOI.out k hk2
                                    rw [eA] at cP
                                    rw [HD2.out] at cc c3
                                    clear HUI HOI
                                    go_wp2_with fail
                                    go_roundw
                                    · exact ⟨k + 1, rfl, by omega, by trivial⟩
                                    · show PN i + 20 - ((k : Int) + 1).toNat < PN i + 20 - (k : Int).toNat
                                      omega
                                  · have hk2' : ¬ ((k : Int) < (PN i : Int)) := by omega
                                    rw [if_neg hk2] at cc
                                    rw [HD1.out] at cc
                                    clear HUI HOI
                                    go_wp2_with fail
                                    go_roundw
                                    · exact ⟨k + 1, rfl, by omega, by trivial⟩
                                    · show PN i + 20 - ((k : Int) + 1).toNat < PN i + 20 - (k : Int).toNat
                                      omega
                                · have hkn' : ¬ ((k : Int) < (PN i : Int) + 20) := by omega
                                  clear HUI HOI hm1 hm2
                                  go_wp2_with fail
                                  go_roundw
                                  · exact ⟨i + 1, rfl, by omega, by trivial⟩
                                  · show 3 - ((i : Int) + 1).toNat < 3 - (i : Int).toNat
                                    omega
                            · obtain rfl : i = 3 := by omega
                              go_wp2_with fail
                              go_ret
                              exact ⟨rfl, HKF.out⟩
end So
end Go.Proofs.YtfoahfgehmghcaaGreatDoor
