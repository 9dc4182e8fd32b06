/- Chapter 8's laws: the document's queue: Push (qpush_gen.py). -/
import Derived.Test.YtdokpaljlpfcjaaQDo4
import Derived.Test.YtdokpaljlpfcjaaRLst
import Derived.BigQuiet
import Derived.Deep.Cut
namespace Go.Proofs.Ytdokpaljlpfcjaa
namespace Qu
open Go.RowKit

/-- what Push of the document's leaves -/
def Pushed (S : Nat → Prop) (w : World) (P : Nat) (s : St Int) (k : Int) (e : Ending) (w' : World) : Prop :=
  e = .returned (.tuple #[.int .i64 ((pushR s k).1 : Nat), .int .i64 ((pushR s k).2 : Nat)]) ∧ Dq (fun i => S i ∨ w.heap.size ≤ i) w' P (s.pushed k) ∧ Keep S w w'
set_option maxRecDepth 100000 in
set_option maxHeartbeats 4000000 in
theorem refPush_any {S : Nat → Prop} {P : Nat} {s : St Int} (k : Int) (w : World) (h : Dq S w P s) (hr : ∀ e ∈ s.row, KI.ok e.2) (hk : KI.ok k) (ok : Ok s) (hlast : s.last < 9007199254740990) :
    Calls Try.prog 28 #[.pointer (some ⟨P, 0, none⟩), .string (tx k)] w (Pushed S w P s k) := by
  have hlen : s.row.length ≤ 65536 := Nat.le_trans ok.len ok.pl
  have HA := hide (refAhead_any k w h hr hk hlen)
  have HQ := hide h
  unfold Pushed
  cases hi : idxL s.row k with
  | some i =>
    have e0 : aheadR s.row k = (i, 0) := by simp [aheadR, hi]
    have hnn : numL s.row k ≠ none := fun e => by rw [idx_num.2 e] at hi; cases hi
    have e1 : pushR s k = (0, 81) := by simp [pushR, hnn]
    have e2 : s.pushed k = s := by simp [St.pushed, hnn]
    rw [e0] at HA
    rw [e1, e2]
    clear h hr hk ok hi hnn e0 e1 e2
    generalize tx k = T at *
    go_enter Try.func28, Try.ntmps28
    go_wp2_with (go_at_call 33; refine HA.out.mono ?_; rintro e w1 ⟨rfl, hw⟩; have hw := hw.symm; subst hw)
    go_ret2
    exact ⟨rfl, HQ.out.mono fun i e => .inl e, Keep.refl _ _⟩
  | none =>
    have e0 : aheadR s.row k = (0, 83) := by simp [aheadR, hi]
    have hnn : numL s.row k = none := idx_num.1 hi
    rw [e0] at HA
    obtain ⟨v, h⟩ := h
    obtain ⟨a, c, rfl, _, _⟩ := ownsRow_sh h.row
    have c0 := cell_blk h.blk 0 (v := nv s.places) rfl
    have c2 := cell_blk h.blk 2 (v := .slice a s.row.length c) rfl
    unfold nv at c0
    by_cases hf : s.places ≤ s.row.length
    · have e1 : pushR s k = (0, 82) := by simp [pushR, hnn, hf]
      have e2 : s.pushed k = s := by simp [St.pushed, hnn, hf]
      have hf' : s.row.length = s.places := Nat.le_antisymm ok.len hf
      rw [e1, e2]
      rw [hf'] at c2
      clear h hr hk ok hi hnn e0 e1 e2 hf
      generalize tx k = T at *
      go_enter Try.func28, Try.ntmps28
      go_wp2_with (go_at_call 33; refine HA.out.mono ?_; rintro e w1 ⟨rfl, hw⟩; have hw := hw.symm; subst hw)
      go_quiet (fail)
      go_wp2_with fail
      go_ret2
      have kd : Keep (fun _ => False) w (w.drewN nq) := ⟨rfl, rfl, rfl, Nat.le_refl _, fun _ _ _ => rfl⟩
      exact ⟨rfl, (HQ.out.stay kd fun _ _ f => f).mono fun i e => .inl e, kd.mono fun _ f => f.elim⟩
    · have e1 : pushR s k = (s.last + 1, 0) := by simp [pushR, hnn, hf]
      have e2 : s.pushed k = s.push k := by simp [St.pushed, hnn, hf]
      have hfb : ((s.row.length : Int) == (s.places : Int)) = false := by simp; omega
      have hcq : ((s.last + 1 : Nat) : Int) = (s.last : Int) + 1 := by omega
      rw [e1, e2]
      have c1 := cell_blk h.blk 1 (v := nv s.last) rfl
      have f1 := frozen_blk h.blk 1
      unfold nv at c1
      have HD := hide h
      clear h hr hk ok hi hnn e0 e1 e2 hf
      obtain ⟨n, hn⟩ : ∃ n, s.row.length = n := ⟨_, rfl⟩
      rw [hn] at c2 hfb hlen
      obtain ⟨L1, hL1⟩ : ∃ L1, s.last + 1 = L1 := ⟨_, rfl⟩
      have HN := hide hn
      have HL := hide hL1
      have ha1 : (s.last : Int) + 1 = (L1 : Int) := by omega
      rw [hL1]
      have hD0 := HD.out
      rw [hn] at hD0
      have HX := hide fun nq => ((hD0.drew nq).count L1)
      clear hL1 hcq hn hD0
      obtain ⟨T, hT⟩ : ∃ T, tx k = T := ⟨_, rfl⟩
      have HT := hide hT
      rw [hT] at HA ⊢
      clear hT
      go_enter Try.func28, Try.ntmps28
      go_wp2_with (go_at_call 33; refine HA.out.mono ?_; rintro e w1 ⟨rfl, hw⟩; have hw := hw.symm; subst hw)
      go_quiet (fail)
      go_upto_region 7 with fail
      obtain ⟨hd1, k1⟩ := HX.out nq
      have HD1 := hide hd1
      have K1 : Hid (Keep S w ((w.drewN nq).setCell ⟨P, 1, none⟩ (nv L1))) := (⟨rfl, rfl, rfl, Nat.le_refl _, fun _ _ _ => rfl⟩ : Keep S w (w.drewN nq)).more k1
      have hrow1 := hd1.row
      simp only at hrow1
      rw [HN.out] at hrow1
      have HRow := hide hrow1
      clear hd1 k1 hrow1 HX
      unfold nv at HD1 K1 HRow
      generalize (w.drewN nq).setCell ⟨P, 1, none⟩ (.int .i64 (L1 : Int)) = w1 at *
      have HS7 : Hid (∀ W, Keep (fun _ => False) w1 W → (fun W' : World => W'.cell? ⟨P, 1, none⟩ = some (.int .i64 (L1 : Int)) ∧ W'.cell? ⟨P, 2, none⟩ = some (.slice a n c)) W) := fun W kk => ⟨kk.cell (cell_blk HD1.out.blk 1 rfl) fun f => f, kk.cell (cell_blk HD1.out.blk 2 rfl) fun f => f⟩
      refine RL.wp_region_held_last (S := fun W' : World => W'.cell? ⟨P, 1, none⟩ = some (.int .i64 (L1 : Int)) ∧ W'.cell? ⟨P, 2, none⟩ = some (.slice a n c)) rfl (by kernel_rfl) (by kernel_rfl) (HS7.out _ (Keep.drew _ _)) (fun hHeld => ?_)
      change wpAnyH _ _ _ _ _ 18 (Array.replicate 18 false) _ _
      simp only [List.dropLast, List.getLast, List.cons_append, List.nil_append, RL.still]
      refine wpAnyH_take (i := 0) (oi := _) (v := ?_) rfl (by kernel_rfl) (by kernel_rfl) (by kernel_rfl) (fun _ _ _ h => h) (Or.inl ⟨by rfl, ?_⟩) (by assumption) ?_
      rotate_left
      · (intro w hSw; (try dsimp only at hSw); go_simp)
        all_goals with_reducible rfl
      go_simp
      refine wpAnyH_take (i := 2) (oi := _) (v := ?_) rfl (by kernel_rfl) (by kernel_rfl) (by kernel_rfl) (fun _ _ _ h => h) (Or.inl ⟨by rfl, ?_⟩) (by assumption) ?_
      rotate_left
      · (intro w hSw; (try dsimp only at hSw); go_simp)
        all_goals with_reducible rfl
      go_simp
      refine wpAnyH_take (i := 3) (oi := _) (v := ?_) rfl (by kernel_rfl) (by kernel_rfl) (by kernel_rfl) (fun _ _ _ h => h) (Or.inl ⟨by rfl, ?_⟩) (by assumption) ?_
      rotate_left
      · (intro w hSw; (try dsimp only at hSw); go_simp)
        all_goals with_reducible rfl
      go_simp
      refine wpAnyH_take (i := 4) (oi := _) (v := ?_) rfl (by kernel_rfl) (by kernel_rfl) (by kernel_rfl) (fun _ _ _ h => h) (Or.inl ⟨by rfl, ?_⟩) (by assumption) ?_
      rotate_left
      · (intro w hSw; (try dsimp only at hSw); go_simp)
        all_goals with_reducible rfl
      go_simp
      refine wpAnyH_take (i := 5) (oi := _) (v := ?_) rfl (by kernel_rfl) (by kernel_rfl) (by kernel_rfl) (fun _ _ _ h => h) (Or.inl ⟨by rfl, ?_⟩) (by assumption) ?_
      rotate_left
      · (intro w hSw; (try dsimp only at hSw); go_simp)
        all_goals with_reducible rfl
      go_simp
      refine wpAnyH_take (i := 7) (oi := _) (v := ?_) rfl (by kernel_rfl) (by kernel_rfl) (by kernel_rfl) (fun _ _ _ h => h) (Or.inl ⟨by rfl, ?_⟩) (by assumption) ?_
      rotate_left
      · (intro w hSw; (try dsimp only at hSw); go_simp)
        all_goals with_reducible rfl
      go_simp
      refine wpAnyH_take (i := 8) (oi := _) (v := ?_) rfl (by kernel_rfl) (by kernel_rfl) (by kernel_rfl) (fun _ _ _ h => h) (Or.inl ⟨by rfl, ?_⟩) (by assumption) ?_
      rotate_left
      · (intro w hSw; (try dsimp only at hSw); go_simp)
        all_goals with_reducible rfl
      go_simp
      refine wpAnyH_take (i := 9) (oi := _) (v := ?_) rfl (by kernel_rfl) (by kernel_rfl) (by kernel_rfl) (fun _ _ _ h => h) (Or.inl ⟨by rfl, ?_⟩) (by assumption) ?_
      rotate_left
      · (intro w hSw; (try dsimp only at hSw); go_simp)
        all_goals with_reducible rfl
      go_simp
      refine wpAnyH_take (i := 10) (oi := _) (v := ?_) rfl (by kernel_rfl) (by kernel_rfl) (by kernel_rfl) (fun _ _ _ h => h) (Or.inl ⟨by rfl, ?_⟩) (by assumption) ?_
      rotate_left
      · (intro w hSw; (try dsimp only at hSw); go_simp)
        all_goals with_reducible rfl
      go_simp
      refine wpAnyH_take (i := 11) (oi := _) (v := ?_) rfl (by kernel_rfl) (by kernel_rfl) (by kernel_rfl) (fun _ _ _ h => h) (Or.inl ⟨by rfl, ?_⟩) (by assumption) ?_
      rotate_left
      · (intro w hSw; (try dsimp only at hSw); go_simp)
        all_goals with_reducible rfl
      go_simp
      refine wpAnyH_take (i := 12) (oi := _) (v := ?_) rfl (by kernel_rfl) (by kernel_rfl) (by kernel_rfl) (fun _ _ _ h => h) (Or.inl ⟨by rfl, ?_⟩) (by assumption) ?_
      rotate_left
      · (intro w hSw; (try dsimp only at hSw); go_simp)
        all_goals with_reducible rfl
      go_simp
      have kD0 : Keep (fun _ => False) w1 w1.drew := Keep.drew _ _
      refine wpAnyH_ready (rs := [1, 13]) (by kernel_rfl) (by simp) ?_
      refine AllReadyH.cons (o := _) rfl (fun K hK => ?_) (AllReadyH.cons (o := _) rfl (fun K hK => ?_) AllReadyH.nil)
      · rw [if_pos (by rfl)]
        unfold Oper.wp
        go_simp
        refine hK.out _ _ (HS7.out _ (kD0.more (Keep.alloc (fun _ => False) w1.drew (.cells #[] 76)))) (fun hHeld => ?_)
        clear hK K
        try simp only [Act.put, List.setIfInBounds_toArray, List.set_cons_zero, List.set_cons_succ]
        refine wpAnyH_ready (rs := [6, 13]) (by kernel_rfl) (by simp) ?_
        refine AllReadyH.cons (o := _) rfl (fun K hK => ?_) (AllReadyH.cons (o := _) rfl (fun K hK => ?_) AllReadyH.nil)
        · obtain ⟨va, vc, wC, hrC, hoC, kC, kEC, hnC⟩ := copy_run (E := w1.heap.size) (w1 := w1) (wB := w1.drew.alloc (.cells #[] 76)) (Src.row (ownsRow_kp HRow.out (kD0.more (Keep.alloc (fun _ => False) w1.drew (.cells #[] 76))) fun _ _ f => f)) (itm_one _) hlen (kD0.more (Keep.alloc (fun _ => False) w1.drew (.cells #[] 76))) (heap_alloc_new w1.drew _) (Nat.le_refl _)
          refine step_append_run rfl _ _ _ rfl _ _ rfl rfl hrC ?_
          refine hK.out _ _ (HS7.out _ kC) (fun hHeld => ?_)
          clear hK K
          try simp only [Act.put, List.setIfInBounds_toArray]
          refine wpAnyH_ready (rs := [13]) (by kernel_rfl) (by simp) ?_
          refine AllReadyH.cons (o := _) rfl (fun K hK => ?_) AllReadyH.nil
          rw [if_pos (by rfl)]
          unfold Oper.wp
          go_simp
          refine hK.out _ _ (HS7.out _ (kC.more (Keep.alloc _ _ _))) (fun hHeld => ?_)
          clear hK K
          try simp only [Act.put, List.setIfInBounds_toArray, List.set_cons_zero, List.set_cons_succ]
          obtain ⟨xa, xc, wF, hrF, hoF, kF, hnF⟩ := more_run (ownsRow_kp hoC (Keep.alloc (fun _ => False) wC (.cells #[.int .i64 (L1 : Int), .string T] 76)) fun _ _ f => f) (kC.more (Keep.alloc (fun _ => False) wC (.cells #[.int .i64 (L1 : Int), .string T] 76))) hnC (Src.item (I := wC.heap.size) (by rw [HT.out]; exact heap_alloc_new wC _)) (itm_one _) (by omega)
          refine wpAnyH_ready (rs := [14]) (by kernel_rfl) (by simp) ?_
          refine AllReadyH.cons (o := _) rfl (fun K hK => ?_) AllReadyH.nil
          refine step_append_run rfl _ _ _ rfl _ _ rfl rfl hrF ?_
          refine hK.out _ _ (HS7.out _ kF) (fun hHeld => ?_)
          clear hK K
          try simp only [Act.put, List.setIfInBounds_toArray]
          refine wpAnyH_take (i := 15) (oi := _) (v := ?_) rfl (by kernel_rfl) (by kernel_rfl) (by kernel_rfl) (fun _ _ _ h => h) (Or.inl ⟨by rfl, ?_⟩) (by assumption) ?_
          rotate_left
          · (intro w hSw; (try dsimp only at hSw); go_simp)
            all_goals with_reducible rfl
          go_simp
          refine wpAnyH_take (i := 16) (oi := _) (v := ?_) rfl (by kernel_rfl) (by kernel_rfl) (by kernel_rfl) (fun _ _ _ h => h) (Or.inl ⟨by rfl, ?_⟩) (by assumption) ?_
          rotate_left
          · (intro w hSw; (try dsimp only at hSw); go_simp)
            all_goals with_reducible rfl
          go_simp
          refine wpAnyH_take (i := 17) (oi := _) (v := ?_) rfl (by kernel_rfl) (by kernel_rfl) (by kernel_rfl) (fun _ _ _ h => h) (Or.inl ⟨by rfl, ?_⟩) (by assumption) ?_
          rotate_left
          · (intro w hSw; (try dsimp only at hSw); go_simp)
            all_goals with_reducible rfl
          go_simp
          refine wpAnyH_done (by kernel_rfl) ?_ _
          simp only [RL.endQ]
          have HPn := hide (HD1.out.put (t := s.push k) kF (by rw [show itm (s.push k).row = itm s.row ++ itm [(L1, k)] from (by rw [← itm_append, ← HL.out]; rfl), show (s.push k).row.length = n + 1 from (by rw [← HN.out]; exact List.length_append)]; exact hoF) hnF rfl HL.out rfl)
          have x1 := kF.cell (cell_blk HD1.out.blk 1 (v := .int .i64 (L1 : Int)) rfl) fun f => f
          have x2 := kF.cell (cell_blk HD1.out.blk 2 (v := .slice a n c) rfl) fun f => f
          have f2 := frozen_blk (kF.blk HD1.out.blk fun f => f) 2
          unfold Oper.wp
          go_simp
          go_wp2_with fail
          go_ret2
          exact ⟨rfl, HPn.out.1.mono fun i e => e.imp (fun x => x) fun e => Nat.le_trans K1.out.size e, (K1.out.more HPn.out.2)⟩
        · rw [if_pos (by rfl)]
          unfold Oper.wp
          go_simp
          refine hK.out _ _ (HS7.out _ ((kD0.more (Keep.alloc (fun _ => False) w1.drew (.cells #[] 76))).more (Keep.alloc (fun _ => False) (w1.drew.alloc (.cells #[] 76)) (.cells #[.int .i64 (L1 : Int), .string T] 76)))) (fun hHeld => ?_)
          clear hK K
          try simp only [Act.put, List.setIfInBounds_toArray, List.set_cons_zero, List.set_cons_succ]
          refine wpAnyH_ready (rs := [6]) (by kernel_rfl) (by simp) ?_
          refine AllReadyH.cons (o := _) rfl (fun K hK => ?_) AllReadyH.nil
          have hEB : ((w1.drew.alloc (.cells #[] 76)).alloc (.cells #[.int .i64 (L1 : Int), .string T] 76)).heap[w1.heap.size]? = some (.cells #[] 76 (0, 0)) := (Below.heap_alloc _ _ _ (by simp)).trans (heap_alloc_new w1.drew _)
          have hIB : ((w1.drew.alloc (.cells #[] 76)).alloc (.cells #[.int .i64 (L1 : Int), .string T] 76)).heap[w1.heap.size + 1]? = some (.cells #[.int .i64 (L1 : Int), .string T] 76 (0, 0)) := by
            have h := heap_alloc_new (w1.drew.alloc (.cells #[] 76)) (.cells #[.int .i64 (L1 : Int), .string T] 76)
            rw [World.size_alloc] at h
            exact h
          obtain ⟨va, vc, wC, hrC, hoC, kC, kEC, hnC⟩ := copy_run (E := w1.heap.size) (w1 := w1) (wB := (w1.drew.alloc (.cells #[] 76)).alloc (.cells #[.int .i64 (L1 : Int), .string T] 76)) (Src.row (ownsRow_kp HRow.out ((kD0.more (Keep.alloc (fun _ => False) w1.drew (.cells #[] 76))).more (Keep.alloc (fun _ => False) (w1.drew.alloc (.cells #[] 76)) (.cells #[.int .i64 (L1 : Int), .string T] 76))) fun _ _ f => f)) (itm_one _) hlen ((kD0.more (Keep.alloc (fun _ => False) w1.drew (.cells #[] 76))).more (Keep.alloc (fun _ => False) (w1.drew.alloc (.cells #[] 76)) (.cells #[.int .i64 (L1 : Int), .string T] 76))) hEB (Nat.le_refl _)
          refine step_append_run rfl _ _ _ rfl _ _ rfl rfl hrC ?_
          refine hK.out _ _ (HS7.out _ kC) (fun hHeld => ?_)
          clear hK K
          try simp only [Act.put]
          obtain ⟨xa, xc, wF, hrF, hoF, kF, hnF⟩ := more_run hoC kC hnC (Src.item (I := w1.heap.size + 1) (by rw [HT.out]; exact (kEC.blk hIB (fun e => by omega)))) (itm_one _) (by omega)
          refine wpAnyH_ready (rs := [14]) (by kernel_rfl) (by simp) ?_
          refine AllReadyH.cons (o := _) rfl (fun K hK => ?_) AllReadyH.nil
          refine step_append_run rfl _ _ _ rfl _ _ rfl rfl hrF ?_
          refine hK.out _ _ (HS7.out _ kF) (fun hHeld => ?_)
          clear hK K
          try simp only [Act.put, List.setIfInBounds_toArray]
          refine wpAnyH_take (i := 15) (oi := _) (v := ?_) rfl (by kernel_rfl) (by kernel_rfl) (by kernel_rfl) (fun _ _ _ h => h) (Or.inl ⟨by rfl, ?_⟩) (by assumption) ?_
          rotate_left
          · (intro w hSw; (try dsimp only at hSw); go_simp)
            all_goals with_reducible rfl
          go_simp
          refine wpAnyH_take (i := 16) (oi := _) (v := ?_) rfl (by kernel_rfl) (by kernel_rfl) (by kernel_rfl) (fun _ _ _ h => h) (Or.inl ⟨by rfl, ?_⟩) (by assumption) ?_
          rotate_left
          · (intro w hSw; (try dsimp only at hSw); go_simp)
            all_goals with_reducible rfl
          go_simp
          refine wpAnyH_take (i := 17) (oi := _) (v := ?_) rfl (by kernel_rfl) (by kernel_rfl) (by kernel_rfl) (fun _ _ _ h => h) (Or.inl ⟨by rfl, ?_⟩) (by assumption) ?_
          rotate_left
          · (intro w hSw; (try dsimp only at hSw); go_simp)
            all_goals with_reducible rfl
          go_simp
          refine wpAnyH_done (by kernel_rfl) ?_ _
          simp only [RL.endQ]
          have HPn := hide (HD1.out.put (t := s.push k) kF (by rw [show itm (s.push k).row = itm s.row ++ itm [(L1, k)] from (by rw [← itm_append, ← HL.out]; rfl), show (s.push k).row.length = n + 1 from (by rw [← HN.out]; exact List.length_append)]; exact hoF) hnF rfl HL.out rfl)
          have x1 := kF.cell (cell_blk HD1.out.blk 1 (v := .int .i64 (L1 : Int)) rfl) fun f => f
          have x2 := kF.cell (cell_blk HD1.out.blk 2 (v := .slice a n c) rfl) fun f => f
          have f2 := frozen_blk (kF.blk HD1.out.blk fun f => f) 2
          unfold Oper.wp
          go_simp
          go_wp2_with fail
          go_ret2
          exact ⟨rfl, HPn.out.1.mono fun i e => e.imp (fun x => x) fun e => Nat.le_trans K1.out.size e, (K1.out.more HPn.out.2)⟩
      · rw [if_pos (by rfl)]
        unfold Oper.wp
        go_simp
        refine hK.out _ _ (HS7.out _ (kD0.more (Keep.alloc (fun _ => False) w1.drew (.cells #[.int .i64 (L1 : Int), .string T] 76)))) (fun hHeld => ?_)
        clear hK K
        try simp only [Act.put, List.setIfInBounds_toArray, List.set_cons_zero, List.set_cons_succ]
        refine wpAnyH_ready (rs := [1]) (by kernel_rfl) (by simp) ?_
        refine AllReadyH.cons (o := _) rfl (fun K hK => ?_) AllReadyH.nil
        rw [if_pos (by rfl)]
        unfold Oper.wp
        go_simp
        refine hK.out _ _ (HS7.out _ ((kD0.more (Keep.alloc (fun _ => False) w1.drew (.cells #[.int .i64 (L1 : Int), .string T] 76))).more (Keep.alloc (fun _ => False) (w1.drew.alloc (.cells #[.int .i64 (L1 : Int), .string T] 76)) (.cells #[] 76)))) (fun hHeld => ?_)
        clear hK K
        try simp only [Act.put, List.setIfInBounds_toArray, List.set_cons_zero, List.set_cons_succ]
        refine wpAnyH_ready (rs := [6]) (by kernel_rfl) (by simp) ?_
        refine AllReadyH.cons (o := _) rfl (fun K hK => ?_) AllReadyH.nil
        have hIB : ((w1.drew.alloc (.cells #[.int .i64 (L1 : Int), .string T] 76)).alloc (.cells #[] 76)).heap[w1.heap.size]? = some (.cells #[.int .i64 (L1 : Int), .string T] 76 (0, 0)) := (Below.heap_alloc _ _ _ (by simp)).trans (heap_alloc_new w1.drew _)
        have hEB : ((w1.drew.alloc (.cells #[.int .i64 (L1 : Int), .string T] 76)).alloc (.cells #[] 76)).heap[w1.heap.size + 1]? = some (.cells #[] 76 (0, 0)) := by
          have h := heap_alloc_new (w1.drew.alloc (.cells #[.int .i64 (L1 : Int), .string T] 76)) (.cells #[] 76)
          rw [World.size_alloc] at h
          exact h
        obtain ⟨va, vc, wC, hrC, hoC, kC, kEC, hnC⟩ := copy_run (E := w1.heap.size + 1) (w1 := w1) (wB := (w1.drew.alloc (.cells #[.int .i64 (L1 : Int), .string T] 76)).alloc (.cells #[] 76)) (Src.row (ownsRow_kp HRow.out ((kD0.more (Keep.alloc (fun _ => False) w1.drew (.cells #[.int .i64 (L1 : Int), .string T] 76))).more (Keep.alloc (fun _ => False) (w1.drew.alloc (.cells #[.int .i64 (L1 : Int), .string T] 76)) (.cells #[] 76))) fun _ _ f => f)) (itm_one _) hlen ((kD0.more (Keep.alloc (fun _ => False) w1.drew (.cells #[.int .i64 (L1 : Int), .string T] 76))).more (Keep.alloc (fun _ => False) (w1.drew.alloc (.cells #[.int .i64 (L1 : Int), .string T] 76)) (.cells #[] 76))) hEB (Nat.le_succ _)
        refine step_append_run rfl _ _ _ rfl _ _ rfl rfl hrC ?_
        refine hK.out _ _ (HS7.out _ kC) (fun hHeld => ?_)
        clear hK K
        try simp only [Act.put]
        obtain ⟨xa, xc, wF, hrF, hoF, kF, hnF⟩ := more_run hoC kC hnC (Src.item (I := w1.heap.size) (by rw [HT.out]; exact (kEC.blk hIB (fun e => by omega)))) (itm_one _) (by omega)
        refine wpAnyH_ready (rs := [14]) (by kernel_rfl) (by simp) ?_
        refine AllReadyH.cons (o := _) rfl (fun K hK => ?_) AllReadyH.nil
        refine step_append_run rfl _ _ _ rfl _ _ rfl rfl hrF ?_
        refine hK.out _ _ (HS7.out _ kF) (fun hHeld => ?_)
        clear hK K
        try simp only [Act.put, List.setIfInBounds_toArray]
        refine wpAnyH_take (i := 15) (oi := _) (v := ?_) rfl (by kernel_rfl) (by kernel_rfl) (by kernel_rfl) (fun _ _ _ h => h) (Or.inl ⟨by rfl, ?_⟩) (by assumption) ?_
        rotate_left
        · (intro w hSw; (try dsimp only at hSw); go_simp)
          all_goals with_reducible rfl
        go_simp
        refine wpAnyH_take (i := 16) (oi := _) (v := ?_) rfl (by kernel_rfl) (by kernel_rfl) (by kernel_rfl) (fun _ _ _ h => h) (Or.inl ⟨by rfl, ?_⟩) (by assumption) ?_
        rotate_left
        · (intro w hSw; (try dsimp only at hSw); go_simp)
          all_goals with_reducible rfl
        go_simp
        refine wpAnyH_take (i := 17) (oi := _) (v := ?_) rfl (by kernel_rfl) (by kernel_rfl) (by kernel_rfl) (fun _ _ _ h => h) (Or.inl ⟨by rfl, ?_⟩) (by assumption) ?_
        rotate_left
        · (intro w hSw; (try dsimp only at hSw); go_simp)
          all_goals with_reducible rfl
        go_simp
        refine wpAnyH_done (by kernel_rfl) ?_ _
        simp only [RL.endQ]
        have HPn := hide (HD1.out.put (t := s.push k) kF (by rw [show itm (s.push k).row = itm s.row ++ itm [(L1, k)] from (by rw [← itm_append, ← HL.out]; rfl), show (s.push k).row.length = n + 1 from (by rw [← HN.out]; exact List.length_append)]; exact hoF) hnF rfl HL.out rfl)
        have x1 := kF.cell (cell_blk HD1.out.blk 1 (v := .int .i64 (L1 : Int)) rfl) fun f => f
        have x2 := kF.cell (cell_blk HD1.out.blk 2 (v := .slice a n c) rfl) fun f => f
        have f2 := frozen_blk (kF.blk HD1.out.blk fun f => f) 2
        unfold Oper.wp
        go_simp
        go_wp2_with fail
        go_ret2
        exact ⟨rfl, HPn.out.1.mono fun i e => e.imp (fun x => x) fun e => Nat.le_trans K1.out.size e, (K1.out.more HPn.out.2)⟩
end Qu
end Go.Proofs.Ytdokpaljlpfcjaa
