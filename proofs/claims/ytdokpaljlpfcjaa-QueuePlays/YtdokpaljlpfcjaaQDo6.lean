/- Chapter 8's laws: the document's queue: Remove (ag_gen.py, out of QDo6.part). -/
import Derived.Test.YtdokpaljlpfcjaaQDo4
import Derived.Test.YtdokpaljlpfcjaaRLst
import Derived.BigQuiet
import Derived.Deep.Cut
namespace Go.Proofs.Ytdokpaljlpfcjaa
namespace Qu
open Go.RowKit

theorem slice_hi_runQ (g n cap hi : Nat) (h : hi ≤ cap) (w : World) : (Instr.slice 47 (.slice (some ⟨g, 0, none⟩) n cap) none (some (.int .i64 (hi : Int))) none).run Try.prog w = .ok (.slice (some ⟨g, 0, none⟩) hi cap) w := by
  have e : (Instr.slice 47 (.slice (some ⟨g, 0, none⟩) n cap) none (some (.int .i64 (hi : Int))) none).run Try.prog w = .ok (.slice (some ⟨g, 0, none⟩) hi cap) w := by go_simp
  exact e
theorem erase_parts (r : List (Nat × Int)) (i : Nat) : r.eraseIdx i = r.take i ++ r.drop (i + 1) := List.eraseIdx_eq_take_drop_succ r i
set_option maxRecDepth 100000 in
set_option maxHeartbeats 4000000 in
theorem refRemove_any {S : Nat → Prop} {P : Nat} {s : St Int} (k : Int) (w : World) (h : Dq S w P s) (hr : ∀ e ∈ s.row, KI.ok e.2) (hk : KI.ok k) (hlen : s.row.length ≤ 65536) :
    Calls Try.prog 32 #[.pointer (some ⟨P, 0, none⟩), .string (tx k)] w fun e w' => e = .returned (.int .i64 ((aheadR s.row k).2 : Nat)) ∧ Dq (fun i => S i ∨ w.heap.size ≤ i) w' P (s.remove k) ∧ Keep S w w' := by
  have HA := hide (refAhead_any k w h hr hk hlen)
  have HQ := hide h
  cases hi : idxL s.row k with
  | none =>
    have e0 : aheadR s.row k = (0, 83) := by simp [aheadR, hi]
    have e1 : s.remove k = s := by simp [St.remove, hi]
    rw [e0] at HA ⊢
    rw [e1]
    clear h hr hk hi e0 e1
    generalize tx k = T at *
    go_enter Try.func32, Try.ntmps32
    go_wp2_with (go_at_call 33; refine HA.out.mono ?_; rintro e w1 ⟨rfl, hw⟩; have hw := hw.symm; subst hw)
    go_ret
    exact ⟨rfl, HQ.out.mono fun i e => .inl e, Keep.refl _ _⟩
  | some i =>
    have e0 : aheadR s.row k = (i, 0) := by simp [aheadR, hi]
    have e1 : s.remove k = s.take i := by simp [St.remove, hi]
    obtain ⟨nn, hget, _⟩ := idx_get hi
    have hil : i < s.row.length := (List.getElem?_eq_some_iff.1 hget).1
    rw [e0] at HA ⊢
    rw [e1]
    obtain ⟨v, h⟩ := h
    obtain ⟨g, cap, hv, _, _⟩ := h.at_ hget
    subst hv
    obtain ⟨a', c', e, _, hcap⟩ := ownsRow_sh h.row
    injection e with ea _ ec
    subst ea ec
    obtain ⟨n, hn⟩ : ∃ n, s.row.length = n := ⟨_, rfl⟩
    have hrow := h.row
    rw [hn] at hrow hcap hlen hil
    obtain ⟨A1, hA1⟩ : ∃ A1, A1 = i + 1 := ⟨_, rfl⟩
    have ha1 : (i : Int) + 1 = (A1 : Int) := by omega
    have hwA : IntKind.i64.wrap (A1 : Int) = (A1 : Int) := wrapI (by omega)
    have hsl1 := slice_hi_runQ g n cap i (by omega)
    have hsl2 := slice_lo_run g n cap A1 (by omega) hcap
    have HRow := hide hrow
    have HD := hide h
    have HN := hide hn
    have HA1 := hide hA1
    have hb := h.blk
    rw [hn] at hb
    have HB := hide hb
    have hA1n : A1 ≤ n := by omega
    clear h hr hk hi e0 e1 hget hrow hn hA1 hb
    generalize tx k = T at *
    go_enter Try.func32, Try.ntmps32
    go_upto_region 4 with (go_at_call 33; refine HA.out.mono ?_; rintro e w1 ⟨rfl, hw⟩; have hw := hw.symm; subst hw)
    have HS7 : Hid (∀ W, Keep (fun _ => False) w W → (fun W' : World => W'.cell? ⟨P, 2, none⟩ = some (.slice (some ⟨g, 0, none⟩) n cap)) W) := fun W kk => kk.cell (cell_blk HB.out 2 rfl) fun f => f
    refine RL.wp_region_held_last (S := fun W' : World => W'.cell? ⟨P, 2, none⟩ = some (.slice (some ⟨g, 0, none⟩) n cap)) rfl (by kernel_rfl) (by kernel_rfl) (HS7.out _ (Keep.drew _ _)) (fun hHeld => ?_)
    change wpAnyH _ _ _ _ _ 20 (Array.replicate 20 false) _ _
    simp only [List.dropLast, List.getLast, List.cons_append, List.nil_append, RL.still]
    refine wpAnyH_take (i := 0) (oi := _) (v := ?_) rfl (by kernel_rfl) (by kernel_rfl) (by kernel_rfl) (fun _ _ _ h => h) (Or.inl ⟨by rfl, ?_⟩) (by assumption) ?_
    rotate_left
    · (intro w hSw; (try dsimp only at hSw); go_simp)
      all_goals with_reducible rfl
    go_simp
    refine wpAnyH_take (i := 2) (oi := _) (v := ?_) rfl (by kernel_rfl) (by kernel_rfl) (by kernel_rfl) (fun _ _ _ h => h) (Or.inl ⟨by rfl, ?_⟩) (by assumption) ?_
    rotate_left
    · (intro w hSw; (try dsimp only at hSw); go_simp)
      all_goals with_reducible rfl
    go_simp
    refine wpAnyH_take (i := 3) (oi := _) (v := ?_) rfl (by kernel_rfl) (by kernel_rfl) (by kernel_rfl) (fun _ _ _ h => h) (Or.inl ⟨by rfl, ?_⟩) (by assumption) ?_
    rotate_left
    · (intro w hSw; (try dsimp only at hSw); go_simp)
      all_goals with_reducible rfl
    go_simp
    refine wpAnyH_take (i := 4) (oi := _) (v := ?_) rfl (by kernel_rfl) (by kernel_rfl) (by kernel_rfl) (fun _ _ _ h => h) (Or.inl ⟨by rfl, ?_⟩) (by assumption) ?_
    rotate_left
    · (intro w hSw; (try dsimp only at hSw); go_simp)
      all_goals with_reducible rfl
    go_simp
    refine wpAnyH_take (i := 5) (oi := _) (v := ?_) rfl (by kernel_rfl) (by kernel_rfl) (by kernel_rfl) (fun _ _ _ h => h) (Or.inl ⟨by rfl, ?_⟩) (by assumption) ?_
    rotate_left
    · (intro w hSw; (try dsimp only at hSw); go_simp)
      all_goals with_reducible rfl
    go_simp
    refine wpAnyH_take (i := 6) (oi := _) (v := ?_) rfl (by kernel_rfl) (by kernel_rfl) (by kernel_rfl) (fun _ _ _ h => h) (Or.inl ⟨by rfl, ?_⟩) (by assumption) ?_
    rotate_left
    · (intro w hSw; (try dsimp only at hSw); go_simp)
      all_goals with_reducible rfl
    go_simp
    refine wpAnyH_take (i := 7) (oi := _) (v := ?_) rfl (by kernel_rfl) (by kernel_rfl) (by kernel_rfl) (fun _ _ _ h => h) (Or.inl ⟨by rfl, ?_⟩) (by assumption) ?_
    rotate_left
    · (intro w hSw; (try dsimp only at hSw); go_simp)
      all_goals with_reducible rfl
    go_simp
    refine wpAnyH_take (i := 9) (oi := _) (v := ?_) rfl (by kernel_rfl) (by kernel_rfl) (by kernel_rfl) (fun _ _ _ h => h) (Or.inl ⟨by rfl, ?_⟩) (by assumption) ?_
    rotate_left
    · (intro w hSw; (try dsimp only at hSw); go_simp)
      all_goals with_reducible rfl
    go_simp
    refine wpAnyH_take (i := 10) (oi := _) (v := ?_) rfl (by kernel_rfl) (by kernel_rfl) (by kernel_rfl) (fun _ _ _ h => h) (Or.inl ⟨by rfl, ?_⟩) (by assumption) ?_
    rotate_left
    · (intro w hSw; (try dsimp only at hSw); go_simp)
      all_goals with_reducible rfl
    go_simp
    refine wpAnyH_take (i := 11) (oi := _) (v := ?_) rfl (by kernel_rfl) (by kernel_rfl) (by kernel_rfl) (fun _ _ _ h => h) (Or.inl ⟨by rfl, ?_⟩) (by assumption) ?_
    rotate_left
    · (intro w hSw; (try dsimp only at hSw); go_simp)
      all_goals with_reducible rfl
    go_simp
    refine wpAnyH_take (i := 12) (oi := _) (v := ?_) rfl (by kernel_rfl) (by kernel_rfl) (by kernel_rfl) (fun _ _ _ h => h) (Or.inl ⟨by rfl, ?_⟩) (by assumption) ?_
    rotate_left
    · (intro w hSw; (try dsimp only at hSw); go_simp)
      all_goals with_reducible rfl
    go_simp
    refine wpAnyH_take (i := 13) (oi := _) (v := ?_) rfl (by kernel_rfl) (by kernel_rfl) (by kernel_rfl) (fun _ _ _ h => h) (Or.inl ⟨by rfl, ?_⟩) (by assumption) ?_
    rotate_left
    · (intro w hSw; (try dsimp only at hSw); go_simp)
      all_goals with_reducible rfl
    go_simp
    refine wpAnyH_take (i := 14) (oi := _) (v := ?_) rfl (by kernel_rfl) (by kernel_rfl) (by kernel_rfl) (fun _ _ _ h => h) (Or.inl ⟨by rfl, ?_⟩) (by assumption) ?_
    rotate_left
    · (intro w hSw; (try dsimp only at hSw); go_simp)
      all_goals with_reducible rfl
    go_simp
    refine wpAnyH_take (i := 15) (oi := _) (v := ?_) rfl (by kernel_rfl) (by kernel_rfl) (by kernel_rfl) (fun _ _ _ h => h) (Or.inl ⟨by rfl, ?_⟩) (by assumption) ?_
    rotate_left
    · (intro w hSw; (try dsimp only at hSw); go_simp)
      all_goals with_reducible rfl
    go_simp
    have kD0 : Keep (fun _ => False) w w.drew := Keep.drew _ _
    have kA := kD0.more (Keep.alloc (fun _ => False) w.drew (.cells #[] 76))
    refine wpAnyH_ready (rs := [1]) (by kernel_rfl) (by simp) ?_
    refine AllReadyH.cons (o := _) rfl (fun K hK => ?_) AllReadyH.nil
    rw [if_pos (by rfl)]
    unfold Oper.wp
    go_simp
    refine hK.out _ _ (HS7.out _ kA) (fun hHeld => ?_)
    clear hK K
    try simp only [Act.put, List.setIfInBounds_toArray, List.set_cons_zero, List.set_cons_succ]
    obtain ⟨va, vc, wC, hrC, hoC, kC, kEC, hnC⟩ := copy_run (E := w.heap.size) (w1 := w) (wB := w.drew.alloc (.cells #[] 76)) (Src.head (ownsRow_kp HRow.out kA fun _ _ f => f) HN.out.symm i cap (by omega)) (itm_one _) (by omega) kA (heap_alloc_new w.drew _) (Nat.le_refl _)
    refine wpAnyH_ready (rs := [8]) (by kernel_rfl) (by simp) ?_
    refine AllReadyH.cons (o := _) rfl (fun K hK => ?_) AllReadyH.nil
    refine step_append_run rfl _ _ _ rfl _ _ rfl rfl hrC ?_
    refine hK.out _ _ (HS7.out _ kC) (fun hHeld => ?_)
    clear hK K
    try simp only [Act.put]
    obtain ⟨xa, xc, wF, hrF, hoF, kF, hnF⟩ := more_run hoC kC hnC (Src.cut (ownsRow_kp HRow.out kC fun _ _ f => f) HN.out.symm hcap A1 (cap - A1) hA1n) (itm_one _) (by omega)
    refine wpAnyH_ready (rs := [16]) (by kernel_rfl) (by simp) ?_
    refine AllReadyH.cons (o := _) rfl (fun K hK => ?_) AllReadyH.nil
    refine step_append_run rfl _ _ _ rfl _ _ rfl rfl hrF ?_
    refine hK.out _ _ (HS7.out _ kF) (fun hHeld => ?_)
    clear hK K
    try simp only [Act.put, List.setIfInBounds_toArray]
    refine wpAnyH_take (i := 17) (oi := _) (v := ?_) rfl (by kernel_rfl) (by kernel_rfl) (by kernel_rfl) (fun _ _ _ h => h) (Or.inl ⟨by rfl, ?_⟩) (by assumption) ?_
    rotate_left
    · (intro w hSw; (try dsimp only at hSw); go_simp)
      all_goals with_reducible rfl
    go_simp
    refine wpAnyH_take (i := 18) (oi := _) (v := ?_) rfl (by kernel_rfl) (by kernel_rfl) (by kernel_rfl) (fun _ _ _ h => h) (Or.inl ⟨by rfl, ?_⟩) (by assumption) ?_
    rotate_left
    · (intro w hSw; (try dsimp only at hSw); go_simp)
      all_goals with_reducible rfl
    go_simp
    refine wpAnyH_take (i := 19) (oi := _) (v := ?_) rfl (by kernel_rfl) (by kernel_rfl) (by kernel_rfl) (fun _ _ _ h => h) (Or.inl ⟨by rfl, ?_⟩) (by assumption) ?_
    rotate_left
    · (intro w hSw; (try dsimp only at hSw); go_simp)
      all_goals with_reducible rfl
    go_simp
    refine wpAnyH_done (by kernel_rfl) ?_ _
    simp only [RL.endQ]
    have HPn := hide (HD.out.put (t := s.take i) kF (by rw [show itm (s.take i).row = itm (s.row.take i) ++ itm (s.row.drop A1) from (by rw [← itm_append, HA1.out]; exact congrArg itm (erase_parts s.row i)), show (s.take i).row.length = i + (n - A1) from (by show (s.row.eraseIdx i).length = _; rw [List.length_eraseIdx, HN.out, if_pos hil, HA1.out]; omega)]; exact hoF) hnF rfl rfl rfl)
    have x2 := kF.cell (cell_blk HB.out 2 (v := .slice (some ⟨g, 0, none⟩) n cap) rfl) fun f => f
    have f2 := frozen_blk (kF.blk HB.out fun f => f) 2
    unfold Oper.wp
    go_simp
    go_wp2_with fail
    go_ret
    exact ⟨rfl, HPn.out⟩
end Qu
end Go.Proofs.Ytdokpaljlpfcjaa
