/- Chapter 8's laws: the document's queue in a row (ag_gen.py, out of QDo7.part). -/
import Derived.Test.YtdokpaljlpfcjaaQDo4
import Derived.Test.YtdokpaljlpfcjaaQWho
import Derived.Test.YtdokpaljlpfcjaaRLst
import Derived.BigQuiet
import Derived.Deep.Cut
namespace Go.Proofs.Ytdokpaljlpfcjaa
namespace Qu
open Go.RowKit

theorem app_runI {w : World} {v : Value} {B n : Nat} {xs : List Value} (h : w.ownsRow B 3 1 v n xs) (hB : B ≤ w.heap.size) {I : Nat} {x y : Int} (hI : w.heap[I]? = some (.cells #[.int .i64 x, .int .i64 y] 3 (0, 0))) (hn : n + 2 ≤ 1048576) (ty : TypeId) :
    ∃ a c w', (Builtin.append_ #[37, 37] ty #[v, .slice (some ⟨I, 0, none⟩) 2 2]).run Try.prog w = .ok (.slice a (n + 2) c) w' ∧ w'.ownsRow B 3 1 (.slice a (n + 2) c) (n + 2) (xs ++ [.int .i64 x, .int .i64 y]) ∧ Keep (fun k => v.ownBlock = some k) w w' := by
  obtain ⟨i0, hi, hz0, hz1, hz2⟩ := info_parts info_int
  obtain ⟨v', w', h2, h3, h4, _, _⟩ := run_append_own_at (P := Try.prog) w B 37 ty 3 i0 (.int .i64 0) 1 8 Try.underlying37 hi hz0 hz1 hz2 rfl (by decide) v n xs h ⟨I, 0, none⟩ 2 2 [.int .i64 x, .int .i64 y] rfl (fun j u hu => by rw [Addr.add_mid, Nat.zero_add]; exact cell_blk hI j (by simpa using hu)) (fun u hu => by simp at hu; rcases hu with rfl | rfl <;> rfl) (by unfold maxLen; omega) (by omega) hB
  obtain ⟨a, c, rfl, _⟩ := ownsRow_sh h3
  exact ⟨a, c, w', h2, h3, ⟨h4.os, h4.tape, h4.output, h4.size, fun k hk hn => h4.block k hk fun e => hn e.symm⟩⟩
set_option maxRecDepth 100000 in
set_option maxHeartbeats 4000000 in
theorem refRow_any {S : Nat → Prop} {P : Nat} {s : St Int} (w : World) (h : Dq S w P s) (hr : ∀ e ∈ s.row, KI.ok e.2) (hlen : s.row.length ≤ 65536) :
    Calls Try.prog 14 #[.pointer (some ⟨P, 0, none⟩)] w (Whole w s.row) := by
  obtain ⟨v, h⟩ := h
  obtain ⟨a, c, rfl, _⟩ := ownsRow_sh h.row
  have HD := hide h
  have HR := hide hr
  obtain ⟨n, hn⟩ : ∃ n, s.row.length = n := ⟨_, rfl⟩
  have hb := h.blk
  rw [hn] at hb hlen
  have HB := hide hb
  have HN := hide hn
  clear h hr hb hn
  go_enter Try.func14, Try.ntmps14
  go_wp2
  go_loopw [3, 4] (fun v iv wx => ∃ (i : Nat) (u : Value), u = v ∧ iv = .int .i64 (i : Nat) ∧ i ≤ n ∧ Hid (wx.ownsRow w.heap.size 3 1 u (i * 2) (flat KI (s.row.take i)) ∧ Keep (fun _ => False) w wx)) (fun _ iv _ => n - (intOf iv).toNat)
  case atStart => exact ⟨0, _, rfl, rfl, Nat.zero_le _, World.ownsRow_nil _ _ _ _, Keep.refl _ _⟩
  case round =>
    obtain ⟨i, u, rfl, rfl, hi, HI⟩ := hrel
    have c2 := HI.out.2.cell (cell_blk HB.out 2 (v := .slice a n c) rfl) fun f => f
    by_cases hlt : i < n
    · have hlt' : (i : Int) < (n : Int) := by omega
      obtain ⟨⟨nm, k⟩, he⟩ : ∃ e, s.row[i]? = some e := ⟨_, List.getElem?_eq_getElem (by rw [HN.out]; exact hlt)⟩
      obtain ⟨g, cap, hv, z1, z2⟩ := HD.out.at_ he
      injection hv with hv _ hc
      subst hv hc
      have hkk := HR.out _ (List.mem_of_getElem? he)
      have HNu := hide fun W => number_any k hkk.1 hkk.2 W
      have z1 := HI.out.2.cell z1 fun f => f
      have z2 := HI.out.2.cell z2 fun f => f
      have HTk : Hid (flat KI (s.row.take (i + 1)) = flat KI (s.row.take i) ++ [.int .i64 (nm : Int), .int .i64 k]) := by
        show _ = _
        rw [List.take_add_one, he, flat_append]
        rfl
      have HJX := hide hlt
      have HS5 : Hid (∀ W, Keep (fun _ => False) wr W → (fun W' : World => W'.cell? ⟨P, 2, none⟩ = some (.slice (some ⟨g, 0, none⟩) n c) ∧ W'.cell? ⟨g, i * 2, none⟩ = some (.int .i64 (nm : Int)) ∧ W'.cell? ⟨g, i * 2 + 1, none⟩ = some (.string (tx k))) W) := fun W kk => ⟨kk.cell c2 fun f => f, kk.cell z1 fun f => f, kk.cell z2 fun f => f⟩
      obtain ⟨T, hT⟩ : ∃ T, tx k = T := ⟨_, rfl⟩
      rw [hT] at HNu z2 HS5
      clear hkk hT he
      go_upto_region 5 with fail
      refine RL.wp_region_held_last (S := fun W' : World => W'.cell? ⟨P, 2, none⟩ = some (.slice (some ⟨g, 0, none⟩) n c) ∧ W'.cell? ⟨g, i * 2, none⟩ = some (.int .i64 (nm : Int)) ∧ W'.cell? ⟨g, i * 2 + 1, none⟩ = some (.string T)) rfl (by kernel_rfl) (by kernel_rfl) (HS5.out _ (Keep.drew _ _)) (fun hHeld => ?_)
      change wpAnyH _ _ _ _ _ 21 (Array.replicate 21 false) _ _
      simp only [List.dropLast, List.getLast, List.cons_append, List.nil_append, RL.still]
      refine wpAnyH_take (i := 0) (oi := _) (v := ?_) rfl (by kernel_rfl) (by kernel_rfl) (by kernel_rfl) (fun _ _ _ h => h) (Or.inl ⟨by rfl, ?_⟩) (by assumption) ?_
      rotate_left
      · (intro w hSw; (try dsimp only at hSw); go_simp)
        all_goals with_reducible rfl
      go_simp
      refine wpAnyH_take (i := 1) (oi := _) (v := ?_) rfl (by kernel_rfl) (by kernel_rfl) (by kernel_rfl) (fun _ _ _ h => h) (Or.inl ⟨by rfl, ?_⟩) (by assumption) ?_
      rotate_left
      · (intro w hSw; (try dsimp only at hSw); go_simp)
        all_goals with_reducible rfl
      go_simp
      refine wpAnyH_take (i := 2) (oi := _) (v := ?_) rfl (by kernel_rfl) (by kernel_rfl) (by kernel_rfl) (fun _ _ _ h => h) (Or.inl ⟨by rfl, ?_⟩) (by assumption) ?_
      rotate_left
      · (intro w hSw; (try dsimp only at hSw); go_simp)
        all_goals with_reducible rfl
      go_simp
      refine wpAnyH_take (i := 3) (oi := _) (v := ?_) rfl (by kernel_rfl) (by kernel_rfl) (by kernel_rfl) (fun _ _ _ h => h) (Or.inl ⟨by rfl, ?_⟩) (by assumption) ?_
      rotate_left
      · (intro w hSw; (try dsimp only at hSw); go_simp)
        all_goals with_reducible rfl
      go_simp
      refine wpAnyH_take (i := 4) (oi := _) (v := ?_) rfl (by kernel_rfl) (by kernel_rfl) (by kernel_rfl) (fun _ _ _ h => h) (Or.inl ⟨by rfl, ?_⟩) (by assumption) ?_
      rotate_left
      · (intro w hSw; (try dsimp only at hSw); go_simp)
        all_goals with_reducible rfl
      go_simp
      refine wpAnyH_take (i := 5) (oi := _) (v := ?_) rfl (by kernel_rfl) (by kernel_rfl) (by kernel_rfl) (fun _ _ _ h => h) (Or.inl ⟨by rfl, ?_⟩) (by assumption) ?_
      rotate_left
      · (intro w hSw; (try dsimp only at hSw); go_simp)
        all_goals with_reducible rfl
      go_simp
      refine wpAnyH_take (i := 6) (oi := _) (v := ?_) rfl (by kernel_rfl) (by kernel_rfl) (by kernel_rfl) (fun _ _ _ h => h) (Or.inl ⟨by rfl, ?_⟩) (by assumption) ?_
      rotate_left
      · (intro w hSw; (try dsimp only at hSw); go_simp)
        all_goals with_reducible rfl
      go_simp
      refine wpAnyH_take (i := 7) (oi := _) (v := ?_) rfl (by kernel_rfl) (by kernel_rfl) (by kernel_rfl) (fun _ _ _ h => h) (Or.inl ⟨by rfl, ?_⟩) (by assumption) ?_
      rotate_left
      · (intro w hSw; (try dsimp only at hSw); go_simp)
        all_goals with_reducible rfl
      go_simp
      refine wpAnyH_take (i := 8) (oi := _) (v := ?_) rfl (by kernel_rfl) (by kernel_rfl) (by kernel_rfl) (fun _ _ _ h => h) (Or.inl ⟨by rfl, ?_⟩) (by assumption) ?_
      rotate_left
      · (intro w hSw; (try dsimp only at hSw); go_simp)
        all_goals with_reducible rfl
      go_simp
      refine wpAnyH_take (i := 9) (oi := _) (v := ?_) rfl (by kernel_rfl) (by kernel_rfl) (by kernel_rfl) (fun _ _ _ h => h) (Or.inl ⟨by rfl, ?_⟩) (by assumption) ?_
      rotate_left
      · (intro w hSw; (try dsimp only at hSw); go_simp)
        all_goals with_reducible rfl
      go_simp
      refine wpAnyH_take (i := 10) (oi := _) (v := ?_) rfl (by kernel_rfl) (by kernel_rfl) (by kernel_rfl) (fun _ _ _ h => h) (Or.inl ⟨by rfl, ?_⟩) (by assumption) ?_
      rotate_left
      · (intro w hSw; (try dsimp only at hSw); go_simp)
        all_goals with_reducible rfl
      go_simp
      refine wpAnyH_take (i := 11) (oi := _) (v := ?_) rfl (by kernel_rfl) (by kernel_rfl) (by kernel_rfl) (fun _ _ _ h => h) (Or.inl ⟨by rfl, ?_⟩) (by assumption) ?_
      rotate_left
      · (intro w hSw; (try dsimp only at hSw); go_simp)
        all_goals with_reducible rfl
      go_simp
      refine wpAnyH_take (i := 12) (oi := _) (v := ?_) rfl (by kernel_rfl) (by kernel_rfl) (by kernel_rfl) (fun _ _ _ h => h) (Or.inl ⟨by rfl, ?_⟩) (by assumption) ?_
      rotate_left
      · (intro w hSw; (try dsimp only at hSw); go_simp)
        all_goals with_reducible rfl
      go_simp
      refine wpAnyH_take (i := 13) (oi := _) (v := ?_) rfl (by kernel_rfl) (by kernel_rfl) (by kernel_rfl) (fun _ _ _ h => h) (Or.inl ⟨by rfl, ?_⟩) (by assumption) ?_
      rotate_left
      · (intro w hSw; (try dsimp only at hSw); go_simp)
        all_goals with_reducible rfl
      go_simp
      refine wpAnyH_take (i := 14) (oi := _) (v := ?_) rfl (by kernel_rfl) (by kernel_rfl) (by kernel_rfl) (fun _ _ _ h => h) (Or.inl ⟨by rfl, ?_⟩) (by assumption) ?_
      rotate_left
      · (intro w hSw; (try dsimp only at hSw); go_simp)
        all_goals with_reducible rfl
      go_simp
      refine wpAnyH_take (i := 15) (oi := _) (v := ?_) rfl (by kernel_rfl) (by kernel_rfl) (by kernel_rfl) (fun _ _ _ h => h) (Or.inl ⟨by rfl, ?_⟩) (by assumption) ?_
      rotate_left
      · (intro w hSw; (try dsimp only at hSw); go_simp)
        all_goals with_reducible rfl
      go_simp
      refine wpAnyH_take (i := 16) (oi := _) (v := ?_) rfl (by kernel_rfl) (by kernel_rfl) (by kernel_rfl) (fun _ _ _ h => h) (Or.inl ⟨by rfl, ?_⟩) (by assumption) ?_
      rotate_left
      · (intro w hSw; (try dsimp only at hSw); go_simp)
        all_goals with_reducible rfl
      go_simp
      have kD0 : Keep (fun _ => False) wr wr.drew := Keep.drew _ _
      refine wpAnyH_ready (rs := [17]) (by kernel_rfl) (by simp) ?_
      refine AllReadyH.cons (o := _) rfl (fun K hK => ?_) AllReadyH.nil
      rw [if_pos (by rfl)]
      go_simp
      go_at_call 30
      refine (HNu.out _).mono ?_
      rintro e w7 ⟨rfl, hw7⟩
      have hw7 := hw7.symm
      subst hw7
      go_simp
      refine hK.out _ _ (HS5.out _ kD0) (fun hHeld => ?_)
      clear hK K
      try simp only [Act.put, List.setIfInBounds_toArray, List.set_cons_zero, List.set_cons_succ]
      have kA := kD0.more (Keep.alloc (fun _ => False) wr.drew (.cells #[.int .i64 (nm : Int), .int .i64 k] 3))
      refine wpAnyH_ready (rs := [18]) (by kernel_rfl) (by simp) ?_
      refine AllReadyH.cons (o := _) rfl (fun K hK => ?_) AllReadyH.nil
      rw [if_pos (by rfl)]
      unfold Oper.wp
      go_simp
      refine hK.out _ _ (HS5.out _ kA) (fun hHeld => ?_)
      clear hK K
      try simp only [Act.put, List.setIfInBounds_toArray, List.set_cons_zero, List.set_cons_succ]
      obtain ⟨xa, xc, wF, hrF, hoF, kF⟩ := app_runI (ownsRow_kp HI.out.1 kA fun _ _ f => f) (Nat.le_trans HI.out.2.size kA.size) (heap_alloc_new wr.drew _) (by omega) 37
      have kW := low0 (HI.out.2.more kA) kF fun b e => (HI.out.1.lt b e).1
      have kWr : Keep (fun k => u.ownBlock = some k) wr wF := (kA.mono fun _ f => f.elim).more kF
      have hS6 : (fun W' : World => W'.cell? ⟨P, 2, none⟩ = some (.slice (some ⟨g, 0, none⟩) n c) ∧ W'.cell? ⟨g, i * 2, none⟩ = some (.int .i64 (nm : Int)) ∧ W'.cell? ⟨g, i * 2 + 1, none⟩ = some (.string T)) wF := by
        have hu : ∀ b, u.ownBlock = some b → w.heap.size ≤ b := fun b e => (HI.out.1.lt b e).1
        have hP : P < w.heap.size := (Array.getElem?_eq_some_iff.1 HB.out).1
        have hg : g < w.heap.size := (HD.out.row.lt g rfl).2
        exact ⟨kWr.cell c2 fun e => by have := hu P e; omega, kWr.cell z1 fun e => by have := hu g e; omega, kWr.cell z2 fun e => by have := hu g e; omega⟩
      refine wpAnyH_ready (rs := [19]) (by kernel_rfl) (by simp) ?_
      refine AllReadyH.cons (o := _) rfl (fun K hK => ?_) AllReadyH.nil
      refine step_append_run rfl _ _ _ rfl _ _ rfl rfl hrF ?_
      refine hK.out _ _ hS6 (fun hHeld => ?_)
      clear hK K
      try simp only [Act.put, List.setIfInBounds_toArray]
      refine wpAnyH_take (i := 20) (oi := _) (v := ?_) rfl (by kernel_rfl) (by kernel_rfl) (by kernel_rfl) (fun _ _ _ h => h) (Or.inl ⟨by rfl, ?_⟩) (by assumption) ?_
      rotate_left
      · (intro w hSw; (try dsimp only at hSw); go_simp)
        all_goals with_reducible rfl
      go_simp
      refine wpAnyH_done (by kernel_rfl) ?_ _
      simp only [RL.endQ]
      unfold Oper.wp
      go_simp
      have HFo := hide hoF
      have HKw := hide kW
      go_wp2_with fail
      go_roundw
      case rel => exact ⟨i + 1, _, rfl, by go_num, by have := HJX.out; omega, by rw [HTk.out, show (i + 1) * 2 = i * 2 + 2 by omega]; exact HFo.out, HKw.out⟩
      case measure => have := HJX.out; simp [intOf]; omega
    · have hlt' : ¬ (i : Int) < (n : Int) := by omega
      obtain rfl : i = n := by omega
      obtain ⟨xa, xc, hu, _⟩ := ownsRow_sh HI.out.1
      subst hu
      go_wp2
      go_ret
      have h1 := HI.out.1
      rw [List.take_of_length_le (by rw [HN.out]; exact Nat.le_refl _)] at h1
      refine ⟨xa, xc, by rw [HN.out]; rfl, ?_, HI.out.2⟩
      rw [HN.out]
      exact h1
end Qu
end Go.Proofs.Ytdokpaljlpfcjaa
