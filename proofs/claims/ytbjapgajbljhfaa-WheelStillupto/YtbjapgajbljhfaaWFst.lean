/- Package wheel: first: the slot that comes first. -/
import Derived.Test.YtbjapgajbljhfaaWSch
namespace Go.Proofs.Ytbjapgajbljhfaa
namespace Wh
open Go.RowKit

theorem bg_fit {n l i : Nat} (hn : n ≤ M) (hl : l < 11) (hi64 : i < 64) (h10 : l = 10 → i ≤ 5) : bg n l i < 2 ^ 63 := by
  by_cases h : l = 10
  · subst h
    have : hi n 11 = 0 := Nat.div_eq_of_lt (by unfold M at hn; omega)
    unfold bg
    rw [this]
    have := h10 rfl
    omega
  · have h1 : hi n (l + 1) * 64 ^ (l + 1) ≤ n := Nat.div_mul_le_self _ _
    have h2 : bg n l i < (hi n (l + 1) + 1) * 64 ^ (l + 1) := by
      unfold bg
      rw [Nat.pow_succ, Nat.mul_comm (64 ^ l) 64, ← Nat.mul_assoc]
      exact Nat.mul_lt_mul_of_pos_right (by omega) (p64 l)
    have h3 : 64 ^ (l + 1) ≤ 64 ^ 10 := Nat.pow_le_pow_right (by decide) (by omega)
    rw [Nat.add_mul, Nat.one_mul] at h2
    unfold M at hn
    omega
theorem bg_ten {n to : Nat} (hn : n ≤ M) (hto : to ≤ M) : to < bg n 10 5 := by
  have : hi n 11 = 0 := Nat.div_eq_of_lt (by unfold M at hn; omega)
  unfold bg
  rw [this]
  unfold M at hto
  omega
theorem dg_ten {n : Nat} (hn : n ≤ M) : dg n 10 ≤ 4 := by
  unfold dg hi
  unfold M at hn
  omega

theorem Ok.emp_start {s : St} (h : Ok s) {l : Nat} (he : Emp s.row l 0) : Emp s.row l (dg s.now l) := by
  rintro l' i' (h1 | ⟨rfl, h1⟩)
  · exact he _ _ (.inl h1)
  · exact h.low h1
theorem emp_next {row : Nat → Nat → List Nat} {l i : Nat} (he : Emp row l i) (h : row l i = []) : Emp row l (i + 1) := by
  rintro l' i' (h1 | ⟨rfl, h1⟩)
  · exact he _ _ (.inl h1)
  · rcases Nat.lt_or_ge i' i with h2 | h2
    · exact he _ _ (.inr ⟨rfl, h2⟩)
    · obtain rfl : i' = i := by omega
      exact h
theorem Ok.emp_up {s : St} (h : Ok s) {l : Nat} (he : Emp s.row l 64) : Emp s.row (l + 1) 0 := by
  rintro l' i' (h1 | ⟨_, h1⟩)
  · rcases Nat.lt_or_ge l' l with h2 | h2
    · exact he _ _ (.inl h2)
    · obtain rfl : l' = l := by omega
      rcases Nat.lt_or_ge i' 64 with h3 | h3
      · exact he _ _ (.inr ⟨rfl, h3⟩)
      · exact h.high (.inr h3)
  · omega

/-- what first answers -/
def Firsts (s : St) (w : World) (to : Nat) (e : Ending) (w' : World) : Prop := Keep (fun _ => False) w w' ∧
  ((∃ l i : Nat, e = .returned (.tuple #[.agg #[.int .i64 l, .int .i64 i], .bool true]) ∧ l < 11 ∧ i < 64 ∧ Emp s.row l i ∧ s.row l i ≠ [] ∧ bg s.now l i ≤ to) ∨
   (e = .returned (.tuple #[.agg #[.int .i64 0, .int .i64 0], .bool false]) ∧ ((∃ l i, i < 64 ∧ Emp s.row l i ∧ to < bg s.now l i) ∨ s.ids = [])))

theorem keep_res {w wz : World} (k : Keep (fun _ => False) w wz) (a b : Value) : Keep (fun _ => False) w ((wz.setCell ⟨w.heap.size, 0, none⟩ a).setCell ⟨w.heap.size, 1, none⟩ b) :=
  k.trans (T := fun i => i = w.heap.size) ((keep_cell _ _ _ _).more (keep_cell _ _ _ _)) fun i e => .inr (by omega)

set_option maxRecDepth 100000 in
set_option maxHeartbeats 4000000 in
theorem firstI {S : Nat → Prop} {P m : Nat} {at_ : Nat → Nat} {s : St} (to : Nat) (w : World) (hok : Ok s) (h : WIn 75 80 S w P m at_ s.row s) (hto : to ≤ M) :
    Calls Try.prog 26 #[.pointer (some ⟨P, 0, none⟩), .int .i64 to] w (Firsts s w to) := by
  have H := hide h
  have HO := hide hok
  clear h hok
  go_enter Try.func26, Try.ntmps26
  go_wp2
  go_step3
  go_wp2
  go_step3
  go_wp2
  obtain ⟨w1, hw1⟩ : ∃ w1, w1 = w.alloc (.cells #[.int .i64 0, .int .i64 0] 65) := ⟨_, rfl⟩
  rw [← hw1]
  have HW1 := hide hw1
  clear hw1
  go_loopw [9] (fun c wr => ∃ l : Nat, c = .int .i64 (l : Nat) ∧ l ≤ 11 ∧ Hid (Emp s.row l 0) ∧ Hid (Keep (fun _ => False) w1 wr)) (fun c _ => 11 - (intOf c).toNat)
  case atStart => exact ⟨0, rfl, by omega, (fun l' i' h => by omega), Keep.refl _ _⟩
  case round =>
    obtain ⟨l, rfl, hl, HE, HK⟩ := hrel
    have hcell : ∀ wx, Keep (fun _ => False) w1 wx → wx.heap[w.heap.size]? = some (.cells #[.int .i64 0, .int .i64 0] 65 (0, 0)) := fun wx k => k.blk (by rw [HW1.out]; exact heap_alloc_new _ _) fun f => f
    have HC := hide hcell
    have hin : ∀ wx, Keep (fun _ => False) w1 wx → WIn 75 80 S wx P m at_ s.row s := fun wx k => H.out.stay ((show Keep (fun _ => False) w w1 by rw [HW1.out]; exact Keep.alloc _ _ _).more k) (fun _ _ _ h => h) HO.out.rows1.sub
    have HN := hide hin
    have k01 : Keep (fun _ => False) w w1 := by rw [HW1.out]; exact Keep.alloc _ _ _
    have K01 := hide k01
    clear hcell hin k01
    rcases Nat.lt_or_ge l 11 with hl11 | hl11
    · have c0 := (HN.out wr HK.out).cnow
      go_wp2_with (go_at_call 45; refine (digitOf_any s.now l _ hl11).mono ?_; rintro e w2 ⟨rfl, rfl⟩)
      go_loopw [7] (fun c wx => ∃ i : Nat, c = .int .i64 (i : Nat) ∧ i ≤ 64 ∧ (l = 10 → i ≤ 5) ∧ Hid (Emp s.row l i) ∧ Hid (Keep (fun _ => False) w1 wx)) (fun c _ => 64 - (intOf c).toNat)
      case atStart => exact ⟨dg s.now l, rfl, Nat.le_of_lt (dg_lt _ _), (fun e => by subst e; have := dg_ten HO.out.nowM; omega), HO.out.emp_start HE.out, HK.out⟩
      case round =>
        obtain ⟨i, rfl, hi64, h10, HE2, HK2⟩ := hrel
        rcases Nat.lt_or_ge i 64 with hi | hi
        · have hlt := HK2.out.size
          have hbg := bg_fit HO.out.nowM hl11 hi h10
          have kal : Keep (fun _ => False) w1 (wr.alloc (.cells #[.int .i64 (l : Int), .int .i64 (i : Int)] 65)) := HK2.out.more (Keep.alloc _ _ _)
          have KAL := hide kal
          clear kal
          rcases Nat.lt_or_ge to (bg s.now l i) with hcmp | hcmp
          · go_wp2_with (go_at_call 46; refine (beginI l i _ (HN.out _ KAL.out) hl11 (M_lt HO.out.nowM) hbg).mono ?_; rintro e w3 ⟨rfl, k3⟩
                         have K3 := hide (KAL.out.more k3)
                         have r0 := cell_blk (HC.out _ K3.out) 0 (v := .int .i64 0) rfl
                         have r1 := cell_blk (HC.out _ K3.out) 1 (v := .int .i64 0) rfl
                         have q0 := frozen_blk (HC.out _ K3.out) 0
                         have q1 := frozen_blk (HC.out _ K3.out) 1
                         clear k3)
            rw [Exit.noGoto_ret]
            exact bodyPost_ret (res_place2 rfl _ _ w.heap.size _ _ _ rfl (set_blk (set_blk (HC.out _ K3.out) 0 _) 1 _) rfl) rfl ⟨keep_res (K01.out.more K3.out) _ _, .inr ⟨rfl, .inl ⟨l, i, hi, HE2.out, hcmp⟩⟩⟩
          · have h5 : ¬ (l = 10 ∧ i = 5) := fun ⟨e1, e2⟩ => by subst e1 e2; have := bg_ten HO.out.nowM hto; omega
            cases hrow : s.row l i with
            | nil =>
              have HR := hide hrow
              clear hrow
              go_wp2_with (first
                | (go_at_call 46; refine (beginI l i _ (HN.out _ KAL.out) hl11 (M_lt HO.out.nowM) hbg).mono ?_; rintro e w3 ⟨rfl, k3⟩
                   have K3 := hide (KAL.out.more k3)
                   have b0 := k3.cell (p := ⟨wr.heap.size, 0, none⟩) (v := .int .i64 (l : Int)) (cell_blk (heap_alloc_new _ _) 0 rfl) fun f => f
                   have b1 := k3.cell (p := ⟨wr.heap.size, 1, none⟩) (v := .int .i64 (i : Int)) (cell_blk (heap_alloc_new _ _) 1 rfl) fun f => f
                   clear k3)
                | (go_at_call 27; refine (slotI P l i _ hl11 hi).mono ?_; rintro e w4 ⟨rfl, k4⟩
                   have K4 := hide (K3.out.more k4)
                   have cf := (HN.out _ K4.out).cfst hl11 hi
                   rw [HR.out] at cf
                   simp only [List.head?_nil, ptr] at cf
                   clear k4))
              exact ⟨⟨i + 1, by congr 1, by omega, fun e => by have := h10 e; omega, emp_next HE2.out HR.out, K4.out⟩, by simp [intOf]; omega⟩
            | cons a t =>
              have HR := hide hrow
              clear hrow
              go_wp2_with (first
                | (go_at_call 46; refine (beginI l i _ (HN.out _ KAL.out) hl11 (M_lt HO.out.nowM) hbg).mono ?_; rintro e w3 ⟨rfl, k3⟩
                   have K3 := hide (KAL.out.more k3)
                   have b0 := k3.cell (p := ⟨wr.heap.size, 0, none⟩) (v := .int .i64 (l : Int)) (cell_blk (heap_alloc_new _ _) 0 rfl) fun f => f
                   have b1 := k3.cell (p := ⟨wr.heap.size, 1, none⟩) (v := .int .i64 (i : Int)) (cell_blk (heap_alloc_new _ _) 1 rfl) fun f => f
                   clear k3)
                | (go_at_call 27; refine (slotI P l i _ hl11 hi).mono ?_; rintro e w4 ⟨rfl, k4⟩
                   have K4 := hide (K3.out.more k4)
                   have cf := (HN.out _ K4.out).cfst hl11 hi
                   rw [HR.out] at cf
                   simp only [List.head?_cons, ptr] at cf
                   have d0 := k4.cell b0 fun f => f
                   have d1 := k4.cell b1 fun f => f
                   have r0 := cell_blk (HC.out _ K4.out) 0 (v := .int .i64 0) rfl
                   have r1 := cell_blk (HC.out _ K4.out) 1 (v := .int .i64 0) rfl
                   have q0 := frozen_blk (HC.out _ K4.out) 0
                   have q1 := frozen_blk (HC.out _ K4.out) 1
                   clear k4))
              rw [Exit.noGoto_ret]
              exact bodyPost_ret (res_place2 rfl _ _ w.heap.size _ _ _ rfl (set_blk (set_blk (HC.out _ K4.out) 0 _) 1 _) rfl) rfl ⟨keep_res (K01.out.more K4.out) _ _, .inl ⟨l, i, rfl, hl11, hi, HE2.out, by rw [HR.out]; simp, hcmp⟩⟩
        · obtain rfl : i = 64 := by omega
          have hn10 : l ≠ 10 := fun e => by have := h10 e; omega
          go_wp2
          exact ⟨⟨l + 1, by congr 1, by omega, HO.out.emp_up HE2.out, HK2.out⟩, by simp [intOf]; omega⟩
    · obtain rfl : l = 11 := by omega
      have r0 := cell_blk (HC.out _ HK.out) 0 (v := .int .i64 0) rfl
      have r1 := cell_blk (HC.out _ HK.out) 1 (v := .int .i64 0) rfl
      have q0 := frozen_blk (HC.out _ HK.out) 0
      have q1 := frozen_blk (HC.out _ HK.out) 1
      go_wp2
      try rw [Exit.noGoto_ret]
      exact bodyPost_ret (res_place2 rfl _ _ w.heap.size _ _ _ rfl (set_blk (set_blk (HC.out _ HK.out) 0 _) 1 _) rfl) rfl ⟨keep_res (K01.out.more HK.out) _ _, .inr ⟨rfl, .inr (List.eq_nil_iff_forall_not_mem.2 fun id hid => HO.out.none_of_end HE.out id hid)⟩⟩
set_option maxRecDepth 100000 in
set_option maxHeartbeats 4000000 in
theorem firstS {S : Nat → Prop} {P m : Nat} {at_ : Nat → Nat} {s : St} (to : Nat) (w : World) (hok : Ok s) (h : WIn 95 97 S w P m at_ s.row s) (hto : to ≤ M) :
    Calls Try.prog 41 #[.pointer (some ⟨P, 0, none⟩), .int .i64 to] w (Firsts s w to) := by
  have H := hide h
  have HO := hide hok
  clear h hok
  go_enter Try.func41, Try.ntmps41
  go_wp2
  go_step3
  go_wp2
  go_step3
  go_wp2
  obtain ⟨w1, hw1⟩ : ∃ w1, w1 = w.alloc (.cells #[.int .i64 0, .int .i64 0] 65) := ⟨_, rfl⟩
  rw [← hw1]
  have HW1 := hide hw1
  clear hw1
  go_loopw [9] (fun c wr => ∃ l : Nat, c = .int .i64 (l : Nat) ∧ l ≤ 11 ∧ Hid (Emp s.row l 0) ∧ Hid (Keep (fun _ => False) w1 wr)) (fun c _ => 11 - (intOf c).toNat)
  case atStart => exact ⟨0, rfl, by omega, (fun l' i' h => by omega), Keep.refl _ _⟩
  case round =>
    obtain ⟨l, rfl, hl, HE, HK⟩ := hrel
    have hcell : ∀ wx, Keep (fun _ => False) w1 wx → wx.heap[w.heap.size]? = some (.cells #[.int .i64 0, .int .i64 0] 65 (0, 0)) := fun wx k => k.blk (by rw [HW1.out]; exact heap_alloc_new _ _) fun f => f
    have HC := hide hcell
    have hin : ∀ wx, Keep (fun _ => False) w1 wx → WIn 95 97 S wx P m at_ s.row s := fun wx k => H.out.stay ((show Keep (fun _ => False) w w1 by rw [HW1.out]; exact Keep.alloc _ _ _).more k) (fun _ _ _ h => h) HO.out.rows1.sub
    have HN := hide hin
    have k01 : Keep (fun _ => False) w w1 := by rw [HW1.out]; exact Keep.alloc _ _ _
    have K01 := hide k01
    clear hcell hin k01
    rcases Nat.lt_or_ge l 11 with hl11 | hl11
    · have c0 := (HN.out wr HK.out).cnow
      go_wp2_with (go_at_call 45; refine (digitOf_any s.now l _ hl11).mono ?_; rintro e w2 ⟨rfl, rfl⟩)
      go_loopw [7] (fun c wx => ∃ i : Nat, c = .int .i64 (i : Nat) ∧ i ≤ 64 ∧ (l = 10 → i ≤ 5) ∧ Hid (Emp s.row l i) ∧ Hid (Keep (fun _ => False) w1 wx)) (fun c _ => 64 - (intOf c).toNat)
      case atStart => exact ⟨dg s.now l, rfl, Nat.le_of_lt (dg_lt _ _), (fun e => by subst e; have := dg_ten HO.out.nowM; omega), HO.out.emp_start HE.out, HK.out⟩
      case round =>
        obtain ⟨i, rfl, hi64, h10, HE2, HK2⟩ := hrel
        rcases Nat.lt_or_ge i 64 with hi | hi
        · have hlt := HK2.out.size
          have hbg := bg_fit HO.out.nowM hl11 hi h10
          have kal : Keep (fun _ => False) w1 (wr.alloc (.cells #[.int .i64 (l : Int), .int .i64 (i : Int)] 65)) := HK2.out.more (Keep.alloc _ _ _)
          have KAL := hide kal
          clear kal
          rcases Nat.lt_or_ge to (bg s.now l i) with hcmp | hcmp
          · go_wp2_with (go_at_call 52; refine (beginS l i _ (HN.out _ KAL.out) hl11 (M_lt HO.out.nowM) hbg).mono ?_; rintro e w3 ⟨rfl, k3⟩
                         have K3 := hide (KAL.out.more k3)
                         have r0 := cell_blk (HC.out _ K3.out) 0 (v := .int .i64 0) rfl
                         have r1 := cell_blk (HC.out _ K3.out) 1 (v := .int .i64 0) rfl
                         have q0 := frozen_blk (HC.out _ K3.out) 0
                         have q1 := frozen_blk (HC.out _ K3.out) 1
                         clear k3)
            rw [Exit.noGoto_ret]
            exact bodyPost_ret (res_place2 rfl _ _ w.heap.size _ _ _ rfl (set_blk (set_blk (HC.out _ K3.out) 0 _) 1 _) rfl) rfl ⟨keep_res (K01.out.more K3.out) _ _, .inr ⟨rfl, .inl ⟨l, i, hi, HE2.out, hcmp⟩⟩⟩
          · have h5 : ¬ (l = 10 ∧ i = 5) := fun ⟨e1, e2⟩ => by subst e1 e2; have := bg_ten HO.out.nowM hto; omega
            cases hrow : s.row l i with
            | nil =>
              have HR := hide hrow
              clear hrow
              go_wp2_with (first
                | (go_at_call 52; refine (beginS l i _ (HN.out _ KAL.out) hl11 (M_lt HO.out.nowM) hbg).mono ?_; rintro e w3 ⟨rfl, k3⟩
                   have K3 := hide (KAL.out.more k3)
                   have b0 := k3.cell (p := ⟨wr.heap.size, 0, none⟩) (v := .int .i64 (l : Int)) (cell_blk (heap_alloc_new _ _) 0 rfl) fun f => f
                   have b1 := k3.cell (p := ⟨wr.heap.size, 1, none⟩) (v := .int .i64 (i : Int)) (cell_blk (heap_alloc_new _ _) 1 rfl) fun f => f
                   clear k3)
                | (go_at_call 38; refine (slotS P l i _ hl11 hi).mono ?_; rintro e w4 ⟨rfl, k4⟩
                   have K4 := hide (K3.out.more k4)
                   have cf := (HN.out _ K4.out).cfst hl11 hi
                   rw [HR.out] at cf
                   simp only [List.head?_nil, ptr] at cf
                   clear k4))
              exact ⟨⟨i + 1, by congr 1, by omega, fun e => by have := h10 e; omega, emp_next HE2.out HR.out, K4.out⟩, by simp [intOf]; omega⟩
            | cons a t =>
              have HR := hide hrow
              clear hrow
              go_wp2_with (first
                | (go_at_call 52; refine (beginS l i _ (HN.out _ KAL.out) hl11 (M_lt HO.out.nowM) hbg).mono ?_; rintro e w3 ⟨rfl, k3⟩
                   have K3 := hide (KAL.out.more k3)
                   have b0 := k3.cell (p := ⟨wr.heap.size, 0, none⟩) (v := .int .i64 (l : Int)) (cell_blk (heap_alloc_new _ _) 0 rfl) fun f => f
                   have b1 := k3.cell (p := ⟨wr.heap.size, 1, none⟩) (v := .int .i64 (i : Int)) (cell_blk (heap_alloc_new _ _) 1 rfl) fun f => f
                   clear k3)
                | (go_at_call 38; refine (slotS P l i _ hl11 hi).mono ?_; rintro e w4 ⟨rfl, k4⟩
                   have K4 := hide (K3.out.more k4)
                   have cf := (HN.out _ K4.out).cfst hl11 hi
                   rw [HR.out] at cf
                   simp only [List.head?_cons, ptr] at cf
                   have d0 := k4.cell b0 fun f => f
                   have d1 := k4.cell b1 fun f => f
                   have r0 := cell_blk (HC.out _ K4.out) 0 (v := .int .i64 0) rfl
                   have r1 := cell_blk (HC.out _ K4.out) 1 (v := .int .i64 0) rfl
                   have q0 := frozen_blk (HC.out _ K4.out) 0
                   have q1 := frozen_blk (HC.out _ K4.out) 1
                   clear k4))
              rw [Exit.noGoto_ret]
              exact bodyPost_ret (res_place2 rfl _ _ w.heap.size _ _ _ rfl (set_blk (set_blk (HC.out _ K4.out) 0 _) 1 _) rfl) rfl ⟨keep_res (K01.out.more K4.out) _ _, .inl ⟨l, i, rfl, hl11, hi, HE2.out, by rw [HR.out]; simp, hcmp⟩⟩
        · obtain rfl : i = 64 := by omega
          have hn10 : l ≠ 10 := fun e => by have := h10 e; omega
          go_wp2
          exact ⟨⟨l + 1, by congr 1, by omega, HO.out.emp_up HE2.out, HK2.out⟩, by simp [intOf]; omega⟩
    · obtain rfl : l = 11 := by omega
      have r0 := cell_blk (HC.out _ HK.out) 0 (v := .int .i64 0) rfl
      have r1 := cell_blk (HC.out _ HK.out) 1 (v := .int .i64 0) rfl
      have q0 := frozen_blk (HC.out _ HK.out) 0
      have q1 := frozen_blk (HC.out _ HK.out) 1
      go_wp2
      try rw [Exit.noGoto_ret]
      exact bodyPost_ret (res_place2 rfl _ _ w.heap.size _ _ _ rfl (set_blk (set_blk (HC.out _ HK.out) 0 _) 1 _) rfl) rfl ⟨keep_res (K01.out.more HK.out) _ _, .inr ⟨rfl, .inr (List.eq_nil_iff_forall_not_mem.2 fun id hid => HO.out.none_of_end HE.out id hid)⟩⟩

end Wh
end Go.Proofs.Ytbjapgajbljhfaa
