/- SumCuts. -/
import Derived.Test.YtciehainhhkikaaOpenI
namespace Go.Proofs.Ytciehainhhkikaa
open Go.ChangeShapes Go.WideShapes Go.ChangeAt Go.RowKit Go.Joins

theorem cut_more (l : List Nat) (p t : Nat) (hp : p ≤ t) (hd : ∀ d ∈ l, d < 256) : M.more (M.more 0 (l.take p)) ((l.take t).drop p) = M.more 0 (l.take t) := by
  rw [← M.more_append _ _ _ (take_lt l hd p)]
  congr 1
  have e := List.take_append_drop p (l.take t)
  rw [List.take_take, Nat.min_eq_left hp] at e
  exact e

theorem cut_join (l : List Nat) (p t : Nat) (hp : p ≤ t) (hd : ∀ d ∈ l, d < 256) : M.itZ (8 * ((l.take t).drop p).length) (M.more 0 (l.take p)) ^^^ M.more 0 ((l.take t).drop p) = M.more 0 (l.take t) := by
  rw [← cut_more l p t hp hd, ← M.more_join _ (M.more_lt _ _) _ (fun d hd' => hd d (List.mem_of_mem_take (List.mem_of_mem_drop hd')))]

set_option maxHeartbeats 2000000 in
set_option maxRecDepth 100000 in
theorem cuts_walk (a : Option Addr) (n c : Nat) (l : List Nat) (a1 : Option Addr) (m c1 : Nat) (z : List Int) (w : World) (h : Rd w a n l) (hc : n ≤ c) (hz : RdI w a1 m z) :
    Calls Try.prog 7 #[.slice a n c, .slice a1 m c1] w fun e w' => e = .returned (.bool true) ∧ Below w.heap.size w w' := by
  have hn := h.2.1
  have hm := hz.1
  have hlen := h.1
  have HLen := hide hlen
  have HH := hide h
  have HZ := hide hz
  have HN : Hid (Rd w none 0 []) := ⟨rfl, by decide, by simp, .inl rfl⟩
  clear h hz hlen
  go_enter Try.func7, Try.ntmps7
  go_wp2_with fail
  refine (awake_any _).mono ?_
  rintro e w1 ⟨rfl, hb1⟩
  go_wp2_with fail
  refine (sum_any _ _ _ _ _ (HH.out.below (Nat.le_refl _) hb1)).mono ?_
  rintro e w2 ⟨rfl, hb2'⟩
  have hb2 := hb1.trans (hb2'.mono hb1.size)
  clear hb1 hb2'
  go_wp2_with fail
  refine (sum_any _ _ _ _ _ (HN.out.below (Nat.le_refl _) hb2)).mono ?_
  rintro e w3 ⟨rfl, hb3'⟩
  have hb3 := hb2.trans (hb3'.mono hb2.size)
  clear hb2 hb3'
  go_wp2_with fail
  go_loopw [7, 8, 9, 10] (fun s j at_ i wx => ∃ k p : Nat, k ≤ m + 1 ∧ p ≤ n ∧ (k = m + 1 → p = n) ∧ i = .int .i64 k ∧ at_ = .int .i64 p ∧ s = .int .u32 (M.more 0 (l.take p) : Nat) ∧ j = .int .u32 (M.more 0 (l.take p) : Nat) ∧ Below w.heap.size w wx) (fun _ _ _ i _ => m + 1 - (intOf i).toNat)
  case atStart => exact ⟨0, 0, by omega, by omega, by omega, rfl, rfl, by rw [List.take_zero], by rw [List.take_zero, M.more_nil (by decide)]; rfl, hb3⟩
  case round =>
    obtain ⟨k, p, hk, hp, hkp, rfl, rfl, rfl, rfl, hb⟩ := hrel
    have HB := hide hb
    have HKP := hide hkp
    clear hb hkp hb3
    by_cases hlt : k < m
    · obtain ⟨_, hrow⟩ := HZ.out
      rcases hrow with h0 | ⟨b, off, rfl, hrow⟩
      · omega
      · obtain ⟨hcell, hz1, hz2⟩ := hrow k hlt
        rw [← HB.out.cell (p := ⟨b, off + k, none⟩) (block_lt_of_cell hcell)] at hcell
        clear hrow
        generalize z.getD k 0 = zk at *
        go_wp2_with fail
        refine (pick_any _ _ hz1 hz2 (by omega) (by omega) _).mono ?_
        rintro e w' ⟨q, rfl, hq, rfl⟩
        clear hcell
        obtain ⟨t, ht⟩ : ∃ t, t = p + q := ⟨_, rfl⟩
        have hpt : p ≤ t := by omega
        have htn : t ≤ n := by omega
        have hadd : (p : Int) + (q : Int) = (t : Int) := by omega
        clear ht
        obtain ⟨a', hsl, hrd⟩ := slice_rd HH.out c p t hc hpt htn
        obtain ⟨a'', hsl0, hrf⟩ := slice0_rd HH.out c t hc htn
        have HRD := hide hrd
        have HRF := hide hrf
        have HCM := hide (cut_more l p t hpt HH.out.2.2.1)
        have HCJ := hide (cut_join l p t hpt HH.out.2.2.1)
        rw [← hrd.1] at HCJ
        clear hrd hrf
        go_wp2_with fail
        have r1 := HRD.out.below (Nat.le_refl _) HB.out
        refine (twin_any _ _ _ _ _ r1).mono ?_
        rintro e w4 ⟨rfl, hz4, ho4, hb4⟩
        have HB4 := hide (HB.out.trans (hb4.mono HB.out.size))
        have r4 := hide (ho4.rdn (t - p) r1.1 r1.2.1 r1.2.2.1)
        clear r1 hz4 ho4 hb4
        go_wp2_with fail
        refine (more_any _ (M.more_lt _ _) _ _ _ _ _ r4.out).mono ?_
        rintro e w5 ⟨rfl, hb5⟩
        have HB5 := hide (HB4.out.trans (hb5.mono HB4.out.size))
        have r5 := hide (r4.out.below (Nat.le_refl _) hb5)
        rw [HCM.out]
        clear hb5 HB4 r4
        go_wp2_with fail
        refine (sum_any _ _ _ _ _ r5.out).mono ?_
        rintro e w6 ⟨rfl, hb6⟩
        have HB6 := hide (HB5.out.trans (hb6.mono HB5.out.size))
        clear hb6 HB5 r5
        go_wp2_with fail
        refine (join_any _ _ (t - p) (M.more_lt _ _) (M.more_lt _ _) (by omega) _).mono ?_
        rintro e w7 ⟨rfl, rfl⟩
        rw [HCJ.out]
        go_wp2_with fail
        refine (twin_any _ _ _ _ _ (HRF.out.below (Nat.le_refl _) HB6.out)).mono ?_
        rintro e w8 ⟨rfl, hz8, ho8, hb8⟩
        have r8 := hide (ho8.rdn t HRF.out.1 HRF.out.2.1 HRF.out.2.2.1)
        have HB8 := hide (HB6.out.trans (hb8.mono HB6.out.size))
        clear hz8 ho8 hb8 HB6
        go_wp2_with fail
        refine (sum_any _ _ _ _ _ r8.out).mono ?_
        rintro e w9 ⟨rfl, hb9⟩
        have HB9 := hide (HB8.out.trans (hb9.mono HB8.out.size))
        clear hb9 HB8 r8
        have hne : (((M.more 0 (l.take t) : Nat) : Int) != ((M.more 0 (l.take t) : Nat) : Int)) = false := by simp
        go_wp2
        exact ⟨⟨k + 1, t, by omega, htn, by omega, by go_num, rfl, rfl, rfl, HB9.out⟩, by simp [intOf]; omega⟩
    · by_cases hlt2 : k = m
      · have hk1 : (k : Int) ≤ (m : Int) := by omega
        have hk2 : ¬ (k : Int) < (m : Int) := by omega
        have HK := hide hlt2
        clear hlt2
        obtain ⟨a', hsl, hrd⟩ := slice_rd HH.out c p n hc hp (Nat.le_refl _)
        obtain ⟨a'', hsl0, hrf⟩ := slice0_rd HH.out c n hc (Nat.le_refl _)
        have HRD := hide hrd
        have HRF := hide hrf
        have HCM := hide (cut_more l p n hp HH.out.2.2.1)
        have HCJ := hide (cut_join l p n hp HH.out.2.2.1)
        rw [← hrd.1] at HCJ
        clear hrd hrf
        go_wp2_with fail
        have r1 := HRD.out.below (Nat.le_refl _) HB.out
        refine (twin_any _ _ _ _ _ r1).mono ?_
        rintro e w4 ⟨rfl, hz4, ho4, hb4⟩
        have HB4 := hide (HB.out.trans (hb4.mono HB.out.size))
        have r4 := hide (ho4.rdn (n - p) r1.1 r1.2.1 r1.2.2.1)
        clear r1 hz4 ho4 hb4
        go_wp2_with fail
        refine (more_any _ (M.more_lt _ _) _ _ _ _ _ r4.out).mono ?_
        rintro e w5 ⟨rfl, hb5⟩
        have HB5 := hide (HB4.out.trans (hb5.mono HB4.out.size))
        have r5 := hide (r4.out.below (Nat.le_refl _) hb5)
        rw [HCM.out]
        clear hb5 HB4 r4
        go_wp2_with fail
        refine (sum_any _ _ _ _ _ r5.out).mono ?_
        rintro e w6 ⟨rfl, hb6⟩
        have HB6 := hide (HB5.out.trans (hb6.mono HB5.out.size))
        clear hb6 HB5 r5
        go_wp2_with fail
        refine (join_any _ _ (n - p) (M.more_lt _ _) (M.more_lt _ _) (by omega) _).mono ?_
        rintro e w7 ⟨rfl, rfl⟩
        rw [HCJ.out]
        go_wp2_with fail
        refine (twin_any _ _ _ _ _ (HRF.out.below (Nat.le_refl _) HB6.out)).mono ?_
        rintro e w8 ⟨rfl, hz8, ho8, hb8⟩
        have r8 := hide (ho8.rdn n HRF.out.1 HRF.out.2.1 HRF.out.2.2.1)
        have HB8 := hide (HB6.out.trans (hb8.mono HB6.out.size))
        clear hz8 ho8 hb8 HB6
        go_wp2_with fail
        refine (sum_any _ _ _ _ _ r8.out).mono ?_
        rintro e w9 ⟨rfl, hb9⟩
        have HB9 := hide (HB8.out.trans (hb9.mono HB8.out.size))
        clear hb9 HB8 r8
        have hne : (((M.more 0 (l.take n) : Nat) : Int) != ((M.more 0 (l.take n) : Nat) : Int)) = false := by simp
        go_wp2
        exact ⟨⟨k + 1, n, by omega, Nat.le_refl _, fun _ => rfl, by go_num, rfl, rfl, rfl, HB9.out⟩, by simp [intOf]; have := HK.out; omega⟩
      · obtain rfl : k = m + 1 := by omega
        obtain rfl := HKP.out rfl
        have hl : l.take p = l := List.take_of_length_le (by have := HLen.out; omega)
        go_wp2
        go_ret
        exact ⟨by simp, HB.out⟩

namespace Cuts
set_option maxRecDepth 100000 in
theorem lifted (os : Os) (started : os.Started) (H : Type) (enc : TypeId × Value → H) :
    ReturnsInHanded {} Try.checked os 7 .any (Rows.sumCutsSpec.pre6 enc Try.prog Try.f7 Rows.sumCutsRow.domain false) (Rows.sumCutsSpec.post enc Try.prog Try.f7 false true false false) := by
  refine returnsInHanded_of_change_sized (C := Try.checked) own started (by kernel_rfl) Try.func7
    (ChangeSpec.witness6 (enc := enc) (C := Try.checked) false ⟨#[], #[.slice none 0 0, .slice none 0 0], []⟩ 8 (by kernel_rfl) (by kernel_rfl) (by kernel_rfl) (by kernel_rfl)) ?_
  intro W base args ds gs before hval0 hW _ hsz0 _
  have hsz : (DataW.weightsEach Try.prog (Try.f7.params.toList ++ Rows.sumCutsSpec.plain.varTypes Try.prog) (ds ++ gs)).all (· ≤ reachBytes) = true := hsz0
  have hval : ∀ (j : Nat) t v, Try.f7.params[j]? = some t → args[j]? = some v → Value.okWide Try.prog W .any base t v := hval0
  have hW' := hW
  obtain ⟨p, q, hA0, hV, rfl, hfz, hnd⟩ := hW
  have hA : DataW.TrodAll enc Try.prog W 0 (fun _ => true) true Try.f7.params.toList args.toList ds p := hA0
  rw [Try.params7] at hA hval hsz
  obtain ⟨v0, v1, d0, d1, p0, p1, rfl, rfl, rfl, h0, h1⟩ := trodAll_two hA
  obtain ⟨rfl, rfl⟩ := trodVars_none hV
  have lt0 : ∀ x ∈ p0, x.block < W.heap.size := by obtain ⟨m, hm⟩ := h0; exact DataW.trod_lt m _ _ _ hm
  have lt1 : ∀ x ∈ p1, x.block < W.heap.size := by obtain ⟨m, hm⟩ := h1; exact DataW.trod_lt m _ _ _ hm
  obtain ⟨a0, n0, c0, rfl⟩ := okWide_slice Try.underlying22 (hval 0 22 v0 rfl rfl)
  obtain ⟨a1, n1, c1, rfl⟩ := okWide_slice Try.underlying39 (hval 1 39 v1 rfl rfl)
  obtain ⟨l, hl, hc⟩ := open_bytes h0 (weigh hsz (j := 0) rfl rfl)
  obtain ⟨z, hz⟩ := open_nums h1 (weigh hsz (j := 1) rfl rfl)
  clear hA0 hval0
  refine (cuts_walk a0 n0 c0 l a1 n1 c1 z W hl hc hz).mono fun e W' ⟨he, bel⟩ => ?_
  subst he
  exact ⟨_, rfl, _, _, _, [], _, [], hW', trodAll_mk1 (shut_bool Try.underlying4 _), trodAll_mk2 (Below.trod laidOut (by kernel_rfl) (of_decide_eq_true (by kernel_rfl)) h0 bel lt0) (Below.trod laidOut (by kernel_rfl) (of_decide_eq_true (by kernel_rfl)) h1 bel lt1), rfl, bel.frame _, fun h => by cases h⟩

theorem over : Rows.sumCutsRow.holds Try.pinned (OpenSpec.ofChange Rows.sumCutsSpec) :=
  OpenClaim.holds_of_wide 7 Try.f7 rfl rfl rfl rfl rfl rfl rfl ⟨rfl, rfl, rfl, rfl, rfl⟩ rfl rfl rfl rfl rfl (by kernel_rfl) Try.func7 (by kernel_rfl)
    (of_decide_eq_true (by kernel_rfl)) (by unfold Func.isWrapper; first | (rw [if_pos (by decide +kernel)]; kernel_rfl) | (rw [if_neg (by decide +kernel)]; exact ⟨rfl, rfl⟩))
    (fun os started H enc _ => lifted os started H enc)
end Cuts

theorem sumCuts_holds : Rows.SumCutsSaid := Cuts.over
#print axioms sumCuts_holds
end Go.Proofs.Ytciehainhhkikaa
