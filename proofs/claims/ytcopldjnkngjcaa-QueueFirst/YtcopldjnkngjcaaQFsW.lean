/- QueueFirst: what is popped comes in the order in which it was pushed. -/
import Derived.Test.YtcopldjnkngjcaaQFsT
import Derived.Test.YtcopldjnkngjcaaQRmW
namespace Go.Proofs.Ytcopldjnkngjcaa
namespace Qu
open Go.RowKit

def sliceLen : Value → Nat
  | .slice _ n _ => n
  | _ => 0

set_option maxRecDepth 100000 in
set_option maxHeartbeats 8000000 in
theorem first_walk (c : Int) (a : Option Addr) (n cc : Nat) (l : List Sp) (W : World) (h1 : -9223372036854775808 ≤ c) (h2 : c ≤ 9223372036854775807) (hl : RdQ W.heap.size W a n l) :
    Calls Try.prog 7 #[.int .i64 c, .slice a n cc] W fun e W' => e = .returned (.bool true) ∧ Below W.heap.size W W' := by
  have HL := hide hl
  have H12 := hide (And.intro h1 h2)
  have hfew : n ≤ 8796093022208 := by rw [hl.len]; exact hl.few
  clear hl h1 h2
  go_enter Try.func7, Try.ntmps7
  go_wp2_with fail
  go_at_call 9
  refine (known_any W).mono ?_
  rintro e w1 ⟨rfl, k1⟩
  have K1 := hide k1
  have HL1 := hide ((HL.out.keep k1 (fun _ _ f => f)).more k1.size)
  clear k1 HL
  go_wp2_with fail
  go_at_call 16
  refine (brought_any c H12.out.1 H12.out.2 w1).mono ?_
  rintro e w2 ⟨⟨n0, g1, g2, rfl⟩, rfl⟩
  go_wp2_with fail
  go_at_call 10
  refine (newI n0 w2 g1 g2).mono ?_
  rintro e w3 ⟨P, rfl, q3, k3⟩
  have H3 := hide (Own.of (B := w2.heap.size) q3 fun k e => e)
  have K3 := hide k3
  clear q3 k3 g1 g2
  go_wp2
  go_loopw [8, 9, 10, 11] (fun s8 s9 s10 s11 wr => ∃ (ps : List Int) (gs : List Bool) (last i : Nat) (s : St Int) (ap ag : Option Addr) (cp cg : Nat), s8 = .slice ap ps.length cp ∧ s9 = .slice ag ps.length cg ∧ s10 = .int .i64 (last : Nat) ∧ s11 = .int .i64 (i : Nat) ∧ i ≤ n + ps.length ∧ Hid (FirI w2 w2.heap.size P n i ps gs last s ap ag cp cg wr)) (fun s8 _ _ s11 _ => (n - (intOf s11).toNat) * 2 + (n + sliceLen s8 - (intOf s11).toNat))
  case atStart => exact ⟨[], [], 0, 0, fresh n0, none, none, 0, 0, rfl, rfl, rfl, rfl, Nat.zero_le _, ⟨H3.out, World.ownsRow_nil _ _ _ _, World.ownsRow_nil _ _ _ _, K3.out, K3.out.size, rfl, rfl, rfl, fun m hm => by omega, Nat.le_refl _, ⟨Nat.le_refl _, Nat.zero_le _⟩, fun hL => by simp [fresh]⟩⟩
  case round =>
    obtain ⟨ps, gs, last, i, s, ap, ag, cp, cg, rfl, rfl, rfl, rfl, hi, HI⟩ := hrel
    have hfp := HI.out.few
    by_cases hend : i < n + ps.length
    · generalize hnp : ps.length = np at hi hend hfp ⊢
      have HNp := hide hnp
      clear hnp
      by_cases hlt : i < n
      · obtain ⟨x, hx⟩ : ∃ x, l[i]? = some x := ⟨l[i]'(by have := HL1.out.len; omega), by simp⟩
        obtain ⟨g, off, rfl, _, e0, e1, e2⟩ := (HL1.out.keep HI.out.keep (fun _ _ f => f)).rd i x hx
        have HXi := hide (HL1.out.inn x (List.mem_of_getElem? hx))
        obtain ⟨x0, x1, x2⟩ := x
        simp only at e0 e1 e2
        have ka : Keep (fun _ => False) wr (wr.alloc (.cells #[.int .i64 0, .int .i64 2, .int .i64 0] 42)) := Keep.alloc _ _ _
        replace e0 := ka.cell e0 fun f => f
        replace e1 := ka.cell e1 fun f => f
        replace e2 := ka.cell e2 fun f => f
        clear ka
        clear hx
        go_wp2_with fail
        obtain ⟨wa, hwa⟩ : ∃ wa, wa = wr.alloc (.cells #[.int .i64 x0, .int .i64 x1, .int .i64 x2] 42) := ⟨_, rfl⟩
        rw [← hwa]
        have ka : Keep (fun _ => False) wr wa := by rw [hwa]; exact Keep.alloc _ _ _
        have bx : wa.heap[wr.heap.size]? = some (.cells #[.int .i64 x0, .int .i64 x1, .int .i64 x2] 42 (0, 0)) := by rw [hwa]; exact heap_alloc_new _ _
        have HA := hide (HI.out.new ka)
        have hq := eight (pickV_in x1 8 (by decide))
        have hst0 : Calls Try.prog 18 #[.pointer (some ⟨P, 0, none⟩), .agg #[.int .i64 x0, .int .i64 x1, .int .i64 x2]] wa (Stept w2.heap.size wa P s (pickV x1 8) x2) := step_typ (x0, x1, x2) wa HA.out.own HA.out.bs HXi.out (by rw [HA.out.sl]; have := HA.out.few.2; omega)
        have hpk0 := fun w => pick_any x1 8 HXi.out.2.1.1 HXi.out.2.1.2 (by decide) (by decide) w
        have HBx := hide bx
        clear ka bx hwa
        generalize pickV x1 8 = q at hq hst0 hpk0
        have HST := hide hst0
        have HPK := hide hpk0
        clear hst0 hpk0
        go_at_call 18
        rcases hq with rfl | rfl | rfl | rfl | rfl | rfl | rfl | rfl
        · refine HST.out.mono ?_
          rintro e w5 ⟨a5, c5, rfl, q5, S1, s1, s2, k5⟩
          rw [show stC s 0 x2 = (pushR s x2).2 from rfl, show stN s 0 x2 = (pushR s x2).1 from rfl, show stB s 0 = false from rfl, show stK s 0 = 0 from rfl, show (stL s 0).length * 2 = 0 from rfl]
          have q5 : Own w2.heap.size w5 P (s.pushed x2) := q5
          rcases push_fact s x2 with ⟨f1, f2, f3⟩ | ⟨f1, f3⟩
          · rw [f1, f2, HA.out.sl, HNp.out, show ((np + 1 : Nat) : Int) = (np : Int) + 1 by omega]
            rw [f3] at q5
            have bx5 := k5.blk HBx.out (fun e => by rcases s2 _ e _ _ _ HBx.out with h | h <;> exact absurd h (by decide))
            have kb : Keep (fun _ => False) w5 (w5.alloc (.cells #[.int .i64 0, .int .i64 ((np : Int) + 1), .bool false, .int .i64 0, .slice a5 0 c5] 44)) := Keep.alloc _ _ _
            have xc1 := cell_blk (kb.blk bx5 fun f => f) 1 (v := .int .i64 x1) rfl
            have xc2 := cell_blk (kb.blk bx5 fun f => f) 2 (v := .int .i64 x2) rfl
            have HT := hide (heap_alloc_new w5 (.cells #[.int .i64 0, .int .i64 ((np : Int) + 1), .bool false, .int .i64 0, .slice a5 0 c5] 44))
            have HBx6 := hide (kb.blk bx5 fun f => f)
            have HSm : Hid (∃ S1, (∀ k, S1 k → w2.heap.size ≤ k) ∧ (∀ k, S1 k → Quy wa k) ∧ Keep S1 wa (w5.alloc (.cells #[.int .i64 0, .int .i64 ((np : Int) + 1), .bool false, .int .i64 0, .slice a5 0 c5] 44))) := ⟨S1, s1, s2, k5.more (kb.mono fun _ f => f.elim)⟩
            have HO6 := hide (q5.new kb)
            obtain ⟨i0, hi0, hz0, hz1, hz2⟩ := info_parts info_int
            obtain ⟨i1, hi1, hy0, hy1, hy2⟩ := info_parts info_bool
            have HII := hide (And.intro hi0 (And.intro hz0 (And.intro hz1 hz2)))
            have HIB := hide (And.intro hi1 (And.intro hy0 (And.intro hy1 hy2)))
            obtain ⟨w6, hw6⟩ : ∃ w6, w6 = w5.alloc (.cells #[.int .i64 0, .int .i64 ((np : Int) + 1), .bool false, .int .i64 0, .slice a5 0 c5] 44) := ⟨_, rfl⟩
            have HW6 := hide hw6
            have HP6 : Hid (w6.ownsRow w2.heap.size 3 1 (.slice ap np cp) np (ps.map (Value.int .i64))) := by
              obtain ⟨S2, t1, t2, t3⟩ := HSm.out
              have hr0 := HA.out.rp
              rw [HNp.out] at hr0
              rw [hw6]
              exact ownsRow_typ hr0 t3 fun k cs fz e1 e2 => by rcases t2 k e1 cs _ fz e2 with h | h <;> exact absurd h (by decide)
            have HG6 : Hid (w6.ownsRow w2.heap.size 4 1 (.slice ag np cg) np (gs.map Value.bool)) := by
              obtain ⟨S2, t1, t2, t3⟩ := HSm.out
              have hr0 := HA.out.rg
              rw [HNp.out] at hr0
              rw [hw6]
              exact ownsRow_typ hr0 t3 fun k cs fz e1 e2 => by rcases t2 k e1 cs _ fz e2 with h | h <;> exact absurd h (by decide)
            have HO66 : Hid (Own w2.heap.size w6 P (s.push x2)) := by rw [hw6]; exact HO6.out
            have HSz6 : Hid (w6.heap.size = w5.heap.size + 1) := by rw [hw6]; exact World.size_alloc _ _
            have hs6 : w2.heap.size ≤ w6.heap.size := by
              obtain ⟨S2, t1, t2, t3⟩ := HSm.out
              rw [hw6]
              exact Nat.le_trans HA.out.bs t3.size
            have HK6 : Hid (Keep (fun _ => False) w2 w6) := by
              obtain ⟨S2, t1, t2, t3⟩ := HSm.out
              rw [hw6]
              exact HA.out.keep.trans t3 fun k e => .inr (t1 k e)
            clear q5 s1 s2 k5 kb bx5 hi0 hz0 hz1 hz2 hi1 hy0 hy1 hy2 hw6
            go_wp2_with (first
              | (go_at_call 17; refine (HPK.out _).mono ?_; rintro e wp ⟨rfl, rfl⟩)
              | (at_builtin
                 refine wpList_append_own2 rfl _ _ 70 rfl w2.heap.size 4 i1 (.bool false) 1 1 Try.underlying70 HIB.out.1 HIB.out.2.1 HIB.out.2.2.1 HIB.out.2.2.2 rfl (by decide) (.slice ag np cg) np (gs.map Value.bool) rfl (HG7.out.alloc _) ⟨w7.heap.size, 0, none⟩ 1 1 [.bool false] rfl rfl (fun j u hu => one_new w7 _ _ j u hu) (by simp [Value.oneCell']) (by unfold maxLen; omega) (by omega) (by simp; omega) ?_
                 intro v8 w8 r8 g8 _
                 have k8 : Keep (fun k => (Value.slice ag np cg).ownBlock = some k) w7 w8 := (Keep.alloc _ _ _).more (Keep.grown g8 fun _ e => e)
                 obtain ⟨a8, c8, rfl⟩ := ownsRow_shape r8
                 have HF := hide (HA.out.push (k := x2) (w' := w8) (HO7.out.far k8 fun k _ e => by obtain ⟨cs, h⟩ := ownsRow_own HG7.out e; exact ⟨cs, _, _, h, by decide, by decide⟩) (by rw [HNp.out]; exact ownsRow_typ HP7.out k8 fun k cs fz e1 e2 => by obtain ⟨cs', h⟩ := ownsRow_own HG7.out e1; rw [h] at e2; injection e2 with e2; injection e2 with _ e2 _; exact absurd e2 (by decide)) (by rw [HNp.out]; exact r8) (HK7.out.trans k8 fun k e => .inr (HG7.out.lt k e).1) (Nat.le_trans hs7 k8.size) hlt)
                 clear r8 g8 k8)
              | (at_builtin
                 rw [← HW6.out]
                 refine wpList_append_own2 rfl _ _ 32 rfl w2.heap.size 3 i0 (.int .i64 0) 1 8 Try.underlying32 HII.out.1 HII.out.2.1 HII.out.2.2.1 HII.out.2.2.2 rfl (by decide) (.slice ap np cp) np (ps.map (Value.int .i64)) rfl (HP6.out.alloc _) ⟨w5.heap.size + 1, 0, none⟩ 1 1 [.int .i64 x2] rfl rfl (fun j u hu => by have h := one_new w6 (.int .i64 x2) 3 j u hu; rw [HSz6.out] at h; exact h) (by simp [Value.oneCell']) (by unfold maxLen; omega) (by omega) (by simp; omega) ?_
                 intro v7 w7 r7 g7 _
                 have k7 : Keep (fun k => (Value.slice ap np cp).ownBlock = some k) w6 w7 := (Keep.alloc _ _ _).more (Keep.grown g7 fun _ e => e)
                 obtain ⟨a7, c7, rfl⟩ := ownsRow_shape r7
                 have HP7 := hide r7
                 have HG7 := hide (ownsRow_typ HG6.out k7 fun k cs fz e1 e2 => by obtain ⟨cs', h⟩ := ownsRow_own HP6.out e1; rw [h] at e2; injection e2 with e2; injection e2 with _ e2 _; exact absurd e2 (by decide))
                 have HO7 := hide (HO66.out.far k7 fun k _ e => by obtain ⟨cs, h⟩ := ownsRow_own HP6.out e; exact ⟨cs, _, _, h, by decide, by decide⟩)
                 have HK7 := hide (HK6.out.trans k7 fun k e => .inr (HP6.out.lt k e).1)
                 have hs7 : w2.heap.size ≤ w7.heap.size := Nat.le_trans hs6 k7.size
                 clear r7 g7 k7))
            go_roundw
            · exact ⟨ps ++ [x2], gs ++ [false], last, i + 1, s.push x2, a7, a8, c7, c8, by rw [List.length_append, HNp.out]; rfl, by rw [List.length_append, HNp.out]; rfl, rfl, rfl, by rw [List.length_append, HNp.out]; simp; omega, HF.out⟩
            · show (n - ((i : Int) + 1).toNat) * 2 + (n + (np + 1) - ((i : Int) + 1).toNat) < (n - (i : Int).toNat) * 2 + (n + np - (i : Int).toNat)
              omega
          · rw [f3] at q5
            generalize (pushR s x2).2 = pc at *
            generalize (pushR s x2).1 = pn at *
            have hpc : ¬ ((pc : Int) = 0) := by omega
            have bx5 := k5.blk HBx.out (fun e => by rcases s2 _ e _ _ _ HBx.out with h | h <;> exact absurd h (by decide))
            have kb : Keep (fun _ => False) w5 (w5.alloc (.cells #[.int .i64 (pc : Nat), .int .i64 (pn : Nat), .bool false, .int .i64 0, .slice a5 0 c5] 44)) := Keep.alloc _ _ _
            have xc1 := cell_blk (kb.blk bx5 fun f => f) 1 (v := .int .i64 x1) rfl
            have xc2 := cell_blk (kb.blk bx5 fun f => f) 2 (v := .int .i64 x2) rfl
            have HT := hide (heap_alloc_new w5 (.cells #[.int .i64 (pc : Nat), .int .i64 (pn : Nat), .bool false, .int .i64 0, .slice a5 0 c5] 44))
            have HBx6 := hide (kb.blk bx5 fun f => f)
            have HSm : Hid (∃ S1, (∀ k, S1 k → w2.heap.size ≤ k) ∧ (∀ k, S1 k → Quy wa k) ∧ Keep S1 wa (w5.alloc (.cells #[.int .i64 (pc : Nat), .int .i64 (pn : Nat), .bool false, .int .i64 0, .slice a5 0 c5] 44))) := ⟨S1, s1, s2, k5.more (kb.mono fun _ f => f.elim)⟩
            have HO6 := hide (q5.new kb)
            have HF := hide (HA.out.same (s' := s) rfl HO6.out HSm.out (Nat.le_refl _) (by rw [HNp.out]; exact hend) (.inl hlt))
            clear q5 s1 s2 k5 kb bx5 f1 f3
            go_wp2_with (go_at_call 17; refine (HPK.out _).mono ?_; rintro e wp ⟨rfl, rfl⟩)
            go_roundw
            · exact ⟨ps, gs, last, i + 1, s, ap, ag, cp, cg, by rw [HNp.out], by rw [HNp.out], rfl, rfl, by rw [HNp.out]; omega, HF.out⟩
            · show (n - ((i : Int) + 1).toNat) * 2 + (n + (np) - ((i : Int) + 1).toNat) < (n - (i : Int).toNat) * 2 + (n + np - (i : Int).toNat)
              omega
        · refine HST.out.mono ?_
          rintro e w5 ⟨a5, c5, rfl, q5, S1, s1, s2, k5⟩
          rw [show stC s 1 x2 = (pushR s x2).2 from rfl, show stN s 1 x2 = (pushR s x2).1 from rfl, show stB s 1 = false from rfl, show stK s 1 = 0 from rfl, show (stL s 1).length * 2 = 0 from rfl]
          have q5 : Own w2.heap.size w5 P (s.pushed x2) := q5
          rcases push_fact s x2 with ⟨f1, f2, f3⟩ | ⟨f1, f3⟩
          · rw [f1, f2, HA.out.sl, HNp.out, show ((np + 1 : Nat) : Int) = (np : Int) + 1 by omega]
            rw [f3] at q5
            have bx5 := k5.blk HBx.out (fun e => by rcases s2 _ e _ _ _ HBx.out with h | h <;> exact absurd h (by decide))
            have kb : Keep (fun _ => False) w5 (w5.alloc (.cells #[.int .i64 0, .int .i64 ((np : Int) + 1), .bool false, .int .i64 0, .slice a5 0 c5] 44)) := Keep.alloc _ _ _
            have xc1 := cell_blk (kb.blk bx5 fun f => f) 1 (v := .int .i64 x1) rfl
            have xc2 := cell_blk (kb.blk bx5 fun f => f) 2 (v := .int .i64 x2) rfl
            have HT := hide (heap_alloc_new w5 (.cells #[.int .i64 0, .int .i64 ((np : Int) + 1), .bool false, .int .i64 0, .slice a5 0 c5] 44))
            have HBx6 := hide (kb.blk bx5 fun f => f)
            have HSm : Hid (∃ S1, (∀ k, S1 k → w2.heap.size ≤ k) ∧ (∀ k, S1 k → Quy wa k) ∧ Keep S1 wa (w5.alloc (.cells #[.int .i64 0, .int .i64 ((np : Int) + 1), .bool false, .int .i64 0, .slice a5 0 c5] 44))) := ⟨S1, s1, s2, k5.more (kb.mono fun _ f => f.elim)⟩
            have HO6 := hide (q5.new kb)
            obtain ⟨i0, hi0, hz0, hz1, hz2⟩ := info_parts info_int
            obtain ⟨i1, hi1, hy0, hy1, hy2⟩ := info_parts info_bool
            have HII := hide (And.intro hi0 (And.intro hz0 (And.intro hz1 hz2)))
            have HIB := hide (And.intro hi1 (And.intro hy0 (And.intro hy1 hy2)))
            obtain ⟨w6, hw6⟩ : ∃ w6, w6 = w5.alloc (.cells #[.int .i64 0, .int .i64 ((np : Int) + 1), .bool false, .int .i64 0, .slice a5 0 c5] 44) := ⟨_, rfl⟩
            have HW6 := hide hw6
            have HP6 : Hid (w6.ownsRow w2.heap.size 3 1 (.slice ap np cp) np (ps.map (Value.int .i64))) := by
              obtain ⟨S2, t1, t2, t3⟩ := HSm.out
              have hr0 := HA.out.rp
              rw [HNp.out] at hr0
              rw [hw6]
              exact ownsRow_typ hr0 t3 fun k cs fz e1 e2 => by rcases t2 k e1 cs _ fz e2 with h | h <;> exact absurd h (by decide)
            have HG6 : Hid (w6.ownsRow w2.heap.size 4 1 (.slice ag np cg) np (gs.map Value.bool)) := by
              obtain ⟨S2, t1, t2, t3⟩ := HSm.out
              have hr0 := HA.out.rg
              rw [HNp.out] at hr0
              rw [hw6]
              exact ownsRow_typ hr0 t3 fun k cs fz e1 e2 => by rcases t2 k e1 cs _ fz e2 with h | h <;> exact absurd h (by decide)
            have HO66 : Hid (Own w2.heap.size w6 P (s.push x2)) := by rw [hw6]; exact HO6.out
            have HSz6 : Hid (w6.heap.size = w5.heap.size + 1) := by rw [hw6]; exact World.size_alloc _ _
            have hs6 : w2.heap.size ≤ w6.heap.size := by
              obtain ⟨S2, t1, t2, t3⟩ := HSm.out
              rw [hw6]
              exact Nat.le_trans HA.out.bs t3.size
            have HK6 : Hid (Keep (fun _ => False) w2 w6) := by
              obtain ⟨S2, t1, t2, t3⟩ := HSm.out
              rw [hw6]
              exact HA.out.keep.trans t3 fun k e => .inr (t1 k e)
            clear q5 s1 s2 k5 kb bx5 hi0 hz0 hz1 hz2 hi1 hy0 hy1 hy2 hw6
            go_wp2_with (first
              | (go_at_call 17; refine (HPK.out _).mono ?_; rintro e wp ⟨rfl, rfl⟩)
              | (at_builtin
                 refine wpList_append_own2 rfl _ _ 70 rfl w2.heap.size 4 i1 (.bool false) 1 1 Try.underlying70 HIB.out.1 HIB.out.2.1 HIB.out.2.2.1 HIB.out.2.2.2 rfl (by decide) (.slice ag np cg) np (gs.map Value.bool) rfl (HG7.out.alloc _) ⟨w7.heap.size, 0, none⟩ 1 1 [.bool false] rfl rfl (fun j u hu => one_new w7 _ _ j u hu) (by simp [Value.oneCell']) (by unfold maxLen; omega) (by omega) (by simp; omega) ?_
                 intro v8 w8 r8 g8 _
                 have k8 : Keep (fun k => (Value.slice ag np cg).ownBlock = some k) w7 w8 := (Keep.alloc _ _ _).more (Keep.grown g8 fun _ e => e)
                 obtain ⟨a8, c8, rfl⟩ := ownsRow_shape r8
                 have HF := hide (HA.out.push (k := x2) (w' := w8) (HO7.out.far k8 fun k _ e => by obtain ⟨cs, h⟩ := ownsRow_own HG7.out e; exact ⟨cs, _, _, h, by decide, by decide⟩) (by rw [HNp.out]; exact ownsRow_typ HP7.out k8 fun k cs fz e1 e2 => by obtain ⟨cs', h⟩ := ownsRow_own HG7.out e1; rw [h] at e2; injection e2 with e2; injection e2 with _ e2 _; exact absurd e2 (by decide)) (by rw [HNp.out]; exact r8) (HK7.out.trans k8 fun k e => .inr (HG7.out.lt k e).1) (Nat.le_trans hs7 k8.size) hlt)
                 clear r8 g8 k8)
              | (at_builtin
                 rw [← HW6.out]
                 refine wpList_append_own2 rfl _ _ 32 rfl w2.heap.size 3 i0 (.int .i64 0) 1 8 Try.underlying32 HII.out.1 HII.out.2.1 HII.out.2.2.1 HII.out.2.2.2 rfl (by decide) (.slice ap np cp) np (ps.map (Value.int .i64)) rfl (HP6.out.alloc _) ⟨w5.heap.size + 1, 0, none⟩ 1 1 [.int .i64 x2] rfl rfl (fun j u hu => by have h := one_new w6 (.int .i64 x2) 3 j u hu; rw [HSz6.out] at h; exact h) (by simp [Value.oneCell']) (by unfold maxLen; omega) (by omega) (by simp; omega) ?_
                 intro v7 w7 r7 g7 _
                 have k7 : Keep (fun k => (Value.slice ap np cp).ownBlock = some k) w6 w7 := (Keep.alloc _ _ _).more (Keep.grown g7 fun _ e => e)
                 obtain ⟨a7, c7, rfl⟩ := ownsRow_shape r7
                 have HP7 := hide r7
                 have HG7 := hide (ownsRow_typ HG6.out k7 fun k cs fz e1 e2 => by obtain ⟨cs', h⟩ := ownsRow_own HP6.out e1; rw [h] at e2; injection e2 with e2; injection e2 with _ e2 _; exact absurd e2 (by decide))
                 have HO7 := hide (HO66.out.far k7 fun k _ e => by obtain ⟨cs, h⟩ := ownsRow_own HP6.out e; exact ⟨cs, _, _, h, by decide, by decide⟩)
                 have HK7 := hide (HK6.out.trans k7 fun k e => .inr (HP6.out.lt k e).1)
                 have hs7 : w2.heap.size ≤ w7.heap.size := Nat.le_trans hs6 k7.size
                 clear r7 g7 k7))
            go_roundw
            · exact ⟨ps ++ [x2], gs ++ [false], last, i + 1, s.push x2, a7, a8, c7, c8, by rw [List.length_append, HNp.out]; rfl, by rw [List.length_append, HNp.out]; rfl, rfl, rfl, by rw [List.length_append, HNp.out]; simp; omega, HF.out⟩
            · show (n - ((i : Int) + 1).toNat) * 2 + (n + (np + 1) - ((i : Int) + 1).toNat) < (n - (i : Int).toNat) * 2 + (n + np - (i : Int).toNat)
              omega
          · rw [f3] at q5
            generalize (pushR s x2).2 = pc at *
            generalize (pushR s x2).1 = pn at *
            have hpc : ¬ ((pc : Int) = 0) := by omega
            have bx5 := k5.blk HBx.out (fun e => by rcases s2 _ e _ _ _ HBx.out with h | h <;> exact absurd h (by decide))
            have kb : Keep (fun _ => False) w5 (w5.alloc (.cells #[.int .i64 (pc : Nat), .int .i64 (pn : Nat), .bool false, .int .i64 0, .slice a5 0 c5] 44)) := Keep.alloc _ _ _
            have xc1 := cell_blk (kb.blk bx5 fun f => f) 1 (v := .int .i64 x1) rfl
            have xc2 := cell_blk (kb.blk bx5 fun f => f) 2 (v := .int .i64 x2) rfl
            have HT := hide (heap_alloc_new w5 (.cells #[.int .i64 (pc : Nat), .int .i64 (pn : Nat), .bool false, .int .i64 0, .slice a5 0 c5] 44))
            have HBx6 := hide (kb.blk bx5 fun f => f)
            have HSm : Hid (∃ S1, (∀ k, S1 k → w2.heap.size ≤ k) ∧ (∀ k, S1 k → Quy wa k) ∧ Keep S1 wa (w5.alloc (.cells #[.int .i64 (pc : Nat), .int .i64 (pn : Nat), .bool false, .int .i64 0, .slice a5 0 c5] 44))) := ⟨S1, s1, s2, k5.more (kb.mono fun _ f => f.elim)⟩
            have HO6 := hide (q5.new kb)
            have HF := hide (HA.out.same (s' := s) rfl HO6.out HSm.out (Nat.le_refl _) (by rw [HNp.out]; exact hend) (.inl hlt))
            clear q5 s1 s2 k5 kb bx5 f1 f3
            go_wp2_with (go_at_call 17; refine (HPK.out _).mono ?_; rintro e wp ⟨rfl, rfl⟩)
            go_roundw
            · exact ⟨ps, gs, last, i + 1, s, ap, ag, cp, cg, by rw [HNp.out], by rw [HNp.out], rfl, rfl, by rw [HNp.out]; omega, HF.out⟩
            · show (n - ((i : Int) + 1).toNat) * 2 + (n + (np) - ((i : Int) + 1).toNat) < (n - (i : Int).toNat) * 2 + (n + np - (i : Int).toNat)
              omega
        · refine HST.out.mono ?_
          rintro e w5 ⟨a5, c5, rfl, q5, S1, s1, s2, k5⟩
          rw [show stC s 2 x2 = 0 from rfl, show stN s 2 x2 = 0 from rfl, show stB s 2 = !s.row.isEmpty from rfl, show stK s 2 = frN s from rfl, show (stL s 2).length * 2 = 0 from rfl]
          have q5 : Own w2.heap.size w5 P (s.take 0) := q5
          cases hr : s.row with
          | nil =>
            simp only [List.isEmpty_nil, Bool.not_true]
            have hs : s.take 0 = s := by cases s; simp at hr; subst hr; rfl
            rw [show frN s = 0 by simp [frN, hr]]
            rw [hs] at q5
            have bx5 := k5.blk HBx.out (fun e => by rcases s2 _ e _ _ _ HBx.out with h | h <;> exact absurd h (by decide))
            have kb : Keep (fun _ => False) w5 (w5.alloc (.cells #[.int .i64 0, .int .i64 0, .bool false, .int .i64 0, .slice a5 0 c5] 44)) := Keep.alloc _ _ _
            have xc1 := cell_blk (kb.blk bx5 fun f => f) 1 (v := .int .i64 x1) rfl
            have xc2 := cell_blk (kb.blk bx5 fun f => f) 2 (v := .int .i64 x2) rfl
            have HT := hide (heap_alloc_new w5 (.cells #[.int .i64 0, .int .i64 0, .bool false, .int .i64 0, .slice a5 0 c5] 44))
            have HBx6 := hide (kb.blk bx5 fun f => f)
            have HSm : Hid (∃ S1, (∀ k, S1 k → w2.heap.size ≤ k) ∧ (∀ k, S1 k → Quy wa k) ∧ Keep S1 wa (w5.alloc (.cells #[.int .i64 0, .int .i64 0, .bool false, .int .i64 0, .slice a5 0 c5] 44))) := ⟨S1, s1, s2, k5.more (kb.mono fun _ f => f.elim)⟩
            have HO6 := hide (q5.new kb)
            have HF := hide (HA.out.same (s' := s) rfl HO6.out HSm.out (Nat.le_refl _) (by rw [HNp.out]; exact hend) (.inr hr))
            clear q5 s1 s2 k5 kb bx5 hs hr
            go_wp2_with (go_at_call 17; refine (HPK.out _).mono ?_; rintro e wp ⟨rfl, rfl⟩)
            go_roundw
            · exact ⟨ps, gs, last, i + 1, s, ap, ag, cp, cg, by rw [HNp.out], by rw [HNp.out], rfl, rfl, by rw [HNp.out]; omega, HF.out⟩
            · show (n - ((i : Int) + 1).toNat) * 2 + (n + (np) - ((i : Int) + 1).toNat) < (n - (i : Int).toNat) * 2 + (n + np - (i : Int).toNat)
              omega
          | cons ee rr =>
            simp only [List.isEmpty_cons, Bool.not_false]
            obtain ⟨mm, kk⟩ := ee
            have hlv : live ps gs 1 = (mm, kk) :: rr := by rw [← HA.out.row]; exact hr
            obtain ⟨j, j1, j2, j3, j4, j5⟩ := live_cons ps gs 1 hlv
            have hjl : last ≤ j := by
              rcases Nat.lt_or_ge j last with h | h
              · have := HA.out.low j h; rw [j2] at this; simp at this
              · exact h
            have hjp : j < np := by have := (List.getElem?_eq_some_iff.1 j3).1; rw [HNp.out] at this; exact this
            rw [show frN s = kk by simp [frN, hr]]
            have bx5 := k5.blk HBx.out (fun e => by rcases s2 _ e _ _ _ HBx.out with h | h <;> exact absurd h (by decide))
            have kb : Keep (fun _ => False) w5 (w5.alloc (.cells #[.int .i64 0, .int .i64 0, .bool true, .int .i64 kk, .slice a5 0 c5] 44)) := Keep.alloc _ _ _
            have xc1 := cell_blk (kb.blk bx5 fun f => f) 1 (v := .int .i64 x1) rfl
            have xc2 := cell_blk (kb.blk bx5 fun f => f) 2 (v := .int .i64 x2) rfl
            have HT := hide (heap_alloc_new w5 (.cells #[.int .i64 0, .int .i64 0, .bool true, .int .i64 kk, .slice a5 0 c5] 44))
            have HBx6 := hide (kb.blk bx5 fun f => f)
            have HSm : Hid (∃ S1, (∀ k, S1 k → w2.heap.size ≤ k) ∧ (∀ k, S1 k → Quy wa k) ∧ Keep S1 wa (w5.alloc (.cells #[.int .i64 0, .int .i64 0, .bool true, .int .i64 kk, .slice a5 0 c5] 44))) := ⟨S1, s1, s2, k5.more (kb.mono fun _ f => f.elim)⟩
            have HO6 := hide (q5.new kb)
            obtain ⟨w6, hw6⟩ : ∃ w6, w6 = w5.alloc (.cells #[.int .i64 0, .int .i64 0, .bool true, .int .i64 kk, .slice a5 0 c5] 44) := ⟨_, rfl⟩
            have hrp : w6.ownsRow w2.heap.size 3 1 (.slice ap np cp) np (ps.map (Value.int .i64)) := by
              obtain ⟨S2, t1, t2, t3⟩ := HSm.out
              have hr0 := HA.out.rp
              rw [HNp.out] at hr0
              rw [hw6]
              exact ownsRow_typ hr0 t3 fun k cs fz e1 e2 => by rcases t2 k e1 cs _ fz e2 with h | h <;> exact absurd h (by decide)
            have hrg : w6.ownsRow w2.heap.size 4 1 (.slice ag np cg) np (gs.map Value.bool) := by
              obtain ⟨S2, t1, t2, t3⟩ := HSm.out
              have hr0 := HA.out.rg
              rw [HNp.out] at hr0
              rw [hw6]
              exact ownsRow_typ hr0 t3 fun k cs fz e1 e2 => by rcases t2 k e1 cs _ fz e2 with h | h <;> exact absurd h (by decide)
            obtain ⟨gp, rfl, _, p1, _, p3, _⟩ := own_cell hrp (j := j) (x := .int .i64 kk) (by rw [List.getElem?_map, j3]; rfl)
            obtain ⟨gg, hag, gB, y1, y2, y3, _⟩ := own_cell hrg (j := j) (x := .bool false) (by rw [List.getElem?_map, j2]; rfl)
            subst hag
            have NX := hide (next_some (last := last) w6 hrg (by omega) hjl j2 (fun i _ hi => j4 i hi))
            have ht3 : w6.cell? ⟨w5.heap.size, 3, none⟩ = some (.int .i64 kk) := by rw [hw6]; exact cell_blk HT.out 3 rfl
            have hk6 : Keep (fun _ => False) w2 w6 := by
              obtain ⟨S2, t1, t2, t3⟩ := HSm.out
              rw [hw6]
              exact HA.out.keep.trans t3 fun k e => .inr (t1 k e)
            have ho6 : Own w2.heap.size w6 P (s.take 0) := by rw [hw6]; exact HO6.out
            have HFm : Hid (∀ W' : World, Keep (fun _ => False) w6 W' → FirI w2 w2.heap.size P n (i + 1) ps (gs.set j true) (j + 1) (s.take 0) (some ⟨gp, 0, none⟩) (some ⟨gg, 0, none⟩) cp cg (W'.setCell ⟨gg, j, none⟩ (.bool true))) := fun W' hkW =>
              HA.out.gone (x := 0) rfl rfl (by rw [hr]; simp) (by rw [j5, hr]; rfl) (fun m hm => by
                rw [List.getElem?_set]
                split
                · rename_i h; subst h; rw [if_pos (List.getElem?_eq_some_iff.1 j2).1]
                · exact j4 m (by omega)) (by rw [HNp.out]; omega) (ho6.new hkW) (by rw [HNp.out]; exact ownsRow_far hrp hkW (fun _ _ f => f)) (by rw [HNp.out]; exact ownsRow_far hrg hkW (fun _ _ f => f)) rfl (hk6.more hkW) (Nat.le_trans hk6.size hkW.size) (Nat.le_refl _)
            have HW6 := hide hw6
            have hj0 : ¬ ((j : Int) + 1 = 0) := by omega
            have hj0b : (((j : Int) + 1) == 0) = false := by simp; omega
            have hjw : IntKind.i64.wrap (j : Int) = (j : Int) := wrapI (by omega)
            clear q5 s1 s2 k5 kb bx5 hr hlv j1 j2 j3 j4 j5 hrp hrg ho6 hk6 hw6 HO6
            go_wp2_with (first
              | (go_at_call 17; refine (HPK.out _).mono ?_; rintro e wp ⟨rfl, rfl⟩)
              | (go_at_call 29
                 rw [← HW6.out]
                 refine NX.out.mono ?_
                 rintro e w7 ⟨rfl, rfl⟩))
            go_region
            go_wp2
            go_roundw
            · exact ⟨ps, gs.set j true, j + 1, i + 1, s.take 0, some ⟨gp, 0, none⟩, some ⟨gg, 0, none⟩, cp, cg, by rw [HNp.out], by rw [HNp.out], rfl, rfl, by rw [HNp.out]; omega, HFm.out _ (Keep.drew _ _)⟩
            · show (n - ((i : Int) + 1).toNat) * 2 + (n + (np) - ((i : Int) + 1).toNat) < (n - (i : Int).toNat) * 2 + (n + np - (i : Int).toNat)
              omega
        · refine HST.out.mono ?_
          rintro e w5 ⟨a5, c5, rfl, q5, S1, s1, s2, k5⟩
          generalize stC s 3 x2 = pc at *
          generalize stN s 3 x2 = pn at *
          generalize stB s 3 = pb at *
          generalize stK s 3 = pk at *
          generalize (stL s 3).length * 2 = pm at *
          have q5 : Own w2.heap.size w5 P s := q5
          have bx5 := k5.blk HBx.out (fun e => by rcases s2 _ e _ _ _ HBx.out with h | h <;> exact absurd h (by decide))
          have kb : Keep (fun _ => False) w5 (w5.alloc (.cells #[.int .i64 (pc : Nat), .int .i64 (pn : Nat), .bool pb, .int .i64 pk, .slice a5 pm c5] 44)) := Keep.alloc _ _ _
          have xc1 := cell_blk (kb.blk bx5 fun f => f) 1 (v := .int .i64 x1) rfl
          have xc2 := cell_blk (kb.blk bx5 fun f => f) 2 (v := .int .i64 x2) rfl
          have HT := hide (heap_alloc_new w5 (.cells #[.int .i64 (pc : Nat), .int .i64 (pn : Nat), .bool pb, .int .i64 pk, .slice a5 pm c5] 44))
          have HBx6 := hide (kb.blk bx5 fun f => f)
          have HSm : Hid (∃ S1, (∀ k, S1 k → w2.heap.size ≤ k) ∧ (∀ k, S1 k → Quy wa k) ∧ Keep S1 wa (w5.alloc (.cells #[.int .i64 (pc : Nat), .int .i64 (pn : Nat), .bool pb, .int .i64 pk, .slice a5 pm c5] 44))) := ⟨S1, s1, s2, k5.more (kb.mono fun _ f => f.elim)⟩
          have HO6 := hide (q5.new kb)
          have HF := hide (HA.out.same (s' := s) rfl HO6.out HSm.out (Nat.le_refl _) (by rw [HNp.out]; exact hend) (.inl hlt))
          clear q5 s1 s2 k5 kb bx5
          go_wp2_with (go_at_call 17; refine (HPK.out _).mono ?_; rintro e wp ⟨rfl, rfl⟩)
          go_roundw
          · exact ⟨ps, gs, last, i + 1, s, ap, ag, cp, cg, by rw [HNp.out], by rw [HNp.out], rfl, rfl, by rw [HNp.out]; omega, HF.out⟩
          · show (n - ((i : Int) + 1).toNat) * 2 + (n + (np) - ((i : Int) + 1).toNat) < (n - (i : Int).toNat) * 2 + (n + np - (i : Int).toNat)
            omega
        · refine HST.out.mono ?_
          rintro e w5 ⟨a5, c5, rfl, q5, S1, s1, s2, k5⟩
          rw [show stC s 4 x2 = (aheadR s.row x2).2 from rfl, show stN s 4 x2 = 0 from rfl, show stB s 4 = false from rfl, show stK s 4 = 0 from rfl, show (stL s 4).length * 2 = 0 from rfl]
          have q5 : Own w2.heap.size w5 P (s.remove x2) := q5
          rcases remove_fact s x2 with ⟨xi, fi, f1, f3⟩ | ⟨f1, f3⟩
          · rw [f1]
            rw [f3] at q5
            have hxl : xi < s.row.length := by obtain ⟨nn, hg, _⟩ := idx_get fi; exact (List.getElem?_eq_some_iff.1 hg).1
            obtain ⟨j, j1, j2, j3, j4⟩ := live_strike x2 ps gs 1 (by rw [← HA.out.row]; exact fi)
            rw [← HA.out.row] at j4
            have bx5 := k5.blk HBx.out (fun e => by rcases s2 _ e _ _ _ HBx.out with h | h <;> exact absurd h (by decide))
            have kb : Keep (fun _ => False) w5 (w5.alloc (.cells #[.int .i64 0, .int .i64 0, .bool false, .int .i64 0, .slice a5 0 c5] 44)) := Keep.alloc _ _ _
            have xc1 := cell_blk (kb.blk bx5 fun f => f) 1 (v := .int .i64 x1) rfl
            have xc2 := cell_blk (kb.blk bx5 fun f => f) 2 (v := .int .i64 x2) rfl
            have HT := hide (heap_alloc_new w5 (.cells #[.int .i64 0, .int .i64 0, .bool false, .int .i64 0, .slice a5 0 c5] 44))
            have HBx6 := hide (kb.blk bx5 fun f => f)
            have HSm : Hid (∃ S1, (∀ k, S1 k → w2.heap.size ≤ k) ∧ (∀ k, S1 k → Quy wa k) ∧ Keep S1 wa (w5.alloc (.cells #[.int .i64 0, .int .i64 0, .bool false, .int .i64 0, .slice a5 0 c5] 44))) := ⟨S1, s1, s2, k5.more (kb.mono fun _ f => f.elim)⟩
            have HO6 := hide (q5.new kb)
            obtain ⟨w6, hw6⟩ : ∃ w6, w6 = w5.alloc (.cells #[.int .i64 0, .int .i64 0, .bool false, .int .i64 0, .slice a5 0 c5] 44) := ⟨_, rfl⟩
            have hrp : w6.ownsRow w2.heap.size 3 1 (.slice ap np cp) np (ps.map (Value.int .i64)) := by
              obtain ⟨S2, t1, t2, t3⟩ := HSm.out
              have hr0 := HA.out.rp
              rw [HNp.out] at hr0
              rw [hw6]
              exact ownsRow_typ hr0 t3 fun k cs fz e1 e2 => by rcases t2 k e1 cs _ fz e2 with h | h <;> exact absurd h (by decide)
            have hrg : w6.ownsRow w2.heap.size 4 1 (.slice ag np cg) np (gs.map Value.bool) := by
              obtain ⟨S2, t1, t2, t3⟩ := HSm.out
              have hr0 := HA.out.rg
              rw [HNp.out] at hr0
              rw [hw6]
              exact ownsRow_typ hr0 t3 fun k cs fz e1 e2 => by rcases t2 k e1 cs _ fz e2 with h | h <;> exact absurd h (by decide)
            have SK := hide (struck_any w6 hrp hrg (by omega) HA.out.gl j1 j2 j3)
            have hk6 : Keep (fun _ => False) w2 w6 := by
              obtain ⟨S2, t1, t2, t3⟩ := HSm.out
              rw [hw6]
              exact HA.out.keep.trans t3 fun k e => .inr (t1 k e)
            have ho6 : Own w2.heap.size w6 P (s.take xi) := by rw [hw6]; exact HO6.out
            have HFm : Hid (∀ gg, ag = some ⟨gg, 0, none⟩ → FirI w2 w2.heap.size P n (i + 1) ps (gs.set j true) last (s.take xi) ap ag cp cg (w6.setCell ⟨gg, j, none⟩ (.bool true))) := fun gg hag =>
              HA.out.gone (x := xi) hag rfl hxl j4 (fun m hm => by
                rw [List.getElem?_set]
                split
                · rename_i h; subst h; rw [if_pos (List.getElem?_eq_some_iff.1 j2).1]
                · exact HA.out.low m hm) HA.out.lle ho6 (by rw [HNp.out]; exact hrp) (by rw [HNp.out]; exact hrg) rfl hk6 hk6.size (Nat.le_refl _)
            have HW6 := hide hw6
            clear q5 s1 s2 k5 kb bx5 fi f1 f3 hxl j1 j2 j3 j4 hrp hrg ho6 hk6 hw6 HO6
            go_wp2_with (first
              | (go_at_call 17; refine (HPK.out _).mono ?_; rintro e wp ⟨rfl, rfl⟩)
              | (go_at_call 30
                 rw [← HW6.out]
                 refine SK.out.mono ?_
                 rintro e w7 ⟨gg, hag, rfl, rfl⟩
                 have HF := hide (HFm.out gg hag)
                 clear hag))
            go_roundw
            · exact ⟨ps, gs.set j true, last, i + 1, s.take xi, ap, ag, cp, cg, by rw [HNp.out], by rw [HNp.out], rfl, rfl, by rw [HNp.out]; omega, HF.out⟩
            · show (n - ((i : Int) + 1).toNat) * 2 + (n + (np) - ((i : Int) + 1).toNat) < (n - (i : Int).toNat) * 2 + (n + np - (i : Int).toNat)
              omega
          · rw [f3] at q5
            generalize (aheadR s.row x2).2 = pc at *
            have hpc : ¬ ((pc : Int) = 0) := by omega
            have bx5 := k5.blk HBx.out (fun e => by rcases s2 _ e _ _ _ HBx.out with h | h <;> exact absurd h (by decide))
            have kb : Keep (fun _ => False) w5 (w5.alloc (.cells #[.int .i64 (pc : Nat), .int .i64 0, .bool false, .int .i64 0, .slice a5 0 c5] 44)) := Keep.alloc _ _ _
            have xc1 := cell_blk (kb.blk bx5 fun f => f) 1 (v := .int .i64 x1) rfl
            have xc2 := cell_blk (kb.blk bx5 fun f => f) 2 (v := .int .i64 x2) rfl
            have HT := hide (heap_alloc_new w5 (.cells #[.int .i64 (pc : Nat), .int .i64 0, .bool false, .int .i64 0, .slice a5 0 c5] 44))
            have HBx6 := hide (kb.blk bx5 fun f => f)
            have HSm : Hid (∃ S1, (∀ k, S1 k → w2.heap.size ≤ k) ∧ (∀ k, S1 k → Quy wa k) ∧ Keep S1 wa (w5.alloc (.cells #[.int .i64 (pc : Nat), .int .i64 0, .bool false, .int .i64 0, .slice a5 0 c5] 44))) := ⟨S1, s1, s2, k5.more (kb.mono fun _ f => f.elim)⟩
            have HO6 := hide (q5.new kb)
            have HF := hide (HA.out.same (s' := s) rfl HO6.out HSm.out (Nat.le_refl _) (by rw [HNp.out]; exact hend) (.inl hlt))
            clear q5 s1 s2 k5 kb bx5 f1 f3
            go_wp2_with (go_at_call 17; refine (HPK.out _).mono ?_; rintro e wp ⟨rfl, rfl⟩)
            go_roundw
            · exact ⟨ps, gs, last, i + 1, s, ap, ag, cp, cg, by rw [HNp.out], by rw [HNp.out], rfl, rfl, by rw [HNp.out]; omega, HF.out⟩
            · show (n - ((i : Int) + 1).toNat) * 2 + (n + (np) - ((i : Int) + 1).toNat) < (n - (i : Int).toNat) * 2 + (n + np - (i : Int).toNat)
              omega
        · refine HST.out.mono ?_
          rintro e w5 ⟨a5, c5, rfl, q5, S1, s1, s2, k5⟩
          generalize stC s 5 x2 = pc at *
          generalize stN s 5 x2 = pn at *
          generalize stB s 5 = pb at *
          generalize stK s 5 = pk at *
          generalize (stL s 5).length * 2 = pm at *
          have q5 : Own w2.heap.size w5 P s := q5
          have bx5 := k5.blk HBx.out (fun e => by rcases s2 _ e _ _ _ HBx.out with h | h <;> exact absurd h (by decide))
          have kb : Keep (fun _ => False) w5 (w5.alloc (.cells #[.int .i64 (pc : Nat), .int .i64 (pn : Nat), .bool pb, .int .i64 pk, .slice a5 pm c5] 44)) := Keep.alloc _ _ _
          have xc1 := cell_blk (kb.blk bx5 fun f => f) 1 (v := .int .i64 x1) rfl
          have xc2 := cell_blk (kb.blk bx5 fun f => f) 2 (v := .int .i64 x2) rfl
          have HT := hide (heap_alloc_new w5 (.cells #[.int .i64 (pc : Nat), .int .i64 (pn : Nat), .bool pb, .int .i64 pk, .slice a5 pm c5] 44))
          have HBx6 := hide (kb.blk bx5 fun f => f)
          have HSm : Hid (∃ S1, (∀ k, S1 k → w2.heap.size ≤ k) ∧ (∀ k, S1 k → Quy wa k) ∧ Keep S1 wa (w5.alloc (.cells #[.int .i64 (pc : Nat), .int .i64 (pn : Nat), .bool pb, .int .i64 pk, .slice a5 pm c5] 44))) := ⟨S1, s1, s2, k5.more (kb.mono fun _ f => f.elim)⟩
          have HO6 := hide (q5.new kb)
          have HF := hide (HA.out.same (s' := s) rfl HO6.out HSm.out (Nat.le_refl _) (by rw [HNp.out]; exact hend) (.inl hlt))
          clear q5 s1 s2 k5 kb bx5
          go_wp2_with (go_at_call 17; refine (HPK.out _).mono ?_; rintro e wp ⟨rfl, rfl⟩)
          go_roundw
          · exact ⟨ps, gs, last, i + 1, s, ap, ag, cp, cg, by rw [HNp.out], by rw [HNp.out], rfl, rfl, by rw [HNp.out]; omega, HF.out⟩
          · show (n - ((i : Int) + 1).toNat) * 2 + (n + (np) - ((i : Int) + 1).toNat) < (n - (i : Int).toNat) * 2 + (n + np - (i : Int).toNat)
            omega
        · refine HST.out.mono ?_
          rintro e w5 ⟨a5, c5, rfl, q5, S1, s1, s2, k5⟩
          generalize stC s 6 x2 = pc at *
          generalize stN s 6 x2 = pn at *
          generalize stB s 6 = pb at *
          generalize stK s 6 = pk at *
          generalize (stL s 6).length * 2 = pm at *
          have q5 : Own w2.heap.size w5 P s := q5
          have bx5 := k5.blk HBx.out (fun e => by rcases s2 _ e _ _ _ HBx.out with h | h <;> exact absurd h (by decide))
          have kb : Keep (fun _ => False) w5 (w5.alloc (.cells #[.int .i64 (pc : Nat), .int .i64 (pn : Nat), .bool pb, .int .i64 pk, .slice a5 pm c5] 44)) := Keep.alloc _ _ _
          have xc1 := cell_blk (kb.blk bx5 fun f => f) 1 (v := .int .i64 x1) rfl
          have xc2 := cell_blk (kb.blk bx5 fun f => f) 2 (v := .int .i64 x2) rfl
          have HT := hide (heap_alloc_new w5 (.cells #[.int .i64 (pc : Nat), .int .i64 (pn : Nat), .bool pb, .int .i64 pk, .slice a5 pm c5] 44))
          have HBx6 := hide (kb.blk bx5 fun f => f)
          have HSm : Hid (∃ S1, (∀ k, S1 k → w2.heap.size ≤ k) ∧ (∀ k, S1 k → Quy wa k) ∧ Keep S1 wa (w5.alloc (.cells #[.int .i64 (pc : Nat), .int .i64 (pn : Nat), .bool pb, .int .i64 pk, .slice a5 pm c5] 44))) := ⟨S1, s1, s2, k5.more (kb.mono fun _ f => f.elim)⟩
          have HO6 := hide (q5.new kb)
          have HF := hide (HA.out.same (s' := s) rfl HO6.out HSm.out (Nat.le_refl _) (by rw [HNp.out]; exact hend) (.inl hlt))
          clear q5 s1 s2 k5 kb bx5
          go_wp2_with (go_at_call 17; refine (HPK.out _).mono ?_; rintro e wp ⟨rfl, rfl⟩)
          go_roundw
          · exact ⟨ps, gs, last, i + 1, s, ap, ag, cp, cg, by rw [HNp.out], by rw [HNp.out], rfl, rfl, by rw [HNp.out]; omega, HF.out⟩
          · show (n - ((i : Int) + 1).toNat) * 2 + (n + (np) - ((i : Int) + 1).toNat) < (n - (i : Int).toNat) * 2 + (n + np - (i : Int).toNat)
            omega
        · refine HST.out.mono ?_
          rintro e w5 ⟨a5, c5, rfl, q5, S1, s1, s2, k5⟩
          generalize stC s 7 x2 = pc at *
          generalize stN s 7 x2 = pn at *
          generalize stB s 7 = pb at *
          generalize stK s 7 = pk at *
          generalize (stL s 7).length * 2 = pm at *
          have q5 : Own w2.heap.size w5 P s := q5
          have bx5 := k5.blk HBx.out (fun e => by rcases s2 _ e _ _ _ HBx.out with h | h <;> exact absurd h (by decide))
          have kb : Keep (fun _ => False) w5 (w5.alloc (.cells #[.int .i64 (pc : Nat), .int .i64 (pn : Nat), .bool pb, .int .i64 pk, .slice a5 pm c5] 44)) := Keep.alloc _ _ _
          have xc1 := cell_blk (kb.blk bx5 fun f => f) 1 (v := .int .i64 x1) rfl
          have xc2 := cell_blk (kb.blk bx5 fun f => f) 2 (v := .int .i64 x2) rfl
          have HT := hide (heap_alloc_new w5 (.cells #[.int .i64 (pc : Nat), .int .i64 (pn : Nat), .bool pb, .int .i64 pk, .slice a5 pm c5] 44))
          have HBx6 := hide (kb.blk bx5 fun f => f)
          have HSm : Hid (∃ S1, (∀ k, S1 k → w2.heap.size ≤ k) ∧ (∀ k, S1 k → Quy wa k) ∧ Keep S1 wa (w5.alloc (.cells #[.int .i64 (pc : Nat), .int .i64 (pn : Nat), .bool pb, .int .i64 pk, .slice a5 pm c5] 44))) := ⟨S1, s1, s2, k5.more (kb.mono fun _ f => f.elim)⟩
          have HO6 := hide (q5.new kb)
          have HF := hide (HA.out.same (s' := s) rfl HO6.out HSm.out (Nat.le_refl _) (by rw [HNp.out]; exact hend) (.inl hlt))
          clear q5 s1 s2 k5 kb bx5
          go_wp2_with (go_at_call 17; refine (HPK.out _).mono ?_; rintro e wp ⟨rfl, rfl⟩)
          go_roundw
          · exact ⟨ps, gs, last, i + 1, s, ap, ag, cp, cg, by rw [HNp.out], by rw [HNp.out], rfl, rfl, by rw [HNp.out]; omega, HF.out⟩
          · show (n - ((i : Int) + 1).toNat) * 2 + (n + (np) - ((i : Int) + 1).toNat) < (n - (i : Int).toNat) * 2 + (n + np - (i : Int).toNat)
            omega
      · have HXi : Hid (Sp.In (0, 2, 0)) := ⟨⟨by decide, by decide⟩, ⟨by decide, by decide⟩, ⟨by decide, by decide⟩⟩
        go_wp2_with fail
        obtain ⟨wa, hwa⟩ : ∃ wa, wa = wr.alloc (.cells #[.int .i64 0, .int .i64 2, .int .i64 0] 42) := ⟨_, rfl⟩
        rw [← hwa]
        have ka : Keep (fun _ => False) wr wa := by rw [hwa]; exact Keep.alloc _ _ _
        have bx : wa.heap[wr.heap.size]? = some (.cells #[.int .i64 0, .int .i64 2, .int .i64 0] 42 (0, 0)) := by rw [hwa]; exact heap_alloc_new _ _
        have HA := hide (HI.out.new ka)
        have hq := eight (pickV_in 2 8 (by decide))
        have hst0 : Calls Try.prog 18 #[.pointer (some ⟨P, 0, none⟩), .agg #[.int .i64 0, .int .i64 2, .int .i64 0]] wa (Stept w2.heap.size wa P s (pickV 2 8) 0) := step_typ (0, 2, 0) wa HA.out.own HA.out.bs HXi.out (by rw [HA.out.sl]; have := HA.out.few.2; omega)
        have hpk0 := fun w => pick_any 2 8 HXi.out.2.1.1 HXi.out.2.1.2 (by decide) (by decide) w
        have HBx := hide bx
        clear ka bx hwa
        clear hq
        have hq2 : pickV 2 8 = 2 := by decide
        simp only [hq2] at hst0 hpk0
        have HST := hide hst0
        have HPK := hide hpk0
        clear hst0 hpk0 hq2
        go_at_call 18
        refine HST.out.mono ?_
        rintro e w5 ⟨a5, c5, rfl, q5, S1, s1, s2, k5⟩
        rw [show stC s 2 0 = 0 from rfl, show stN s 2 0 = 0 from rfl, show stB s 2 = !s.row.isEmpty from rfl, show stK s 2 = frN s from rfl, show (stL s 2).length * 2 = 0 from rfl]
        have q5 : Own w2.heap.size w5 P (s.take 0) := q5
        cases hr : s.row with
        | nil =>
          simp only [List.isEmpty_nil, Bool.not_true]
          have hs : s.take 0 = s := by cases s; simp at hr; subst hr; rfl
          rw [show frN s = 0 by simp [frN, hr]]
          rw [hs] at q5
          have bx5 := k5.blk HBx.out (fun e => by rcases s2 _ e _ _ _ HBx.out with h | h <;> exact absurd h (by decide))
          have kb : Keep (fun _ => False) w5 (w5.alloc (.cells #[.int .i64 0, .int .i64 0, .bool false, .int .i64 0, .slice a5 0 c5] 44)) := Keep.alloc _ _ _
          have xc1 := cell_blk (kb.blk bx5 fun f => f) 1 (v := .int .i64 2) rfl
          have xc2 := cell_blk (kb.blk bx5 fun f => f) 2 (v := .int .i64 0) rfl
          have HT := hide (heap_alloc_new w5 (.cells #[.int .i64 0, .int .i64 0, .bool false, .int .i64 0, .slice a5 0 c5] 44))
          have HBx6 := hide (kb.blk bx5 fun f => f)
          have HSm : Hid (∃ S1, (∀ k, S1 k → w2.heap.size ≤ k) ∧ (∀ k, S1 k → Quy wa k) ∧ Keep S1 wa (w5.alloc (.cells #[.int .i64 0, .int .i64 0, .bool false, .int .i64 0, .slice a5 0 c5] 44))) := ⟨S1, s1, s2, k5.more (kb.mono fun _ f => f.elim)⟩
          have HO6 := hide (q5.new kb)
          have HF := hide (HA.out.same (s' := s) rfl HO6.out HSm.out (Nat.le_refl _) (by rw [HNp.out]; exact hend) (.inr hr))
          clear q5 s1 s2 k5 kb bx5 hs hr
          go_wp2_with (go_at_call 17; refine (HPK.out _).mono ?_; rintro e wp ⟨rfl, rfl⟩)
          go_roundw
          · exact ⟨ps, gs, last, i + 1, s, ap, ag, cp, cg, by rw [HNp.out], by rw [HNp.out], rfl, rfl, by rw [HNp.out]; omega, HF.out⟩
          · show (n - ((i : Int) + 1).toNat) * 2 + (n + (np) - ((i : Int) + 1).toNat) < (n - (i : Int).toNat) * 2 + (n + np - (i : Int).toNat)
            omega
        | cons ee rr =>
          simp only [List.isEmpty_cons, Bool.not_false]
          obtain ⟨mm, kk⟩ := ee
          have hlv : live ps gs 1 = (mm, kk) :: rr := by rw [← HA.out.row]; exact hr
          obtain ⟨j, j1, j2, j3, j4, j5⟩ := live_cons ps gs 1 hlv
          have hjl : last ≤ j := by
            rcases Nat.lt_or_ge j last with h | h
            · have := HA.out.low j h; rw [j2] at this; simp at this
            · exact h
          have hjp : j < np := by have := (List.getElem?_eq_some_iff.1 j3).1; rw [HNp.out] at this; exact this
          rw [show frN s = kk by simp [frN, hr]]
          have bx5 := k5.blk HBx.out (fun e => by rcases s2 _ e _ _ _ HBx.out with h | h <;> exact absurd h (by decide))
          have kb : Keep (fun _ => False) w5 (w5.alloc (.cells #[.int .i64 0, .int .i64 0, .bool true, .int .i64 kk, .slice a5 0 c5] 44)) := Keep.alloc _ _ _
          have xc1 := cell_blk (kb.blk bx5 fun f => f) 1 (v := .int .i64 2) rfl
          have xc2 := cell_blk (kb.blk bx5 fun f => f) 2 (v := .int .i64 0) rfl
          have HT := hide (heap_alloc_new w5 (.cells #[.int .i64 0, .int .i64 0, .bool true, .int .i64 kk, .slice a5 0 c5] 44))
          have HBx6 := hide (kb.blk bx5 fun f => f)
          have HSm : Hid (∃ S1, (∀ k, S1 k → w2.heap.size ≤ k) ∧ (∀ k, S1 k → Quy wa k) ∧ Keep S1 wa (w5.alloc (.cells #[.int .i64 0, .int .i64 0, .bool true, .int .i64 kk, .slice a5 0 c5] 44))) := ⟨S1, s1, s2, k5.more (kb.mono fun _ f => f.elim)⟩
          have HO6 := hide (q5.new kb)
          obtain ⟨w6, hw6⟩ : ∃ w6, w6 = w5.alloc (.cells #[.int .i64 0, .int .i64 0, .bool true, .int .i64 kk, .slice a5 0 c5] 44) := ⟨_, rfl⟩
          have hrp : w6.ownsRow w2.heap.size 3 1 (.slice ap np cp) np (ps.map (Value.int .i64)) := by
            obtain ⟨S2, t1, t2, t3⟩ := HSm.out
            have hr0 := HA.out.rp
            rw [HNp.out] at hr0
            rw [hw6]
            exact ownsRow_typ hr0 t3 fun k cs fz e1 e2 => by rcases t2 k e1 cs _ fz e2 with h | h <;> exact absurd h (by decide)
          have hrg : w6.ownsRow w2.heap.size 4 1 (.slice ag np cg) np (gs.map Value.bool) := by
            obtain ⟨S2, t1, t2, t3⟩ := HSm.out
            have hr0 := HA.out.rg
            rw [HNp.out] at hr0
            rw [hw6]
            exact ownsRow_typ hr0 t3 fun k cs fz e1 e2 => by rcases t2 k e1 cs _ fz e2 with h | h <;> exact absurd h (by decide)
          obtain ⟨gp, rfl, _, p1, _, p3, _⟩ := own_cell hrp (j := j) (x := .int .i64 kk) (by rw [List.getElem?_map, j3]; rfl)
          obtain ⟨gg, hag, gB, y1, y2, y3, _⟩ := own_cell hrg (j := j) (x := .bool false) (by rw [List.getElem?_map, j2]; rfl)
          subst hag
          have NX := hide (next_some (last := last) w6 hrg (by omega) hjl j2 (fun i _ hi => j4 i hi))
          have ht3 : w6.cell? ⟨w5.heap.size, 3, none⟩ = some (.int .i64 kk) := by rw [hw6]; exact cell_blk HT.out 3 rfl
          have hk6 : Keep (fun _ => False) w2 w6 := by
            obtain ⟨S2, t1, t2, t3⟩ := HSm.out
            rw [hw6]
            exact HA.out.keep.trans t3 fun k e => .inr (t1 k e)
          have ho6 : Own w2.heap.size w6 P (s.take 0) := by rw [hw6]; exact HO6.out
          have HFm : Hid (∀ W' : World, Keep (fun _ => False) w6 W' → FirI w2 w2.heap.size P n (i + 1) ps (gs.set j true) (j + 1) (s.take 0) (some ⟨gp, 0, none⟩) (some ⟨gg, 0, none⟩) cp cg (W'.setCell ⟨gg, j, none⟩ (.bool true))) := fun W' hkW =>
            HA.out.gone (x := 0) rfl rfl (by rw [hr]; simp) (by rw [j5, hr]; rfl) (fun m hm => by
              rw [List.getElem?_set]
              split
              · rename_i h; subst h; rw [if_pos (List.getElem?_eq_some_iff.1 j2).1]
              · exact j4 m (by omega)) (by rw [HNp.out]; omega) (ho6.new hkW) (by rw [HNp.out]; exact ownsRow_far hrp hkW (fun _ _ f => f)) (by rw [HNp.out]; exact ownsRow_far hrg hkW (fun _ _ f => f)) rfl (hk6.more hkW) (Nat.le_trans hk6.size hkW.size) (Nat.le_refl _)
          have HW6 := hide hw6
          have hj0 : ¬ ((j : Int) + 1 = 0) := by omega
          have hj0b : (((j : Int) + 1) == 0) = false := by simp; omega
          have hjw : IntKind.i64.wrap (j : Int) = (j : Int) := wrapI (by omega)
          clear q5 s1 s2 k5 kb bx5 hr hlv j1 j2 j3 j4 j5 hrp hrg ho6 hk6 hw6 HO6
          go_wp2_with (first
            | (go_at_call 17; refine (HPK.out _).mono ?_; rintro e wp ⟨rfl, rfl⟩)
            | (go_at_call 29
               rw [← HW6.out]
               refine NX.out.mono ?_
               rintro e w7 ⟨rfl, rfl⟩))
          go_region
          go_wp2
          go_roundw
          · exact ⟨ps, gs.set j true, j + 1, i + 1, s.take 0, some ⟨gp, 0, none⟩, some ⟨gg, 0, none⟩, cp, cg, by rw [HNp.out], by rw [HNp.out], rfl, rfl, by rw [HNp.out]; omega, HFm.out _ (Keep.drew _ _)⟩
          · show (n - ((i : Int) + 1).toNat) * 2 + (n + (np) - ((i : Int) + 1).toNat) < (n - (i : Int).toNat) * 2 + (n + np - (i : Int).toNat)
            omega
    · have hin : i = n + ps.length := by omega
      have hr : s.row = [] := by
        have := HI.out.cnt (by omega)
        exact List.eq_nil_of_length_eq_zero (by omega)
      have hall := live_nil ps gs 1 HI.out.gl (by rw [← HI.out.row]; exact hr)
      have NX := hide (next_none (last := 0) wr HI.out.rg (by omega) (Nat.zero_le _) (fun j _ hj => hall j (by rw [HI.out.gl]; exact hj)))
      obtain ⟨_, _, m9, v9, q9⟩ := HI.out.own
      have LN := hide (lenI wr q9)
      rw [hr] at LN
      have HK9 := hide (K1.out.more HI.out.keep)
      generalize hnp : ps.length = np at hi hend hfp hin NX ⊢
      clear hnp hall hr q9 hin
      go_wp2_with (first
        | (go_at_call 29; refine NX.out.mono ?_; rintro e w7 ⟨rfl, rfl⟩)
        | (go_at_call 15; refine LN.out.mono ?_; rintro e w8 ⟨rfl, rfl⟩))
      go_ret
      exact ⟨rfl, HK9.out.below (Nat.le_refl _) fun _ f => f.elim⟩

end Qu
end Go.Proofs.Ytcopldjnkngjcaa
