/- CronFields: listed, of something. -/
import Derived.Test.YtbflmgiheccgdaaDoorXLst
namespace Go.Proofs.YtbflmgiheccgdaaDoor
open Go.RowKit

theorem join_snoc (c : UInt8) (y : List UInt8) : ∀ xs : List (List UInt8), xs ≠ [] → Lib.join (xs ++ [y]) [c] = Lib.join xs [c] ++ c :: y
  | [], h => absurd rfl h
  | [x], _ => by
    rw [List.singleton_append, join_two]
    simp [Lib.join, List.intercalate, List.intersperse]
  | x :: z :: r, _ => by
    have ih := join_snoc c y (z :: r) (by simp)
    rw [List.cons_append, List.cons_append, join_two, ← List.cons_append, ih, join_two]
    simp
theorem llist_succ (lo hi : Nat) (z : List Int) (i : Nat) : llist lo hi z (i + 1) = llist lo hi z i ++ [litem lo hi (z.getD i 0)] := by simp [llist, List.range_succ]
theorem lw_len (hi : Nat) (r : Nat × Nat) (h1 : r.2 < 100) (h2 : hi < 100) : (X.lw hi r).length ≤ 8 := by
  have a := dec_len r.2 h1
  have b := dec_len hi h2
  unfold X.lw
  split
  · simp only [List.length_append, List.length_cons]; omega
  · split
    · simp only [List.length_append, List.length_cons]; omega
    · omega
theorem litem_in (lo hi : Nat) (x : Int) (h : lo ≤ hi) : (litem lo hi x).1 < 3 ∧ lo ≤ (litem lo hi x).2 ∧ (litem lo hi x).2 ≤ hi := by
  have a := pickV_in (Int.tdiv x 64) 3 (by decide)
  have b := pickV_in x ((hi : Int) - lo + 1) (by omega)
  unfold litem
  simp only
  omega
def lstT (lo hi : Nat) (z : List Int) (i : Nat) : List UInt8 := Lib.join ((llist lo hi z i).map (X.lw hi)) [44]
theorem lstT_zero (lo hi : Nat) (z : List Int) : lstT lo hi z 0 = [] := by simp [lstT, llist, Lib.join, List.intercalate]
theorem lstT_one (lo hi : Nat) (z : List Int) : lstT lo hi z 1 = X.lw hi (litem lo hi (z.getD 0 0)) := by simp [lstT, llist, Lib.join, List.intercalate]
theorem lstT_succ (lo hi : Nat) (z : List Int) (i : Nat) (h : 0 < i) : lstT lo hi z (i + 1) = lstT lo hi z i ++ 44 :: X.lw hi (litem lo hi (z.getD i 0)) := by
  unfold lstT
  rw [llist_succ, List.map_append, List.map_singleton, join_snoc]
  intro e
  have := congrArg List.length e
  simp [llist] at this
  omega
theorem lstT_len (lo hi : Nat) (z : List Int) (i : Nat) (h : lo ≤ hi) (h2 : hi < 100) : (lstT lo hi z i).length ≤ i * 9 := by
  have := join_len 44 8 ((llist lo hi z i).map (X.lw hi)) (fun x hx => by
    obtain ⟨r, hr, rfl⟩ := List.mem_map.1 hx
    obtain ⟨j, _, rfl⟩ := List.mem_map.1 hr
    have := litem_in lo hi (z.getD j 0) h
    exact lw_len hi _ (by omega) h2)
  simpa [llist, lstT] using this
set_option maxHeartbeats 2000000 in
set_option maxRecDepth 100000 in
theorem listed_some (f : Nat) (a : Option Addr) (n c : Nat) (z : List Int) (w : World) (hR : RdI w a n z) (hn : 0 < n) :
    Calls Tryd.prog 5 #[.slice a n c, .int .i64 (X.loF f), .int .i64 (X.hiF f)] w fun e w' => Listed f (llist (X.loF f) (X.hiF f) z (min n 20)) w e w' ∧ Below w.heap.size w w' := by
  have hh := X.loF_le f
  obtain ⟨hn1, hz | ⟨g, off, rfl, hcl⟩⟩ := hR
  · omega
  unfold Listed
  have e1 : X.lword f (llist (X.loF f) (X.hiF f) z (min n 20)) = if llist (X.loF f) (X.hiF f) z (min n 20) = [] then [42] else Lib.join ((llist (X.loF f) (X.hiF f) z (min n 20)).map (X.lw (X.hiF f))) [44] := rfl
  have e2 : ∀ v, X.lhas f (llist (X.loF f) (X.hiF f) z (min n 20)) v = (decide (X.loF f ≤ v) && decide (v ≤ X.hiF f) && ((llist (X.loF f) (X.hiF f) z (min n 20)).isEmpty || (llist (X.loF f) (X.hiF f) z (min n 20)).any fun r => decide (r.2 = v))) := fun _ => rfl
  generalize X.lword f (llist (X.loF f) (X.hiF f) z (min n 20)) = TT at *
  generalize X.lhas f (llist (X.loF f) (X.hiF f) z (min n 20)) = HH at *
  have E1 := hide e1
  have E2 := hide e2
  clear e1 e2
  generalize X.loF f = lo at *
  generalize X.hiF f = hi at *
  obtain ⟨m, hm⟩ : ∃ m, m = hi + 1 := ⟨_, rfl⟩
  rw [← hm]
  have hadd : (hi : Int) + 1 = (m : Int) := by omega
  have b0 : (hi : Int) ≤ 59 := by omega
  have b1 : (0 : Int) ≤ hi := by omega
  have b2 : (0 : Int) ≤ m := by omega
  have b3 : (m : Int) ≤ 60 := by omega
  have hmk := make_bools m (by omega)
  have hN := HasAt.new w m
  have HM := hide hm
  have l0 : (0 : Int) ≤ lo := by omega
  have l1 : (lo : Int) ≤ hi := by omega
  have n0 : ((n : Int) == 0) = false := by simp; omega
  have HCL := hide hcl
  clear hm hh hcl
  go_enter Tryd.func5, Tryd.ntmps5
  go_wp2_with fail
  clear hmk
  generalize w.alloc (.cells (madeCells #[.bool false] m) 4) = W1 at *
  go_loopw [10, 11] (fun y x wx => ∃ (i : Nat) (T : ByteArray), y = .string T ∧ x = .int .i64 i ∧ i ≤ n ∧ i ≤ 20 ∧ Hid (T.data.toList = lstT lo hi z i) ∧ HasAt w m (fun v => (llist lo hi z i).any fun r => decide (r.2 = v)) wx) (fun _ x _ => 20 - (intOf x).toNat)
  case atStart => exact ⟨0, ⟨#[]⟩, rfl, rfl, by omega, by omega, by show _ = _; rw [lstT_zero], hN.congr fun v _ => by simp [llist]⟩
  case round =>
    obtain ⟨i, T, rfl, rfl, in0, i20, HTT, hW⟩ := hrel
    clear hN
    by_cases hlt : i < n ∧ i < 20
    · obtain ⟨hlt, hlt2⟩ := hlt
      obtain ⟨cx, x0, x1⟩ := HCL.out i hlt
      have hgl := World.block_lt_of_cell? _ ⟨g, off + i, none⟩ cx
      have cw : wr.cell? ⟨g, off + i, none⟩ = some (.int .i64 (z.getD i 0)) := by rw [hW.bel.cell (p := ⟨g, off + i, none⟩) hgl]; exact cx
      have hq : -9223372036854775808 ≤ Int.tdiv (z.getD i 0) 64 ∧ Int.tdiv (z.getD i 0) 64 ≤ 9223372036854775807 := by
        rcases Int.le_total 0 (z.getD i 0) with h | h
        · rw [Int.tdiv_eq_ediv_of_nonneg h]; omega
        · have e : Int.tdiv (z.getD i 0) 64 = -((-(z.getD i 0)) / 64) := by rw [← Int.tdiv_eq_ediv_of_nonneg (by omega), Int.neg_tdiv, Int.neg_neg]
          rw [e]; omega
      have hpk := pickV_in (z.getD i 0) ((hi : Int) - lo + 1) (by omega)
      have hkk := pickV_in (Int.tdiv (z.getD i 0) 64) 3 (by decide)
      have pk := pick_any (z.getD i 0) ((hi : Int) - lo + 1) x0 x1 (by omega) (by omega)
      have kk := pick_any (Int.tdiv (z.getD i 0) 64) 3 hq.1 hq.2 (by decide) (by decide)
      obtain ⟨v, hv⟩ : ∃ v : Nat, v = lo + (pickV (z.getD i 0) ((hi : Int) - lo + 1)).toNat := ⟨_, rfl⟩
      have hvp : (lo : Int) + pickV (z.getD i 0) ((hi : Int) - lo + 1) = (v : Int) := by omega
      obtain ⟨k, hk⟩ : ∃ k : Nat, k = (pickV (Int.tdiv (z.getD i 0) 64) 3).toNat := ⟨_, rfl⟩
      have hkp : pickV (Int.tdiv (z.getD i 0) 64) 3 = (k : Int) := by omega
      have hit : litem lo hi (z.getD i 0) = (k, v) := by unfold litem; rw [← hv, ← hk]
      have hk3 : k < 3 := by omega
      have hvm : v < m := by omega
      have hv60 : v < 60 := by omega
      have hvi : (v : Int) < m := by omega
      have hv0 : (0 : Int) ≤ v := by omega
      rw [hkp] at kk
      have hsz : T.size ≤ 180 := by
        have e1 : T.size = T.data.toList.length := by simp
        have e2 := lstT_len lo hi z i (by omega) (by omega)
        rw [e1, HTT.out]; omega
      have HW1 := hide ((hW.set hvm).congr (H' := fun u => (llist lo hi z (i + 1)).any fun r => decide (r.2 = u)) fun u _ => by
        rw [llist_succ, List.any_append, hit]
        simp [eq_comm])
      have c0 := hW.c v hvm
      have f0 := hW.fr v
      have hT0 : i = 0 → lstT lo hi z (i + 1) = T.data.toList ++ X.lw hi (k, v) := by
        rintro rfl; rw [HTT.out, lstT_zero, lstT_one, hit]; rfl
      have hT1 : 0 < i → lstT lo hi z (i + 1) = T.data.toList ++ 44 :: X.lw hi (k, v) := by
        intro h0; rw [HTT.out, lstT_succ _ _ _ _ h0, hit]
      have dv := digits_any v hv60
      have dh := digits_any hi (by omega)
      have sv := dec_len v (by omega)
      have sh := dec_len hi (by omega)
      have hlw : X.lw hi (k, v) = if k = 1 then Lib.decDigits v ++ 45 :: Lib.decDigits v else if k = 2 then Lib.decDigits v ++ 45 :: (Lib.decDigits v ++ 47 :: Lib.decDigits hi) else Lib.decDigits v := rfl
      rw [hlw] at hT0 hT1
      generalize Lib.decDigits v = D at *
      generalize Lib.decDigits hi = E at *
      have HT0 := hide hT0
      have HT1 := hide hT1
      have DV := hide dv
      have DH := hide dh
      have PK := hide pk
      have KK := hide kk
      have HCX := hide cx
      generalize pickV (z.getD i 0) ((hi : Int) - lo + 1) = p at *
      generalize z.getD i 0 = x at *
      obtain ⟨t, ht⟩ : ∃ t, Int.tdiv x 64 = t := ⟨_, rfl⟩
      rw [ht] at KK
      have i0 : (i : Int) < n := by omega
      have i2 : (i : Int) < 20 := by omega
      have i3 : (0 : Int) ≤ i := by omega
      rw [ht] at hq
      obtain ⟨t0, t1⟩ := hq
      clear hT0 hT1 dv dh pk kk hlw hkk hkp hk hv hW hit cx hadd
      have HTt := hide ht
      have HS := hide hsz
      have HN := hide (show i + 1 ≤ n ∧ i + 1 ≤ 20 by omega)
      have HK3 := hide hk3
      clear ht hsz hk3 hlt hlt2 in0 i20
      by_cases hi0 : 0 < i
      · have hgt : (0 : Int) < i := by omega
        have HI := hide hi0
        clear hi0
        go_wp2_with fail
        go_at_call 7
        refine (PK.out _).mono ?_
        rintro e w2 ⟨rfl, rfl⟩
        have hsz : T.size ≤ 180 := HS.out
        go_wp2_with fail
        go_at_call 12
        refine (DV.out _).mono ?_
        rintro e w3 ⟨rfl, hb3⟩
        have hW3 := HW1.out.keep hb3
        have cw3 : w3.cell? ⟨g, off + i, none⟩ = some (.int .i64 x) := by rw [hW3.bel.cell (p := ⟨g, off + i, none⟩) hgl]; exact HCX.out
        have HW3 := hide hW3
        clear hb3 hW3 c0 f0 cw HW1
        have ht : Int.tdiv x 64 = t := HTt.out
        go_wp2_with fail
        go_at_call 7
        refine (KK.out _).mono ?_
        rintro e w4 ⟨rfl, rfl⟩
        clear cw3 ht
        have hk3 := HK3.out
        obtain rfl | rfl | rfl : k = 0 ∨ k = 1 ∨ k = 2 := by omega
        · go_wp2_with fail
          exact ⟨⟨i + 1, _, rfl, by go_num, HN.out.1, HN.out.2, (by show _ = _; rw [HT1.out HI.out]; simp), HW3.out⟩, by have := HN.out; simp [intOf]; omega⟩
        · go_wp2_with fail
          go_at_call 12
          refine (DV.out _).mono ?_
          rintro e w5 ⟨rfl, hb5⟩
          have HW5 := hide (HW3.out.keep hb5)
          clear hb5
          go_wp2_with fail
          exact ⟨⟨i + 1, _, rfl, by go_num, HN.out.1, HN.out.2, (by show _ = _; rw [HT1.out HI.out]; simp), HW5.out⟩, by have := HN.out; simp [intOf]; omega⟩
        · go_wp2_with fail
          go_at_call 12
          refine (DV.out _).mono ?_
          rintro e w5 ⟨rfl, hb5⟩
          have HW5 := hide (HW3.out.keep hb5)
          clear hb5
          go_wp2_with fail
          go_at_call 12
          refine (DH.out _).mono ?_
          rintro e w6 ⟨rfl, hb6⟩
          have HW6 := hide (HW5.out.keep hb6)
          clear hb6
          go_wp2_with fail
          exact ⟨⟨i + 1, _, rfl, by go_num, HN.out.1, HN.out.2, (by show _ = _; rw [HT1.out HI.out]; simp), HW6.out⟩, by have := HN.out; simp [intOf]; omega⟩
      · have HI := hide (show i = 0 by omega)
        go_wp2_with fail
        go_at_call 7
        refine (PK.out _).mono ?_
        rintro e w2 ⟨rfl, rfl⟩
        have hsz : T.size ≤ 180 := HS.out
        go_wp2_with fail
        go_at_call 12
        refine (DV.out _).mono ?_
        rintro e w3 ⟨rfl, hb3⟩
        have hW3 := HW1.out.keep hb3
        have cw3 : w3.cell? ⟨g, off + i, none⟩ = some (.int .i64 x) := by rw [hW3.bel.cell (p := ⟨g, off + i, none⟩) hgl]; exact HCX.out
        have HW3 := hide hW3
        clear hb3 hW3 c0 f0 cw HW1
        have ht : Int.tdiv x 64 = t := HTt.out
        go_wp2_with fail
        go_at_call 7
        refine (KK.out _).mono ?_
        rintro e w4 ⟨rfl, rfl⟩
        clear cw3 ht
        have hk3 := HK3.out
        obtain rfl | rfl | rfl : k = 0 ∨ k = 1 ∨ k = 2 := by omega
        · go_wp2_with fail
          exact ⟨⟨i + 1, _, rfl, by go_num, HN.out.1, HN.out.2, (by show _ = _; rw [HT0.out HI.out]; simp), HW3.out⟩, by have := HN.out; simp [intOf]; omega⟩
        · go_wp2_with fail
          go_at_call 12
          refine (DV.out _).mono ?_
          rintro e w5 ⟨rfl, hb5⟩
          have HW5 := hide (HW3.out.keep hb5)
          clear hb5
          go_wp2_with fail
          exact ⟨⟨i + 1, _, rfl, by go_num, HN.out.1, HN.out.2, (by show _ = _; rw [HT0.out HI.out]; simp), HW5.out⟩, by have := HN.out; simp [intOf]; omega⟩
        · go_wp2_with fail
          go_at_call 12
          refine (DV.out _).mono ?_
          rintro e w5 ⟨rfl, hb5⟩
          have HW5 := hide (HW3.out.keep hb5)
          clear hb5
          go_wp2_with fail
          go_at_call 12
          refine (DH.out _).mono ?_
          rintro e w6 ⟨rfl, hb6⟩
          have HW6 := hide (HW5.out.keep hb6)
          clear hb6
          go_wp2_with fail
          exact ⟨⟨i + 1, _, rfl, by go_num, HN.out.1, HN.out.2, (by show _ = _; rw [HT0.out HI.out]; simp), HW6.out⟩, by have := HN.out; simp [intOf]; omega⟩
    · have hmin : min n 20 = i := by omega
      have hne : llist lo hi z (min n 20) ≠ [] := by
        intro e
        have := congrArg List.length e
        simp [llist] at this
        omega
      have hT : (⟨TT.toArray⟩ : ByteArray) = T := by
        rw [E1.out, if_neg hne, hmin]
        have := HTT.out
        unfold lstT at this
        rw [← this]
      have HW := hide (hW.congr (H' := HH) fun v hv => by
        rw [E2.out v]
        rw [show (llist lo hi z (min n 20)).isEmpty = false by simp [hne], Bool.false_or, hmin]
        rw [Bool.eq_iff_iff]
        simp only [Bool.and_eq_true, decide_eq_true_eq, List.any_eq_true]
        constructor
        · rintro ⟨r, hr, e⟩
          obtain ⟨j, _, rfl⟩ := List.mem_map.1 hr
          have := litem_in lo hi (z.getD j 0) (by omega)
          exact ⟨⟨by omega, by omega⟩, _, hr, e⟩
        · rintro ⟨_, h⟩
          exact h)
      have HT := hide hT
      clear hW hT hne hmin
      by_cases hin : i < n
      · have hi2 : ¬ i < 20 := fun h => hlt ⟨hin, h⟩
        clear hlt in0 i20
        go_wp2_with fail
        go_ret2
        exact ⟨⟨w.heap.size, by rw [HT.out]; rfl, HW.out.c, Nat.le_refl _, HW.out.lt⟩, HW.out.bel⟩
      · clear hlt in0 i20
        go_wp2_with fail
        go_ret2
        exact ⟨⟨w.heap.size, by rw [HT.out]; rfl, HW.out.c, Nat.le_refl _, HW.out.lt⟩, HW.out.bel⟩
theorem listed_any (f : Nat) (a : Option Addr) (n c : Nat) (z : List Int) (w : World) (hR : RdI w a n z) :
    Calls Tryd.prog 5 #[.slice a n c, .int .i64 (X.loF f), .int .i64 (X.hiF f)] w fun e w' => Listed f (llist (X.loF f) (X.hiF f) z (min n 20)) w e w' ∧ Below w.heap.size w w' := by
  by_cases hn : 0 < n
  · exact listed_some f a n c z w hR hn
  · obtain rfl : n = 0 := by omega
    exact listed_none f a c w
theorem llist_ok (f : Nat) (z : List Int) (n : Nat) : X.LOk f (llist (X.loF f) (X.hiF f) z (min n 20)) := by
  refine ⟨by simp [llist]; omega, fun r hr => ?_⟩
  obtain ⟨j, _, rfl⟩ := List.mem_map.1 hr
  exact litem_in _ _ _ (X.loF_le f).1
end Go.Proofs.YtbflmgiheccgdaaDoor
