/- SourceWide: the walk. -/
import Derived.Test.YtecbbnmdjflbpaaGreatDoorUWiB
namespace Go.Proofs.YtecbbnmdjflbpaaGreatDoor
namespace U
open Go.RowKit

/-- what pick gives -/
def pkI (c : Int) : Int := (if c < 0 then -(c + 1) else c) % 2
theorem pkI_in (c : Int) : 0 ≤ pkI c ∧ pkI c ≤ 1 := by
  unfold pkI
  exact ⟨Int.emod_nonneg _ (by omega), by have := Int.emod_lt_of_pos (if c < 0 then -(c + 1) else c) (show (0 : Int) < 2 by omega); omega⟩
theorem pick_val (c : Int) (h1 : -9223372036854775808 ≤ c) (h2 : c ≤ 9223372036854775807) (w : World) :
    Calls Tryz.prog 5 #[.int .i64 c, .int .i64 2] w fun e w' => e = .returned (.int .i64 (pkI c)) ∧ w' = w := by
  have hn : (1 : Int) ≤ 2 := by omega
  generalize hN : (2 : Int) = n at *
  have hn2 : n ≤ 1000 := by omega
  have HN := hide hN
  clear hN
  by_cases hc : c < 0
  · go_enter Tryz.func5, Tryz.ntmps5
    go_wp2_with fail
    go_ret
    have e : -(c + 1).tmod n = pkI c := by unfold pkI; rw [if_pos hc, ← Int.neg_tmod, Int.tmod_eq_emod_of_nonneg (by omega), HN.out]
    exact ⟨by rw [← e]; rfl, rfl⟩
  · go_enter Tryz.func5, Tryz.ntmps5
    go_wp2_with fail
    go_ret
    have e : c % n = pkI c := by unfold pkI; rw [if_neg (by omega), HN.out]
    exact ⟨by rw [← e]; rfl, rfl⟩
/-- a blank out of a number -/
theorem bl_of (z : Int) (h : z = 9 ∨ z = 32) : ∃ c : UInt8, isBl c = true ∧ z = (c.toNat : Int) := by
  rcases h with rfl | rfl
  · exact ⟨9, rfl, rfl⟩
  · exact ⟨32, rfl, rfl⟩
theorem half_in {c : Int} (h1 : -9223372036854775808 ≤ c) (h2 : c ≤ 9223372036854775807) : -9223372036854775808 ≤ c.tdiv 2 ∧ c.tdiv 2 ≤ 9223372036854775807 := by
  rcases Int.le_total 0 c with h | h
  · rw [Int.tdiv_eq_ediv_of_nonneg h]; omega
  · obtain ⟨d, rfl⟩ : ∃ d : Int, c = -d := ⟨-c, by omega⟩
    rw [Int.neg_tdiv, Int.tdiv_eq_ediv_of_nonneg (by omega)]; omega
/-- two texts that are read alike -/
def Two (E : World → Prop) (s t : List UInt8) : Prop := ∃ (NM : ByteArray) (dl : Int) (m : Nat) (p c : Int) (R : World → Option Addr → Nat → Prop),
    (∀ w, E w → Calls Tryz.prog 6 #[.string (ba s)] w fun e w' => ∃ va vc, e = .returned (.tuple #[.agg #[.string NM, .int .i64 dl, .slice va m vc], .int .i64 p, .int .i64 c]) ∧ Below w.heap.size w w' ∧ R w' va vc) ∧
    (∀ w, E w → Calls Tryz.prog 6 #[.string (ba t)] w fun e w' => ∃ va vc, e = .returned (.tuple #[.agg #[.string NM, .int .i64 dl, .slice va m vc], .int .i64 p, .int .i64 c]) ∧ Below w.heap.size w w' ∧ R w' va vc) ∧
    (∀ w w' va vc, R w va vc → Below w.heap.size w w' → R w' va vc) ∧
    ∀ w va vb vc vd, R w va vc → R w vb vd → Calls Tryz.prog 7 #[.agg #[.string NM, .int .i64 dl, .slice va m vc], .agg #[.string NM, .int .i64 dl, .slice vb m vd]] w fun e w' => e = .returned (.bool true) ∧ Keep (fun _ => False) w w'
theorem isBl_nat (y : UInt8) : isBl y = (decide (y.toNat = 32) || decide (y.toNat = 9)) := by
  unfold isBl
  have h1 : (y == 32) = decide (y.toNat = 32) := by
    rw [Bool.eq_iff_iff]; simp [← UInt8.toNat_inj]
  have h2 : (y == 9) = decide (y.toNat = 9) := by
    rw [Bool.eq_iff_iff]; simp [← UInt8.toNat_inj]
  rw [h1, h2]
theorem cell_new (w : World) (v : Value) (t : TypeId) : (w.alloc (.cells #[v] t)).cell? ⟨w.heap.size, 0, none⟩ = some v := by rw [World.cell?_alloc_mark]; rfl
theorem take_wid {c1 c2 : UInt8} {s : List UInt8} {i : Nat} {y : UInt8} (h : s[i]? = some y) : wid c1 c2 (s.take (i + 1)) = wid c1 c2 (s.take i) ++ (if isBl y then [c1, c2] else [y]) := by
  rw [List.take_add_one, h]
  exact wid_snoc _ _

set_option maxRecDepth 100000 in
set_option maxHeartbeats 4000000 in
theorem wide_core (E : World → Prop) (hEb : ∀ w w', E w → Below w.heap.size w w' → E w') (KN0 : ∀ w, E w → Calls Tryz.prog 4 #[] w fun e w' => e = .returned (.bool true) ∧ Below w.heap.size w w')
    (s : List UInt8) (PA0 : ∀ c1 c2, isBl c1 = true → isBl c2 = true → (wid c1 c2 s).length ≤ 65536 → Two E s (wid c1 c2 s)) (how : Int) (w : World) (hE : E w) (hl : s.length ≤ 9223372036854775807) (b1 : -9223372036854775808 ≤ how) (b2 : how ≤ 9223372036854775807) :
    Calls Tryz.prog 3 #[.string (ba s), .int .i64 how] w fun e w' => e = .returned (.bool true) ∧ Below w.heap.size w w' := by
  have KN := hide KN0
  have HE := hide hE
  have HEB := hide hEb
  have PK1 := hide (pick_val how b1 b2)
  have PK2 := hide (pick_val (how.tdiv 2) (half_in b1 b2).1 (half_in b1 b2).2)
  obtain ⟨p1, p2⟩ := pkI_in how
  obtain ⟨q1, q2⟩ := pkI_in (how.tdiv 2)
  obtain ⟨c1, hc1, hz1⟩ := bl_of (32 - 23 * pkI how) (by omega)
  obtain ⟨c2, hc2, hz2⟩ := bl_of (9 + 23 * pkI (how.tdiv 2)) (by omega)
  have PA := hide (PA0 c1 c2 hc1 hc2)
  generalize pkI how = k1 at *
  generalize pkI (how.tdiv 2) = k2 at *
  have hm1 : (32 - 23 * k1) % 256 = 32 - 23 * k1 := by omega
  have hm2 : (9 + 23 * k2) % 256 = 9 + 23 * k2 := by omega
  have HZ1 := hide hz1
  have HZ2 := hide hz2
  have hsz : s.length = (ba s).size := (ba_size s).symm
  have HGet : Hid (∀ i (h : i < (ba s).size), ∃ y, s[i]? = some y ∧ ((ba s)[i]'h).toNat = y.toNat) := fun i h => by
    have h' : i < s.length := by rw [hsz]; exact h
    refine ⟨s[i], List.getElem?_eq_getElem h', ?_⟩
    rfl
  have HT : Hid ((wid c1 c2 s).length ≤ 65536 → Two E s (wid c1 c2 s)) := PA.out
  unfold Two at HT
  clear PA
  generalize ba s = S at *
  clear hE hEb KN0 PA0 hc1 hc2 hz1 hz2
  go_enter Tryz.func3, Tryz.ntmps3
  go_wp2_with fail
  go_at_call 4
  refine (KN.out w HE.out).mono ?_
  rintro e w1 ⟨rfl, bb1⟩
  have HB1 := hide bb1
  clear bb1 KN
  go_wp2_with fail
  go_loopw [6, 7] (fun v iv wr => ∃ i m : Nat, iv = .int .i64 (i : Nat) ∧ i ≤ S.size ∧ m ≤ 65538 ∧ Hid (m = (wid c1 c2 (s.take i)).length) ∧ Hid (wr.ownsRow w.heap.size 5 1 v m (b8 (wid c1 c2 (s.take i)))) ∧ Hid (Below w.heap.size w wr)) (fun _ iv _ => S.size - (intOf iv).toNat)
  case atStart => exact ⟨0, 0, rfl, Nat.zero_le _, by omega, rfl, World.ownsRow_nil _ _ _ _, HB1.out⟩
  case round =>
    obtain ⟨i, m, rfl, hi, hmm, HM, HO, HB⟩ := hrel
    obtain ⟨va, vc, rfl⟩ := own_shape HO.out
    by_cases hml : m ≤ 65536
    · by_cases hlt : i < S.size
      · obtain ⟨y, hy, hyS⟩ := HGet.out i hlt
        have HTK := hide (take_wid (c1 := c1) (c2 := c2) hy)
        generalize wid c1 c2 (s.take i) = L at *
        generalize hc : y.toNat = c at *
        have HC := hide hc
        have HY : Hid (isBl y = (decide (c = 32) || decide (c = 9))) := by
          show _ = _
          rw [← hc]
          exact isBl_nat y
        have hone := cell_new wr (.int .u8 (c : Int)) 5
        have hbs : w.heap.size ≤ (wr.alloc (.cells #[.int .u8 (c : Int)] 5)).heap.size := by have := HB.out.size; simp; omega
        have HO1 := hide (HO.out.alloc (.cells #[.int .u8 (c : Int)] 5))
        have HBA := hide (HB.out.alloc HB.out.size (.cells #[.int .u8 (c : Int)] 5))
        clear hy hc HO HGet
        go_upto_region 9 with (at_builtin; refine wp_append8 rfl _ _ rfl w.heap.size _ L m HM.out rfl HO1.out ⟨wr.heap.size, 0, none⟩ (c : Int) y (by rw [HC.out]) rfl hone (by omega) hbs ?_; intro v' w5 ho5 k5; obtain ⟨g, vc', rfl, hg5⟩ := own8_form ho5 (by omega); have HO5 := hide ho5; have HB5 := hide (HBA.out.trans (k5.below HBA.out.size fun k hk => (HO1.out.lt k hk).1)); clear ho5 k5)
        clear hone hbs HO1 HBA
        by_cases hbl : c = 32 ∨ c = 9
        · have HW : Hid (wid c1 c2 (s.take (i + 1)) = L ++ [c1] ++ [c2]) := by
            show _ = _
            rw [HTK.out, HY.out, if_pos (by rcases hbl with h | h <;> simp [h])]
            simp
          have hw5 := HB5.out.size
          have HL : Hid (m = L.length) := HM.out
          have cc : w5.cell? ⟨g, m, none⟩ = some (.int .u8 (c : Int)) := by
            have := HO5.out
            rw [HL.out] at this ⊢
            rw [own8_cell this, HC.out]
          have fz := HO5.out.frozenAt m
          have HO6 : Hid ((w5.setCell ⟨g, m, none⟩ (.int .u8 (32 - 23 * k1))).ownsRow w.heap.size 5 1 (.slice (some ⟨g, 0, none⟩) (m + 1) vc') (m + 1) (b8 (L ++ [c1]))) := by
            have := HO5.out
            show _
            rw [HL.out] at this ⊢
            rw [HZ1.out]
            exact own8_last this c1
          have HB6 : Hid (Below w.heap.size w (w5.setCell ⟨g, m, none⟩ (.int .u8 (32 - 23 * k1)))) := HB5.out.trans ((Keep.setCell (S := fun k => k = g) w5 rfl _).below HB5.out.size fun k e => by rw [e]; exact hg5)
          have HM6 : Hid (m + 1 = (L ++ [c1]).length) := by show _ = _; rw [List.length_append, ← HL.out]; rfl
          clear HTK HY HC HM HB
          rcases hbl with rfl | rfl
          all_goals
            go_wp2_with fail
            go_at_call 5
            refine (PK1.out w5).mono ?_
            rintro e w6 ⟨rfl, hw6⟩
            obtain rfl := hw6.symm
            clear hw6
            go_upto_region 11 with fail
            generalize w5.setCell ⟨g, m, none⟩ (.int .u8 (32 - 23 * k1)) = w7 at *
            clear cc fz HO5 HB5
            have hone := cell_new w7 (.int .u8 (9 + 23 * k2)) 5
            have hbs : w.heap.size ≤ (w7.alloc (.cells #[.int .u8 (9 + 23 * k2)] 5)).heap.size := by have := HB6.out.size; simp; omega
            have HO8 := hide (HO6.out.alloc (.cells #[.int .u8 (9 + 23 * k2)] 5))
            have HB8 := hide (HB6.out.alloc HB6.out.size (.cells #[.int .u8 (9 + 23 * k2)] 5))
            clear HO6 HB6
            go_wp2_with fail
            go_at_call 5
            refine (PK2.out w7).mono ?_
            rintro e w8 ⟨rfl, hw8⟩
            obtain rfl := hw8.symm
            clear hw8
            go_wp2_with (at_builtin; refine wp_append8 rfl _ _ rfl w.heap.size _ (L ++ [c1]) (m + 1) HM6.out rfl HO8.out ⟨w7.heap.size, 0, none⟩ (9 + 23 * k2) c2 HZ2.out rfl hone (by omega) hbs ?_; intro v9 w9 ho9 k9; obtain ⟨va9, vc9, rfl⟩ := own_shape ho9; have HO9 := hide ho9; have HB9 := hide (HB8.out.trans (k9.below HB8.out.size fun k hk => (HO8.out.lt k hk).1)); clear ho9 k9)
            go_roundw
            · refine ⟨i + 1, m + 1 + 1, rfl, by omega, by omega, ?_, ?_, HB9.out⟩
              · show _ = _
                rw [HW.out, List.length_append, ← HM6.out]
                rfl
              · show World.ownsRow _ _ _ _ _ _ _
                rw [HW.out]
                exact HO9.out
            · show S.size - ((i : Int) + 1).toNat < S.size - (i : Int).toNat
              omega
        · have hc32 : ((c : Int) == 32) = false := by simp; omega
          have hc9 : ((c : Int) == 9) = false := by simp; omega
          have HW : Hid (wid c1 c2 (s.take (i + 1)) = L ++ [y]) := by
            show _ = _
            rw [HTK.out, HY.out, if_neg (by simp; omega)]
          go_wp2_with fail
          go_roundw
          · refine ⟨i + 1, m + 1, rfl, by omega, by omega, ?_, ?_, HB5.out⟩
            · show _ = _
              rw [HW.out, List.length_append, ← HM.out]
              rfl
            · show World.ownsRow _ _ _ _ _ _ _
              rw [HW.out]
              exact HO5.out
          · show S.size - ((i : Int) + 1).toNat < S.size - (i : Int).toNat
            omega
      · obtain rfl : i = S.size := by omega
        have hsl : s.take S.size = s := List.take_of_length_le (by omega)
        rw [hsl] at HM HO
        obtain ⟨NM, dl, n, p, c, R, R1, R2, R3, R4⟩ := HT.out (by have := HM.out; omega)
        have P1 := hide R1
        have P2 := hide R2
        have RB := hide R3
        have PL := hide R4
        clear R1 R2 R3 R4 HT HGet hsl
        generalize wid c1 c2 s = L at *
        generalize hSL : ba L = SL at *
        have HSL := hide hSL
        clear hSL
        go_wp2_with fail
        go_at_call 6
        refine (P1.out wr (HEB.out _ _ HE.out HB.out)).mono ?_
        rintro e w2 ⟨xa, xc, rfl, k2', r2⟩
        have HB2 := hide (HB.out.trans (k2'.mono HB.out.size))
        have HO2 := hide (own_below HO.out k2')
        have HR2 := hide r2
        clear k2' r2 HO HB P1
        go_upto_region 15 with fail
        have BL3 := hide ((Below.refl w2.heap.size w2).alloc (Nat.le_refl _) (.cells #[.string NM, .int .i64 dl, .slice xa n xc] 27))
        have HB3 := hide (HB2.out.trans (BL3.out.mono HB2.out.size))
        have HR3 := hide (RB.out _ _ _ _ HR2.out BL3.out)
        have HO3 := hide (own_below HO2.out BL3.out)
        have hb3 := heap_alloc_new w2 (.cells #[.string NM, .int .i64 dl, .slice xa n xc] 27)
        have hs3 : (w2.alloc (.cells #[.string NM, .int .i64 dl, .slice xa n xc] 27)).heap.size = w2.heap.size + 1 := by simp
        generalize w2.alloc (.cells #[.string NM, .int .i64 dl, .slice xa n xc] 27) = w3 at *
        generalize hP1 : w2.heap.size = A at *
        have HH3 := hide hb3
        have HS3 := hide hs3
        have hcv := conv8 HM.out HO3.out
        rw [HSL.out] at hcv
        clear hb3 hs3 BL3 HB2 HR2 HO2 HO3
        go_wp2_with fail
        go_at_call 6
        refine (P2.out w3 (HEB.out _ _ HE.out HB3.out)).mono ?_
        rintro e w4 ⟨ya, yc, rfl, k4, r4⟩
        have HB4 := hide (HB3.out.trans (k4.mono HB3.out.size))
        have HR4 := hide (RB.out _ _ _ _ HR3.out k4)
        have HQ4 := hide r4
        have HH4 := hide ((k4.block A (by rw [HS3.out]; omega)).trans HH3.out)
        have HS4 : Hid (A + 1 ≤ w4.heap.size) := by have := k4.size; have := HS3.out; show _ ≤ _; omega
        clear k4 r4 HB3 HR3 HH3 HS3 hcv P2
        go_upto_region 16 with fail
        have BL5 := hide ((Below.refl w4.heap.size w4).alloc (Nat.le_refl _) (.cells #[.string NM, .int .i64 dl, .slice ya n yc] 27))
        have HB5 := hide (HB4.out.trans (BL5.out.mono HB4.out.size))
        have HR5 := hide (RB.out _ _ _ _ HR4.out BL5.out)
        have HQ5 := hide (RB.out _ _ _ _ HQ4.out BL5.out)
        have hh5 := (BL5.out.block A (by have := HS4.out; omega)).trans HH4.out
        have hg5 := heap_alloc_new w4 (.cells #[.string NM, .int .i64 dl, .slice ya n yc] 27)
        generalize w4.alloc (.cells #[.string NM, .int .i64 dl, .slice ya n yc] 27) = w5 at *
        generalize hP2 : w4.heap.size = C at *
        have c0 : w5.cell? ⟨A, 0, none⟩ = some (.string NM) := cell_blk hh5 0 rfl
        have c1 : w5.cell? ⟨A, 1, none⟩ = some (.int .i64 dl) := cell_blk hh5 1 rfl
        have c2 : w5.cell? ⟨A, 2, none⟩ = some (.slice xa n xc) := cell_blk hh5 2 rfl
        have e0 : w5.cell? ⟨C, 0, none⟩ = some (.string NM) := cell_blk hg5 0 rfl
        have e1 : w5.cell? ⟨C, 1, none⟩ = some (.int .i64 dl) := cell_blk hg5 1 rfl
        have e2 : w5.cell? ⟨C, 2, none⟩ = some (.slice ya n yc) := cell_blk hg5 2 rfl
        clear hh5 hg5 HR4 HQ4 HH4 HS4 BL5 HB4
        go_wp2_with fail
        go_at_call 7
        refine (PL.out w5 xa ya xc yc HR5.out HQ5.out).mono ?_
        rintro e w8 ⟨rfl, k8⟩
        have K8 := hide (HB5.out.trans (k8.below HB5.out.size fun _ h => h.elim))
        clear k8 c0 c1 c2 e0 e1 e2 HR5 HQ5 HB5 PL
        go_wp2_with fail
        go_ret
        exact ⟨by simp, K8.out⟩
    · by_cases hlt : i < S.size
      · go_wp2_with fail
        go_ret
        exact ⟨rfl, HB.out⟩
      · go_wp2_with fail
        go_ret
        exact ⟨rfl, HB.out⟩
end U
end Go.Proofs.YtecbbnmdjflbpaaGreatDoor
