/- PlanNeeds: the walk. -/
import Derived.Test.YtcboeodnjnfamabGWai
import Derived.Test.YtcboeodnjnfamabGCyM
namespace Go.Proofs.Ytcboeodnjnfamab
namespace Gr
open Go.RowKit

theorem pick_any (c : Int) (n : Nat) (h1 : -9223372036854775808 ≤ c) (h2 : c ≤ 9223372036854775807) (hn : 1 ≤ n) (hn2 : n ≤ 64) (w : World) :
    Calls Try.prog 9 #[.int .i64 c, .int .i64 (n : Int)] w fun e w' => (∃ r : Nat, e = .returned (.int .i64 (r : Int)) ∧ r < n) ∧ w' = w := by
  by_cases hc : c < 0
  · go_enter Try.func9, Try.ntmps9
    go_wp2_with fail
    go_ret
    have e : -(c + 1).tmod n = (-(c + 1)) % n := by rw [← Int.neg_tmod, Int.tmod_eq_emod_of_nonneg (by omega)]
    have a1 := Int.emod_nonneg (-(c + 1)) (show (n : Int) ≠ 0 by omega)
    have a2 := Int.emod_lt_of_pos (-(c + 1)) (show (0 : Int) < n by omega)
    exact ⟨⟨((-(c + 1)) % n).toNat, ret_int (by rw [Int.toNat_of_nonneg a1]; exact e), by omega⟩, rfl⟩
  · go_enter Try.func9, Try.ntmps9
    go_wp2_with fail
    go_ret
    have a1 := Int.emod_nonneg c (show (n : Int) ≠ 0 by omega)
    have a2 := Int.emod_lt_of_pos c (show (0 : Int) < n by omega)
    refine ⟨⟨(c % n).toNat, ?_, by omega⟩, rfl⟩
    rw [Int.toNat_of_nonneg a1]
    rfl
theorem bel_add (xs : List No) (t i : Nat) : ∀ d, ∃ r, bel xs t (i + d) = bel xs t i ++ r
  | 0 => ⟨[], by simp⟩
  | d + 1 => by
    obtain ⟨r, hr⟩ := bel_add xs t i d
    by_cases h : Waits (ng xs) (i + d) t
    · exact ⟨r ++ [i + d], by rw [show i + (d + 1) = (i + d) + 1 by omega, bel_yes h, hr, List.append_assoc]⟩
    · exact ⟨r, by rw [show i + (d + 1) = (i + d) + 1 by omega, bel_no h, hr]⟩
theorem bel_here {xs : List No} {t i n : Nat} (hi : i < n) (h : Waits (ng xs) i t) : (bel xs t n)[(bel xs t i).length]? = some i := by
  obtain ⟨r, hr⟩ := bel_add xs t (i + 1) (n - (i + 1))
  rw [show i + 1 + (n - (i + 1)) = n by omega, bel_yes h, List.append_assoc] at hr
  rw [hr]
  simp

set_option maxRecDepth 100000 in
set_option maxHeartbeats 4000000 in
theorem needs_walk (nd : Int) (nm : ByteArray) (dl : Int) (s : Option Addr × Nat × Nat) (xs : List No) (w : World) (hP : RdP w.heap.size w s xs) (hs : Sz nm xs) (hc : Caps xs) (hd1 : -9223372036854775808 ≤ nd) (hd2 : nd ≤ 9223372036854775807) :
    Calls Try.prog 4 #[.agg #[.string nm, .int .i64 dl, .slice s.1 s.2.1 s.2.2], .int .i64 nd] w fun e w' => e = .returned (.bool true) ∧ Below w.heap.size w w' := by
  obtain ⟨a, n, c⟩ := s
  have HN : Hid (n = xs.length) := hP.1
  have KW := hide (Keep.alloc (fun _ => False) w (.cells #[.string nm, .int .i64 dl, .slice a n c] 24))
  have BW := hide (heap_alloc_new w (.cells #[.string nm, .int .i64 dl, .slice a n c] 24))
  have HP := hide (hP.new KW.out)
  have HSz := hide hs
  clear hP hs
  go_enter Try.func4, Try.ntmps4
  go_wp2_with fail
  go_at_call 6
  refine (awake_any _).mono ?_
  rintro e w1 ⟨rfl, k1⟩
  generalize w.alloc (.cells #[.string nm, .int .i64 dl, .slice a n c] 24) = w0 at *
  have K1 := hide k1
  have b1 := k1.blk BW.out fun f => f
  have c0 := cell_blk b1 0 (v := .string nm) rfl
  have c1 := cell_blk b1 1 (v := .int .i64 dl) rfl
  have c2 := cell_blk b1 2 (v := .slice a n c) rfl
  have SM := hide (small_any nm dl _ _ _ _ (HP.out.new k1))
  clear k1 b1
  go_wp2_with fail
  go_at_call 7
  refine SM.out.mono ?_
  rintro e w2 ⟨⟨b, rfl, hb⟩, k2⟩
  have K2 := hide (K1.out.more k2)
  have c0 := k2.cell c0 fun f => f
  have c1 := k2.cell c1 fun f => f
  have c2 := k2.cell c2 fun f => f
  have HB := hide hb
  clear k2 hb SM
  cases b
  · go_wp2_with fail
    go_ret
    exact ⟨rfl, (KW.out.more K2.out).below (Nat.le_refl _) fun _ f => f.elim⟩
  have HED : Hid (edges xs ≤ 20000) := by have := HB.out rfl; exact Nat.le_trans (Nat.le_add_left _ _) this
  have hs0 : w.heap.size ≤ w0.heap.size := KW.out.size
  have CK := hide (check_any nm dl _ _ _ w2 (HP.out.new K2.out) (Nat.le_trans hs0 K2.out.size) HSz.out)
  go_wp2_with fail
  go_at_call 8
  refine CK.out.mono ?_
  rintro e w3 ⟨rfl, k3⟩
  have K3 := hide (K2.out.more k3)
  have c0 := k3.cell c0 fun f => f
  have c1 := k3.cell c1 fun f => f
  have c2 := k3.cell c2 fun f => f
  clear k3 CK
  have BL := hide (fun (x : Int) w' (k : Keep (fun _ => False) w0 w') => below_any nm dl _ _ x _ w' (HP.out.new k) (Nat.le_trans hs0 k.size) HSz.out)
  have HC := hide (fun x => show belC nm dl xs x = if (chk nm dl xs).2 ≠ 0 then (chk nm dl xs).2 else if 0 ≤ x ∧ x < xs.length then 0 else 103 from rfl)
  have HO := hide (chk_ok (nm := nm) (dl := dl) (xs := xs))
  generalize chk nm dl xs = R at *
  obtain ⟨r1, r2⟩ := R
  by_cases h : r2 = 0
  · subst h
    obtain ⟨_, _, hl1, hv, hcy⟩ := HO.out rfl
    have hn1 : 1 ≤ n := by have := HN.out; omega
    have hn64 : n ≤ 64 := by have := HN.out; have := hv.1; omega
    have HC0 : Hid (∀ x : Nat, x < n → belC nm dl xs x = 0) := fun x hx => by rw [HC.out, if_neg (by simp), if_pos ⟨by omega, by have := HN.out; omega⟩]
    have HCn : Hid (belC nm dl xs (n : Int) = 103) := hide (by rw [HC.out, if_neg (by simp), if_neg (by have := HN.out; omega)])
    have WA := hide (fun (i t : Nat) w' (hi : i < n) (k : Keep (fun _ => False) w0 w') => waits_any nm dl _ _ i t true _ w' (HP.out.new k) (Nat.le_trans hs0 k.size) hv hc (show i < xs.length by have := HN.out; omega) HED.out)
    have PK := hide (pick_any nd n hd1 hd2 hn1 hn64 w3)
    have hn0 : ¬ ((n : Int) = 0) := by omega
    clear HO HC hcy HB hv
    go_wp2_with fail
    go_at_call 9
    refine PK.out.mono ?_
    rintro e w4 ⟨⟨t, rfl, htn⟩, rfl⟩
    have B1 := hide (BL.out (t : Int) w4 K3.out)
    clear PK
    rw [HC0.out t htn] at B1
    go_wp2_with fail
    go_at_call 12
    refine B1.out.mono ?_
    rintro e w5 ⟨l, v, rfl, ho, _, hl2, k5⟩
    obtain rfl : l = bel xs t n := by rw [hl2 (by trivial), Int.toNat_natCast, HN.out]
    have K5 := hide (K3.out.more k5)
    have c0 := k5.cell c0 fun f => f
    have c1 := k5.cell c1 fun f => f
    have c2 := k5.cell c2 fun f => f
    have hbl := bel_len xs t n
    obtain ⟨va, vc, hvs, rdl⟩ := ownsRow_rd ho (by omega)
    subst hvs
    have RL := hide rdl
    clear ho hl2 k5 B1 rdl
    have hsw : Hid (∀ wr, Keep (fun _ => False) w5 wr → Keep (fun _ => False) w0 wr) := fun wr k => K5.out.more k
    go_wp2_with fail
    go_loopw [14, 15] (fun nv iv' wr => ∃ i : Nat, nv = .int .i64 ((bel xs t i).length : Nat) ∧ iv' = .int .i64 (i : Nat) ∧ i ≤ n ∧ wr.cell? ⟨w.heap.size, 0, none⟩ = some (.string nm) ∧ wr.cell? ⟨w.heap.size, 1, none⟩ = some (.int .i64 dl) ∧ wr.cell? ⟨w.heap.size, 2, none⟩ = some (.slice a n c) ∧ Hid (Keep (fun _ => False) w5 wr)) (fun _ iv' _ => n - (intOf iv').toNat)
    case atStart => exact ⟨0, rfl, rfl, Nat.zero_le _, c0, c1, c2, Keep.refl _ _⟩
    case round =>
      obtain ⟨i, rfl, rfl, hi, d0, d1, d2, HD⟩ := hrel
      have hbi := bel_len xs t i
      by_cases hlt : i < n
      · have W1 := hide (WA.out i t wr hlt (hsw.out wr HD.out))
        go_wp2_with fail
        go_at_call 11
        refine W1.out.mono ?_
        rintro e w6 ⟨⟨r, rfl, hr⟩, k6⟩
        have HD6 := hide (HD.out.more k6)
        have d0 := k6.cell d0 fun f => f
        have d1 := k6.cell d1 fun f => f
        have d2 := k6.cell d2 fun f => f
        have HRR := hide (show r = true ↔ Waits (ng xs) i t from hr)
        clear k6 hr W1
        cases r
        · have HB2 := hide (bel_no (t := t) (fun h => Bool.false_ne_true (HRR.out.2 h)))
          go_wp2_with fail
          go_roundw
          · exact ⟨i + 1, by rw [HB2.out], rfl, by omega, d0, d1, d2, HD6.out⟩
          · show n - ((i : Int) + 1).toNat < n - (i : Int).toNat
            omega
        · have hw := HRR.out.1 rfl
          have HWT := hide hw
          have HB2 := hide (congrArg List.length (bel_yes hw))
          have hhere := bel_here (n := n) hlt hw
          have hin := (List.getElem?_eq_some_iff.1 hhere).1
          obtain ⟨g', off', y, hva, hg', hy, hcy⟩ := (RL.out.new HD6.out).at (i := (bel xs t i).length) hin
          have hva : va = some ⟨g', off', none⟩ := hva
          subst hva
          rw [List.getElem?_map, hhere] at hy
          obtain rfl := Option.some.inj hy
          have B2 := hide (BL.out (i : Int) w6 (hsw.out w6 HD6.out))
          rw [HC0.out i hlt] at B2
          have hin2 : ¬ (((bel xs t n).length : Int) ≤ (bel xs t i).length) := by omega
          clear hw hhere hy
          generalize hbx : (bel xs t i).length = q at *
          go_wp2_with fail
          go_at_call 12
          refine B2.out.mono ?_
          rintro e w7 ⟨l2, v2, rfl, ho2, _, hl2, k7⟩
          obtain rfl : l2 = bel xs i n := by rw [hl2 (by trivial), Int.toNat_natCast, HN.out]
          have HD7 := hide (HD6.out.more k7)
          have d0 := k7.cell d0 fun f => f
          have d1 := k7.cell d1 fun f => f
          have d2 := k7.cell d2 fun f => f
          have hbl2 := bel_len xs i n
          obtain ⟨va2, vc2, hvs2, rdm⟩ := ownsRow_rd ho2 (by omega)
          subst hvs2
          have RM := hide rdm
          have RL7 := hide (RL.out.new HD7.out)
          have HB3 : Hid ((bel xs t (i + 1)).length = q + 1) := hide (by rw [HB2.out, List.length_append, hbx]; rfl)
          clear ho2 hl2 k7 B2 rdm hcy hbx
          go_wp2_with fail
          go_loopw [19] (fun kv wq => ∃ k : Nat, kv = .int .i64 (k : Nat) ∧ k ≤ (bel xs i n).length ∧ wq = w7) (fun kv _ => (bel xs i n).length - (intOf kv).toNat)
          case atStart => exact ⟨0, rfl, Nat.zero_le _, rfl⟩
          case round =>
            obtain ⟨k, rfl, hk, rfl⟩ := hrel
            by_cases hkl : k < (bel xs i n).length
            · obtain ⟨gm, offm, y, hvm, hgm, hy, hcm⟩ := RM.out.at (i := k) hkl
              have hvm : va2 = some ⟨gm, offm, none⟩ := hvm
              subst hvm
              rw [List.getElem?_map] at hy
              obtain ⟨y', hy', rfl⟩ := Option.map_eq_some_iff.1 hy
              have hmem := bel_mem.1 (List.mem_of_getElem? hy')
              have hin3 : y' ∈ bel xs t n := bel_mem.2 ⟨hmem.1, hmem.2.trans HWT.out⟩
              have PL := hide (place_any _ _ (y' : Int) _ _ RL7.out)
              have HI3 := hide hin3
              clear hy hy' hmem hin3
              go_wp2_with fail
              go_at_call 13
              refine PL.out.mono ?_
              rintro e w8 ⟨⟨r, rfl, hr⟩, rfl⟩
              have hr0 : ¬ (r < 0) := fun hc => by
                rcases hr with ⟨rfl, hn⟩ | ⟨kk, rfl, _⟩
                · exact hn (List.mem_map.2 ⟨y', HI3.out, rfl⟩)
                · omega
              clear hr PL
              go_wp2_with fail
              go_roundw
              · exact ⟨k + 1, rfl, by omega, trivial⟩
              · show (bel xs i n).length - ((k : Int) + 1).toNat < (bel xs i n).length - (k : Int).toNat
                omega
            · obtain rfl : k = (bel xs i n).length := by omega
              go_wp2_with fail
              go_roundw
              · exact ⟨i + 1, by rw [HB3.out]; rfl, rfl, by omega, d0, d1, d2, HD7.out⟩
              · show n - ((i : Int) + 1).toNat < n - (i : Int).toNat
                omega
      · obtain rfl : i = n := by omega
        have B3 := hide (BL.out (i : Int) wr (hsw.out wr HD.out))
        rw [HCn.out] at B3
        go_wp2_with fail
        go_at_call 12
        refine B3.out.mono ?_
        rintro e w6 ⟨l, v, rfl, ho, hl1, _, k6⟩
        obtain rfl := hl1 (by simp)
        obtain ⟨a6, c6, hv6⟩ := ownsRow_shape ho
        subst hv6
        have K6 := hide ((hsw.out wr HD.out).more k6)
        clear ho hl1 k6 B3
        go_wp2_with fail
        go_ret
        exact ⟨rfl, (KW.out.more K6.out).below (Nat.le_refl _) fun _ f => f.elim⟩
  · have hC := HC.out nd
    rw [if_pos h] at hC
    have B1 := hide (BL.out nd w3 K3.out)
    rw [hC] at B1
    have h1 : ((r2 : Int) != 0) = true := by simp; omega
    clear HC hC HO
    go_wp2_with fail
    go_at_call 12
    refine B1.out.mono ?_
    rintro e w4 ⟨l, v, rfl, ho, hl1, _, k4⟩
    obtain rfl := hl1 h
    obtain ⟨a6, c6, hv6⟩ := ownsRow_shape ho
    subst hv6
    have K4 := hide (K3.out.more k4)
    clear ho hl1 k4 B1
    go_wp2_with fail
    go_ret
    exact ⟨by simp, (KW.out.more K4.out).below (Nat.le_refl _) fun _ f => f.elim⟩
end Gr
end Go.Proofs.Ytcboeodnjnfamab
