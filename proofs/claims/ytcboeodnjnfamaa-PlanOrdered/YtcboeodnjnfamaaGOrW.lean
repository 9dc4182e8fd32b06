/- PlanOrdered: the walk. -/
import Derived.Test.YtcboeodnjnfamaaGAwk
namespace Go.Proofs.Ytcboeodnjnfamaa
namespace Gr
open Go.RowKit

theorem plc_iff {z : List Int} {v r : Int} (h : Plc z v r) : 0 ≤ r ↔ v ∈ z := by
  rcases h with ⟨rfl, h⟩ | ⟨k, rfl, h, _⟩
  · exact ⟨fun e => by omega, fun e => absurd e h⟩
  · exact ⟨fun _ => List.mem_of_getElem? h, fun _ => by omega⟩
theorem plc_at {l : List Nat} {e : Nat} {r : Int} (h : Plc (l.map fun x : Nat => (x : Int)) (e : Int) r) (he : e ∈ l) : ∃ p : Nat, r = p ∧ l[p]? = some e := by
  rcases h with ⟨rfl, h⟩ | ⟨k, rfl, h, _⟩
  · exact absurd (List.mem_map.2 ⟨e, he, rfl⟩) h
  · refine ⟨k, rfl, ?_⟩
    rw [List.getElem?_map] at h
    obtain ⟨y, hy, e'⟩ := Option.map_eq_some_iff.1 h
    rw [hy]
    congr 1
    omega
theorem nodup_at {l : List Nat} (h : l.Nodup) {p q e : Nat} (hp : l[p]? = some e) (hq : l[q]? = some e) : p = q := by
  obtain ⟨h1, h2⟩ := List.getElem?_eq_some_iff.1 hp
  obtain ⟨h3, h4⟩ := List.getElem?_eq_some_iff.1 hq
  unfold List.Nodup at h
  rw [List.pairwise_iff_getElem] at h
  rcases Nat.lt_trichotomy p q with c | c | c
  · exact absurd (h2.trans h4.symm) (h p q h1 h3 c)
  · exact c
  · exact absurd (h4.trans h2.symm) (h q p h3 h1 c)
theorem take_at {l : List Nat} {p e : Nat} (h : e ∈ l.take p) : ∃ q, q < p ∧ l[q]? = some e := by
  obtain ⟨q, hq⟩ := List.getElem?_of_mem h
  have hl := (List.getElem?_eq_some_iff.1 hq).1
  rw [List.length_take] at hl
  exact ⟨q, by omega, by rwa [List.getElem?_take_of_lt (by omega)] at hq⟩
/-- where a node might stand, no greater one does -/
theorem ord_gap {E : Nat → List Nat} {n : Nat} {l : List Nat} (h : Ord E n l) {i at_ fr p x : Nat} (hi : l[at_]? = some i) (hp : l[p]? = some x) (h1 : fr ≤ p) (h2 : p < at_) (hE : ∀ e ∈ E i, ∃ q, q < fr ∧ l[q]? = some e) : x ≤ i := by
  obtain ⟨_, _, hm⟩ := h.2 p x hp
  refine Nat.le_of_not_lt fun hc => hm i hc ⟨fun hin => ?_, fun e he => ?_⟩
  · obtain ⟨q, hq, hq2⟩ := take_at hin
    have := nodup_at h.nodup hq2 hi
    omega
  · obtain ⟨q, hq, hq2⟩ := hE e he
    have : (l.take p)[q]? = some e := by rw [List.getElem?_take_of_lt (by omega), hq2]
    exact List.mem_of_getElem? this
theorem eg_mem {xs : List No} (hv : Val xs) {i k : Nat} {x : No} (hx : xs[i]? = some x) : k ∈ eg xs i ↔ (k : Int) ∈ x.nl ∨ (k : Int) ∈ x.al := by
  have hb := hv.2 x (List.mem_of_getElem? hx)
  rw [eg_at hx, List.mem_append]
  have key : ∀ z : List Int, (∀ e ∈ z, 0 ≤ e) → (k ∈ z.map Int.toNat ↔ (k : Int) ∈ z) := fun z hz => by
    constructor
    · intro h
      obtain ⟨y, hy, e⟩ := List.mem_map.1 h
      have := hz y hy
      rw [show (k : Int) = y by omega]; exact hy
    · intro h
      exact List.mem_map.2 ⟨k, h, by simp⟩
  rw [key x.nl (fun e he => (hb e (List.mem_append.2 (.inl he))).1), key x.al (fun e he => (hb e (List.mem_append.2 (.inr he))).1)]

set_option maxRecDepth 100000 in
set_option maxHeartbeats 4000000 in
theorem ordered_walk (nm : ByteArray) (dl : Int) (s : Option Addr × Nat × Nat) (xs : List No) (w : World) (hP : RdP w.heap.size w s xs) (hs : Sz nm xs) :
    Calls Try.prog 7 #[.agg #[.string nm, .int .i64 dl, .slice s.1 s.2.1 s.2.2]] w fun e w' => e = .returned (.bool true) ∧ Below w.heap.size w w' := by
  obtain ⟨a, n, c⟩ := s
  have HN : Hid (n = xs.length) := hP.1
  have KW := hide (Keep.alloc (fun _ => False) w (.cells #[.string nm, .int .i64 dl, .slice a n c] 24))
  have BW := hide (heap_alloc_new w (.cells #[.string nm, .int .i64 dl, .slice a n c] 24))
  have HP := hide (hP.new KW.out)
  have HSz := hide hs
  clear hP hs
  go_enter Try.func7, Try.ntmps7
  go_wp2_with fail
  go_at_call 9
  refine (awake_any _).mono ?_
  rintro e w1 ⟨rfl, k1⟩
  generalize w.alloc (.cells #[.string nm, .int .i64 dl, .slice a n c] 24) = w0 at *
  have K1 := hide k1
  have b1 := k1.blk BW.out fun f => f
  have c0 := cell_blk b1 0 (v := .string nm) rfl
  have c1 := cell_blk b1 1 (v := .int .i64 dl) rfl
  have c2 := cell_blk b1 2 (v := .slice a n c) rfl
  have SM := hide (small_any nm dl _ _ _ _ (HP.out.new k1))
  clear k1 b1
  go_wp2_with fail
  go_at_call 10
  refine SM.out.mono ?_
  rintro e w2 ⟨⟨b, rfl, hb⟩, k2⟩
  have K2 := hide (K1.out.more k2)
  have c0 := k2.cell c0 fun f => f
  have c1 := k2.cell c1 fun f => f
  have c2 := k2.cell c2 fun f => f
  clear k2 hb SM
  cases b
  · go_wp2_with fail
    go_ret
    exact ⟨rfl, (KW.out.more K2.out).below (Nat.le_refl _) fun _ f => f.elim⟩
  have hs0 : w.heap.size ≤ w0.heap.size := KW.out.size
  have CK := hide (check_any nm dl _ _ _ w2 (HP.out.new K2.out) (Nat.le_trans hs0 K2.out.size) HSz.out)
  go_wp2_with fail
  go_at_call 12
  refine CK.out.mono ?_
  rintro e w3 ⟨rfl, k3⟩
  have K3 := hide (K2.out.more k3)
  have c0 := k3.cell c0 fun f => f
  have c1 := k3.cell c1 fun f => f
  have c2 := k3.cell c2 fun f => f
  clear k3 CK
  have CO := hide (order_any nm dl _ _ _ w3 (HP.out.new K3.out) (Nat.le_trans hs0 K3.out.size) HSz.out)
  have HO := hide (chk_ok (nm := nm) (dl := dl) (xs := xs))
  generalize chk nm dl xs = R at *
  obtain ⟨r1, r2⟩ := R
  go_wp2_with fail
  go_at_call 16
  refine CO.out.mono ?_
  rintro e w4 ⟨l, v, rfl, ho, ho1, ho2, k4⟩
  have K4 := hide (K3.out.more k4)
  have c0 := k4.cell c0 fun f => f
  have c1 := k4.cell c1 fun f => f
  have c2 := k4.cell c2 fun f => f
  have HO1 := hide ho1
  have HO2 := hide ho2
  have OW := hide ho
  obtain ⟨va, vc, hvs⟩ := ownsRow_shape ho
  subst hvs
  clear ho ho1 ho2 k4 CO
  by_cases h : r2 = 0
  · subst h
    obtain ⟨hl, hord⟩ := HO2.out rfl
    obtain ⟨h1, h2, h3, hv, h5⟩ := HO.out rfl
    have hln : l.length = n := by rw [hl]; exact HN.out.symm
    have hn64 : n ≤ 64 := by have := hv.1; have := HN.out; omega
    have HORD := hide hord
    have HV := hide hv
    have HCY := hide (cyc_none h5)
    clear hord hv h1 h2 h5 HO HO1 HO2
    have P4 := hide (HP.out.new K4.out)
    obtain ⟨va', vc', hvs, rdl⟩ := ownsRow_rd OW.out (by omega)
    injection hvs with hv1 hv2 hv3
    subst hv1
    subst hv3
    have RL := hide rdl
    have PL := hide (fun (e : Nat) => place_any _ _ (e : Int) _ _ rdl)
    have FU := hide (fun (e : Nat) (he : e < n) => full HORD.out.nodup hl HORD.out.lt (show e < xs.length by have := HN.out; omega))
    rw [hln] at RL PL
    rw [hln]
    clear rdl hv2 hl
    have FIN := hide ((KW.out.more K4.out).below (Nat.le_refl _) fun _ f => f.elim)
    clear OW K1 K2 K3 K4 HP BW KW c0 c1
    go_wp2_with fail
    go_loopw [9] (fun iv wr => ∃ i : Nat, iv = .int .i64 (i : Nat) ∧ i ≤ n ∧ wr = w4) (fun iv _ => n - (intOf iv).toNat)
    case atStart => exact ⟨0, rfl, Nat.zero_le _, rfl⟩
    case round =>
      obtain ⟨i, rfl, hi, rfl⟩ := hrel
      by_cases hlt : i < n
      · have P1 := hide (PL.out i)
        go_wp2_with fail
        go_at_call 25
        refine P1.out.mono ?_
        rintro e w5 ⟨⟨r, rfl, hr⟩, rfl⟩
        obtain ⟨at_, rfl, hat⟩ := plc_at hr (FU.out i hlt)
        clear hr P1
        have hatn : at_ < n := by have := (List.getElem?_eq_some_iff.1 hat).1; omega
        obtain ⟨g, off, x, ha, hg, hx, hN, hz1, hz2⟩ := P4.out.at hlt
        have ha : a = some ⟨g, off, none⟩ := ha
        subst ha
        obtain ⟨n0, n1, n2, n3, n4, n5, n6, n7, n8, n9⟩ := hN.all
        have HE := hide (fun k => eg_mem HV.out hx (k := k))
        have Q1 := hide (fun (k : Nat) => place_any _ _ (k : Int) _ _ hz1)
        have Q2 := hide (fun (k : Nat) => place_any _ _ (k : Int) _ _ hz2)
        have HFR := hide (HORD.out.2 at_ i hat).2.1.2
        have HAT := hide hat
        clear hat hx hN hz1 hz2 n0 n1 n2 n3 n4 n5 n6 n7 ha
        go_wp2_with fail
        go_loopw [11, 12] (fun fv kv wr => ∃ fr k : Nat, fv = .int .i64 (fr : Nat) ∧ kv = .int .i64 (k : Nat) ∧ k ≤ n ∧ fr ≤ at_ ∧ wr = w5 ∧ Hid (∀ e ∈ eg xs i, e < k → ∃ q, q < fr ∧ l[q]? = some e)) (fun _ kv _ => n - (intOf kv).toNat)
        case atStart => exact ⟨0, 0, rfl, rfl, Nat.zero_le _, Nat.zero_le _, rfl, fun e _ he => by omega⟩
        case round =>
          obtain ⟨fr, k, rfl, rfl, hk, hfr, rfl, HD⟩ := hrel
          by_cases hkn : k < n
          · have R1 := hide (Q1.out k)
            have R2 := hide (Q2.out k)
            have R3 := hide (PL.out k)
            have HEk := hide (HE.out k)
            clear HE
            go_wp2_with fail
            go_at_call 25
            refine R1.out.mono ?_
            rintro e w6 ⟨⟨r, rfl, hr⟩, rfl⟩
            have i1 := plc_iff hr
            have I1 := hide i1
            clear hr i1 R1
            by_cases h0 : 0 ≤ r
            · have hmem : (k : Int) ∈ x.nl := I1.out.1 h0
              have HMM := hide hmem
              clear hmem I1
              have hke := HEk.out.2 ((.inl HMM.out))
              obtain ⟨q0, hq0, hq1⟩ := take_at (HFR.out k hke)
              have HQ0 := hide hq1
              have HKE := hide hke
              clear hke hq1
              go_wp2_with fail
              go_at_call 25
              refine R3.out.mono ?_
              rintro e w7 ⟨⟨r3, rfl, hr3⟩, rfl⟩
              obtain ⟨p3, rfl, hp3⟩ := plc_at hr3 (FU.out k hkn)
              have hpq := nodup_at HORD.out.nodup hp3 HQ0.out
              subst hpq
              clear hr3 hp3 R3
              by_cases hmx : fr ≤ p3 + 1
              · have hm1 : ((fr : Int) ≤ (p3 : Int) + 1) := by omega
                go_wp2_with fail
                go_roundw
                · refine ⟨p3 + 1, k + 1, by go_num, rfl, by omega, by omega, trivial, fun e he hek => ?_⟩
                  by_cases ee : e = k
                  · subst ee; exact ⟨p3, by omega, HQ0.out⟩
                  · obtain ⟨q, h1, h2⟩ := HD.out e he (by omega)
                    exact ⟨q, by omega, h2⟩
                · show n - ((k : Int) + 1).toNat < n - (k : Int).toNat
                  omega
              · have hm1 : ¬ ((fr : Int) ≤ (p3 : Int) + 1) := by omega
                go_wp2_with fail
                go_roundw
                · refine ⟨fr, k + 1, by go_num, rfl, by omega, by omega, trivial, fun e he hek => ?_⟩
                  by_cases ee : e = k
                  · subst ee; exact ⟨p3, by omega, HQ0.out⟩
                  · exact HD.out e he (by omega)
                · show n - ((k : Int) + 1).toNat < n - (k : Int).toNat
                  omega
            · have hmem : ¬ (k : Int) ∈ x.nl := fun h => h0 (I1.out.2 h)
              have HMM := hide hmem
              clear hmem I1
              go_wp2_with fail
              go_at_call 25
              refine R2.out.mono ?_
              rintro e w7 ⟨⟨r2, rfl, hr2⟩, rfl⟩
              have i2 := plc_iff hr2
              have I2 := hide i2
              clear hr2 i2 R2
              by_cases h02 : 0 ≤ r2
              · have hmem2 : (k : Int) ∈ x.al := I2.out.1 h02
                have HM2 := hide hmem2
                clear hmem2 I2
                have hke := HEk.out.2 ((.inr HM2.out))
                obtain ⟨q0, hq0, hq1⟩ := take_at (HFR.out k hke)
                have HQ0 := hide hq1
                have HKE := hide hke
                clear hke hq1
                go_wp2_with fail
                go_at_call 25
                refine R3.out.mono ?_
                rintro e w8 ⟨⟨r3, rfl, hr3⟩, rfl⟩
                obtain ⟨p3, rfl, hp3⟩ := plc_at hr3 (FU.out k hkn)
                have hpq := nodup_at HORD.out.nodup hp3 HQ0.out
                subst hpq
                clear hr3 hp3 R3
                by_cases hmx : fr ≤ p3 + 1
                · have hm1 : ((fr : Int) ≤ (p3 : Int) + 1) := by omega
                  go_wp2_with fail
                  go_roundw
                  · refine ⟨p3 + 1, k + 1, by go_num, rfl, by omega, by omega, trivial, fun e he hek => ?_⟩
                    by_cases ee : e = k
                    · subst ee; exact ⟨p3, by omega, HQ0.out⟩
                    · obtain ⟨q, h1, h2⟩ := HD.out e he (by omega)
                      exact ⟨q, by omega, h2⟩
                  · show n - ((k : Int) + 1).toNat < n - (k : Int).toNat
                    omega
                · have hm1 : ¬ ((fr : Int) ≤ (p3 : Int) + 1) := by omega
                  go_wp2_with fail
                  go_roundw
                  · refine ⟨fr, k + 1, by go_num, rfl, by omega, by omega, trivial, fun e he hek => ?_⟩
                    by_cases ee : e = k
                    · subst ee; exact ⟨p3, by omega, HQ0.out⟩
                    · exact HD.out e he (by omega)
                  · show n - ((k : Int) + 1).toNat < n - (k : Int).toNat
                    omega
              · have hne : k ∉ eg xs i := fun h => (HEk.out.1 h).elim HMM.out (fun h => h02 (I2.out.2 h))
                have HNE := hide hne
                clear hne I2
                go_wp2_with fail
                go_roundw
                · refine ⟨fr, k + 1, rfl, rfl, by omega, hfr, trivial, fun e he hek => ?_⟩
                  by_cases ee : e = k
                  · subst ee; exact absurd he HNE.out
                  · exact HD.out e he (by omega)
                · show n - ((k : Int) + 1).toNat < n - (k : Int).toNat
                  omega
          · obtain rfl : k = n := by omega
            have HD2 : Hid (∀ e ∈ eg xs i, ∃ q, q < fr ∧ l[q]? = some e) := fun e he => HD.out e he (by have := eg_lt HV.out i e he; have := HN.out; omega)
            clear HD HE Q1 Q2 n8 n9
            have hng : ¬ ((at_ : Int) < fr) := by omega
            go_wp2_with fail
            go_loopw [14] (fun pv wq => ∃ p : Nat, pv = .int .i64 (p : Nat) ∧ fr ≤ p ∧ p ≤ at_ ∧ wq = wr) (fun pv _ => at_ - (intOf pv).toNat)
            case atStart => exact ⟨fr, rfl, Nat.le_refl _, hfr, rfl⟩
            case round =>
              obtain ⟨p, rfl, hp1, hp2, rfl⟩ := hrel
              by_cases hpa : p < at_
              · obtain ⟨g', off', y, hva, hg', hy, hcy⟩ := RL.out.at (i := p) (show p < k by omega)
                have hva : va = some ⟨g', off', none⟩ := hva
                subst hva
                rw [List.getElem?_map] at hy
                obtain ⟨y', hy', rfl⟩ := Option.map_eq_some_iff.1 hy
                have hle := ord_gap HORD.out HAT.out hy' hp1 hpa HD2.out
                have hle2 : ¬ ((i : Int) < (y' : Int)) := by omega
                clear hy hy'
                go_wp2_with fail
                go_roundw
                · exact ⟨p + 1, rfl, by omega, by omega, trivial⟩
                · show at_ - ((p : Int) + 1).toNat < at_ - (p : Int).toNat
                  omega
              · obtain rfl : p = at_ := by omega
                go_wp2_with fail
                go_roundw
                · exact ⟨i + 1, rfl, by omega, trivial⟩
                · show k - ((i : Int) + 1).toNat < k - (i : Int).toNat
                  omega
      · obtain rfl : i = n := by omega
        go_wp2_with fail
        go_ret
        exact ⟨rfl, FIN.out⟩
  · obtain rfl := HO1.out h
    go_wp2_with fail
    go_ret
    exact ⟨rfl, (KW.out.more K4.out).below (Nat.le_refl _) fun _ f => f.elim⟩
end Gr
end Go.Proofs.Ytcboeodnjnfamaa
