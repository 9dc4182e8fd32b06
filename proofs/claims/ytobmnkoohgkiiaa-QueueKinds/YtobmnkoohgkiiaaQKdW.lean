/- QueueKinds: the walk. -/
import Derived.Test.YtobmnkoohgkiiaaQKdM
import Derived.BigQuiet
import Derived.Deep.CutRange
namespace Go.Proofs.Ytobmnkoohgkiiaa
namespace Qu
open Go.RowKit

set_option maxRecDepth 100000 in
set_option maxHeartbeats 16000000 in
theorem kinds_walk (x : Int) (a : Option Addr) (n cc : Nat) (l : List Sp) (W : World) (x1 : -9223372036854775808 ≤ x) (x2 : x ≤ 9223372036854775807) (hl : RdQ W.heap.size W a n l) :
    Calls Try.prog 3 #[.int .i64 x, .slice a n cc] W fun e w' => e = .returned (.bool true) ∧ Below W.heap.size W w' := by
  have HKn := hide (known_any W)
  have HL := hide hl
  obtain ⟨c1, c1a, c1b, hc1⟩ := brought_valK x x1 x2
  have HB1 := hide hc1
  have hfew : n ≤ 8796093022208 := by rw [hl.len]; exact hl.few
  clear hl x1 x2 hc1
  go_enter Try.func3, Try.ntmps3
  go_wp2_with fail
  go_at_call 5
  refine HKn.out.mono ?_
  rintro e w1 ⟨rfl, k1⟩
  have K1 := hide k1
  clear k1 HKn
  go_upto_region 5 with (first
    | (go_at_call 7; refine (HB1.out _).mono ?_; rintro e w' ⟨rfl, hw⟩; have hw := hw.symm; subst hw)
    | (go_at_call 6; refine (newI c1 w1 c1a c1b).mono ?_; rintro e w2 ⟨P1, rfl, hq, hk⟩; have HQ1 := hide hq; have K2 := hide hk; clear hq hk))
  go_upto_region 6 with (first
    | (go_at_call 7; refine (HB1.out _).mono ?_; rintro e w' ⟨rfl, hw⟩; have hw := hw.symm; subst hw)
    | (go_at_call 8; refine (newS c1 w2 c1a c1b).mono ?_; rintro e w3 ⟨P2, rfl, hq, hk⟩; have HQ2 := hide hq; have K3 := hide hk; clear hq hk))
  go_upto_region 7 with (first
    | (go_at_call 7; refine (HB1.out _).mono ?_; rintro e w' ⟨rfl, hw⟩; have hw := hw.symm; subst hw)
    | (go_at_call 9; refine (newF c1 w3 c1a c1b).mono ?_; rintro e w4 ⟨P3, rfl, hq, hk⟩; have HQ3 := hide hq; have K4 := hide hk; clear hq hk))
  have HI0 : Hid (∃ col s, s.last ≤ 0 ∧ Tri W col P1 P2 P3 s (mapS tx s) (mapS pk s) w4) := ⟨_, fresh c1, Nat.le_refl _, Tri.begin_ K1.out K2.out K3.out K4.out HQ1.out HQ2.out HQ3.out⟩
  clear K1 K2 K3 K4 HQ1 HQ2 HQ3 HB1
  go_wp2_with fail
  go_loopw [12, 13, 14, 15] (fun iv _ _ _ wx => ∃ i : Nat, iv = .int .i64 (i : Nat) ∧ i ≤ n ∧ Hid (∃ col s, s.last ≤ i ∧ Tri W col P1 P2 P3 s (mapS tx s) (mapS pk s) wx)) (fun iv _ _ _ _ => n - (intOf iv).toNat)
  case atStart => exact ⟨0, rfl, Nat.zero_le _, HI0.out⟩
  case round =>
    clear HI0
    obtain ⟨i, rfl, hi, HI⟩ := hrel
    by_cases hlt : i < n
    · have hlt' : (i : Int) < (n : Int) := by omega
      obtain ⟨col, s, hla, hT⟩ := HI.out
      obtain ⟨⟨xw, xq, xk⟩, hx⟩ : ∃ y, l[i]? = some y := ⟨_, List.getElem?_eq_getElem (by rw [← HL.out.len]; exact hlt)⟩
      obtain ⟨g, off, rfl, hg, r0, r1, r2⟩ := HL.out.rd i _ hx
      have hin := HL.out.inn _ (List.mem_of_getElem? hx)
      have HR0 := hide r0
      have HR1 := hide r1
      have HR2 := hide r2
      have HG := hide hg
      have HIn := hide hin
      have HT := hide hT
      have hok := hT.a.1
      have hrow := hT.a.2.1
      have HOk := hide hok
      have HRow := hide hrow
      have hlast : s.last < 9007199254740990 := by omega
      have hlen : s.row.length ≤ 65536 := Nat.le_trans hok.len hok.pl
      obtain ⟨q, hq⟩ : ∃ q, pickV xq 8 = q := ⟨_, rfl⟩
      obtain ⟨vc, vn, vk, vb, m, z, e1, e2, e3, e4, e5, e6, hzl, hz2⟩ := told3 s q xk
      have hm1 : m ≤ 131072 := by
        have : (stL s q).length ≤ 65536 := by unfold stL; split; (exact hlen); (exact Nat.zero_le _)
        omega
      have HZ := hide (And.intro hzl hm1)
      have HZ2 := hide hz2
      have CA := hide (fun w h hS => stepped_any (S := Cl col wr 1) (P := P1) (s := s) xw xq xk w h hS hin.2.1.1 hin.2.1.2 hin.2.2.1 hin.2.2.2 hlast)
      have HST := hide (stS_last s q xk)
      have HLa := hide hla
      unfold Steps at CA
      rw [hq, ← e1, ← e2, ← e3, ← e4, ← e5, flat_pairs, ← e6] at CA
      have HP := hide (fun w => pick_any xq 8 hin.2.1.1 hin.2.1.2 (by decide) (by decide) w)
      rw [hq] at HP
      have HE := hide (And.intro e1 (And.intro e2 (And.intro e3 (And.intro e4 (And.intro e5 e6)))))
      have HQ := hide hq
      have y0 := hT.kp.cell r0 (Nat.not_le.2 hg)
      have y1 := hT.kp.cell r1 (Nat.not_le.2 hg)
      have y2 := hT.kp.cell r2 (Nat.not_le.2 hg)
      clear hT hx hg HI hin hok hrow hla r0 r1 r2 e1 e2 e3 e4 e5 e6 hzl hz2 hm1 hq
      go_wp2_with fail
      go_at_call 10
      refine (CA.out wr HT.out.a (fun i e => e.2)).mono ?_
      rintro e w2 ⟨a1, cc1, rfl, ho, hq2, hk⟩
      have T2 := hide (HT.out.one hq2 hk)
      have HO1 := hide ho
      have Z2 := hide hk.size
      clear ho hq2 hk y0 y1 y2
      go_upto_region 13 with fail
      obtain ⟨w3, hw3⟩ : ∃ w3, w3 = w2.alloc (.cells #[.int .i64 vc, .int .i64 vn, .bool vb, .int .i64 vk, .slice a1 m cc1] 39) := ⟨_, rfl⟩
      rw [← hw3]
      have kw3 : Keep (fun _ => False) w2 w3 := by rw [hw3]; exact Keep.alloc _ _ _
      have B1 : Hid (w3.heap[w2.heap.size]? = some (.cells #[.int .i64 vc, .int .i64 vn, .bool vb, .int .i64 vk, .slice a1 m cc1] 39 (0, 0))) := by rw [hw3]; exact heap_alloc_new _ _
      obtain ⟨X1, hX1⟩ : ∃ X1, X1 = w2.heap.size := ⟨_, rfl⟩
      rw [← hX1] at B1 ⊢
      have T3 := hide (T2.out.new kw3)
      have HKw3 := hide kw3
      have HX1 := hide hX1
      clear hw3 kw3 hX1
      have y0 := T3.out.kp.cell HR0.out (Nat.not_le.2 HG.out)
      have y1 := T3.out.kp.cell HR1.out (Nat.not_le.2 HG.out)
      have y2 := T3.out.kp.cell HR2.out (Nat.not_le.2 HG.out)
      have hk2 := kinded_any xw xq xk w3 T3.out.b HRow.out HOk.out (fun i e => e.2) HIn.out.2.1.1 HIn.out.2.1.2 HIn.out.2.2.1 HIn.out.2.2.2 hlast
      rw [HQ.out] at hk2
      unfold Tells at hk2
      obtain ⟨e1, e2, e3, e4, e5, e6⟩ := HE.out
      rw [← e1, ← e2, ← e3, ← e4, ← e5, flat_pairs, ← e6] at hk2
      have HK2 := hide hk2
      clear hk2 e1 e2 e3 e4 e5 e6
      go_wp2_with fail
      go_at_call 11
      refine HK2.out.mono ?_
      rintro e w4 ⟨a2, cc2, rfl, ho, hq2, hk⟩
      have T4 := hide (T3.out.two hq2 hk)
      have HO2 := hide ho
      have Z4 := hide hk.size
      have B1' : Hid (w4.heap[X1]? = some (.cells #[.int .i64 vc, .int .i64 vn, .bool vb, .int .i64 vk, .slice a1 m cc1] 39 (0, 0))) := hk.blk B1.out fun e => by
        have h1 := e.1; have h2 := HX1.out
        rw [exq_new (by omega)] at h1
        omega
      have HO1' := hide (ownsRow_kr (ownsRow_kr HO1.out HKw3.out fun _ _ f => f) hk fun gg e1 e2 => by
        have h1 := e2.1; have h3 := HO1.out.lt gg e1
        rw [exq_old h3.2, exq_new h3.1] at h1
        omega)
      clear ho hq2 hk y0 y1 y2 HK2
      go_upto_region 14 with fail
      obtain ⟨w5, hw5⟩ : ∃ w5, w5 = w4.alloc (.cells #[.int .i64 vc, .int .i64 vn, .bool vb, .int .i64 vk, .slice a2 m cc2] 39) := ⟨_, rfl⟩
      rw [← hw5]
      have kw5 : Keep (fun _ => False) w4 w5 := by rw [hw5]; exact Keep.alloc _ _ _
      have B2 : Hid (w5.heap[w4.heap.size]? = some (.cells #[.int .i64 vc, .int .i64 vn, .bool vb, .int .i64 vk, .slice a2 m cc2] 39 (0, 0))) := by rw [hw5]; exact heap_alloc_new _ _
      obtain ⟨X2, hX2⟩ : ∃ X2, X2 = w4.heap.size := ⟨_, rfl⟩
      rw [← hX2] at B2 ⊢
      have T5 := hide (T4.out.new kw5)
      have HKw5 := hide kw5
      have HX2 := hide hX2
      clear hw5 kw5 hX2
      have y0 := T5.out.kp.cell HR0.out (Nat.not_le.2 HG.out)
      have y1 := T5.out.kp.cell HR1.out (Nat.not_le.2 HG.out)
      have y2 := T5.out.kp.cell HR2.out (Nat.not_le.2 HG.out)
      have hk3 := paired_any xw xq xk w5 T5.out.c HRow.out HOk.out (fun i e => e.2) HIn.out.2.1.1 HIn.out.2.1.2 HIn.out.2.2.1 HIn.out.2.2.2 hlast
      rw [HQ.out] at hk3
      unfold Tells at hk3
      obtain ⟨e1, e2, e3, e4, e5, e6⟩ := HE.out
      rw [← e1, ← e2, ← e3, ← e4, ← e5, flat_pairs, ← e6] at hk3
      have HK3 := hide hk3
      clear hk3 e1 e2 e3 e4 e5 e6
      go_wp2_with fail
      go_at_call 12
      refine HK3.out.mono ?_
      rintro e w6 ⟨a3, cc3, rfl, ho, hq2, hk⟩
      have T6 := hide (T5.out.three hq2 hk)
      have HO3 := hide ho
      have zz2 := Z2.out
      have zz3 := HKw3.out.size
      have zz4 := Z4.out
      have zz5 := HKw5.out.size
      have xx1 := HX1.out
      have xx2 := HX2.out
      have lz1 : X1 < w3.heap.size := lt_blk B1.out
      have B1'' : Hid (w6.heap[X1]? = some (.cells #[.int .i64 vc, .int .i64 vn, .bool vb, .int .i64 vk, .slice a1 m cc1] 39 (0, 0))) := hk.blk (HKw5.out.blk B1'.out fun f => f) fun e => by
        have h1 := e.1
        rw [exq_old (by omega), exq_old (by omega), exq_new (by omega)] at h1
        omega
      have B2' : Hid (w6.heap[X2]? = some (.cells #[.int .i64 vc, .int .i64 vn, .bool vb, .int .i64 vk, .slice a2 m cc2] 39 (0, 0))) := hk.blk B2.out fun e => by
        have h1 := e.1
        rw [exq_new (by omega)] at h1
        omega
      have HO1'' := hide (ownsRow_kr (ownsRow_kr HO1'.out HKw5.out fun _ _ f => f) hk fun gg e1 e2 => by
        have h1 := e2.1; have h3 := HO1.out.lt gg e1
        rw [exq_old (by omega), exq_old (by omega), exq_old h3.2, exq_new h3.1] at h1
        omega)
      have HO2' := hide (ownsRow_kr (ownsRow_kr HO2.out HKw5.out fun _ _ f => f) hk fun gg e1 e2 => by
        have h1 := e2.1; have h3 := HO2.out.lt gg e1
        rw [exq_old (by omega), exq_new h3.1] at h1
        omega)
      clear ho hq2 hk y0 y1 y2 HK3 zz2 zz3 zz4 zz5 xx1 xx2 lz1
      go_upto_region 15 with fail
      obtain ⟨w7, hw7⟩ : ∃ w7, w7 = w6.alloc (.cells #[.int .i64 vc, .int .i64 vn, .bool vb, .int .i64 vk, .slice a3 m cc3] 39) := ⟨_, rfl⟩
      rw [← hw7]
      have kw7 : Keep (fun _ => False) w6 w7 := by rw [hw7]; exact Keep.alloc _ _ _
      have B3 : Hid (w7.heap[w6.heap.size]? = some (.cells #[.int .i64 vc, .int .i64 vn, .bool vb, .int .i64 vk, .slice a3 m cc3] 39 (0, 0))) := by rw [hw7]; exact heap_alloc_new _ _
      obtain ⟨X3, hX3⟩ : ∃ X3, X3 = w6.heap.size := ⟨_, rfl⟩
      rw [← hX3] at B3 ⊢
      have T7 := hide (T6.out.new kw7)
      have HKw7 := hide kw7
      have HX3 := hide hX3
      clear hw7 kw7 hX3
      have D1 := HKw7.out.blk B1''.out fun f => f
      have D2 := HKw7.out.blk B2'.out fun f => f
      have O1 := hide (RdZ.ofOwns (ownsRow_kr HO1''.out HKw7.out fun _ _ f => f))
      have O2 := hide (RdZ.ofOwns (ownsRow_kr HO2'.out HKw7.out fun _ _ f => f))
      have O3 := hide (RdZ.ofOwns (ownsRow_kr HO3.out HKw7.out fun _ _ f => f))
      have HSx := hide (fun w7' k7 => same_anyK vc vn vk vb w7' (O1.out.new k7) (O2.out.new k7) (by have := HZ.out.1; have := HZ.out.2; omega))
      have HSy := hide (fun w7' k7 => same_anyK vc vn vk vb w7' (O1.out.new k7) (O3.out.new k7) (by have := HZ.out.1; have := HZ.out.2; omega))
      have y1 := T7.out.kp.cell HR1.out (Nat.not_le.2 HG.out)
      have HD1 := hide D1
      have HD2 := hide D2
      have HD3 := hide B3.out
      have d12 := cell_blk D1 2 (v := .bool vb) rfl
      have d13 := cell_blk D1 3 (v := .int .i64 vk) rfl
      have d23 := cell_blk D2 3 (v := .int .i64 vk) rfl
      have d33 := cell_blk B3.out 3 (v := .int .i64 vk) rfl
      have HNx : Hid (∀ w9, Keep (fun _ => False) w7 w9 → ∃ col s, s.last ≤ i + 1 ∧ Tri W col P1 P2 P3 s (mapS tx s) (mapS pk s) w9) := fun w9 k9 => ⟨_, stS s q xk, by have := HST.out; have := HLa.out; omega, T7.out.new k9⟩
      clear D1 D2 O1 O2 O3 T2 T3 T4 T5 T6 HO1 HO2 HO3 HO1' HO1'' HO2' B1 B2 B3 B1' B1'' B2'
      by_cases hq2 : q = 2
      · cases vb with
        | true =>
          subst hq2
          go_upto_region 17 with (go_at_call 13; refine (HP.out _).mono ?_; rintro e w' ⟨rfl, hw⟩; have hw := hw.symm; subst hw)
          have p0 := cell_blk HD1.out 0 (v := .int .i64 vc) rfl
          have p1 := cell_blk HD1.out 1 (v := .int .i64 vn) rfl
          have p2 := cell_blk HD1.out 2 (v := .bool true) rfl
          have p3 := cell_blk HD1.out 3 (v := .int .i64 vk) rfl
          have p4 := cell_blk HD1.out 4 (v := .slice a1 m cc1) rfl
          have q0 := cell_blk HD2.out 0 (v := .int .i64 vc) rfl
          have q1 := cell_blk HD2.out 1 (v := .int .i64 vn) rfl
          have q2 := cell_blk HD2.out 2 (v := .bool true) rfl
          have q3 := cell_blk HD2.out 3 (v := .int .i64 vk) rfl
          have q4 := cell_blk HD2.out 4 (v := .slice a2 m cc2) rfl
          clear d12 d13 d23 d33 y1
          go_wp2_with fail
          go_at_call 14
          refine (HSx.out _ (Keep.refl _ _)).mono ?_
          rintro e w8 ⟨rfl, k8⟩
          clear p0 p1 p2 p3 p4 q0 q1 q2 q3 q4
          have p0 := cell_blk (k8.blk HD1.out fun f => f) 0 (v := .int .i64 vc) rfl
          have p1 := cell_blk (k8.blk HD1.out fun f => f) 1 (v := .int .i64 vn) rfl
          have p2 := cell_blk (k8.blk HD1.out fun f => f) 2 (v := .bool true) rfl
          have p3 := cell_blk (k8.blk HD1.out fun f => f) 3 (v := .int .i64 vk) rfl
          have p4 := cell_blk (k8.blk HD1.out fun f => f) 4 (v := .slice a1 m cc1) rfl
          have q0 := cell_blk (k8.blk HD3.out fun f => f) 0 (v := .int .i64 vc) rfl
          have q1 := cell_blk (k8.blk HD3.out fun f => f) 1 (v := .int .i64 vn) rfl
          have q2 := cell_blk (k8.blk HD3.out fun f => f) 2 (v := .bool true) rfl
          have q3 := cell_blk (k8.blk HD3.out fun f => f) 3 (v := .int .i64 vk) rfl
          have q4 := cell_blk (k8.blk HD3.out fun f => f) 4 (v := .slice a3 m cc3) rfl
          have HK8 := hide k8
          clear k8
          go_wp2_with fail
          go_at_call 14
          refine (HSy.out _ HK8.out).mono ?_
          rintro e w9 ⟨rfl, k9⟩
          have HN9 := hide (HNx.out _ (HK8.out.more k9))
          clear k9 p0 p1 p2 p3 p4 q0 q1 q2 q3 q4
          go_wp2_with fail
          go_roundw
          case rel => exact ⟨i + 1, by go_num, by omega, HN9.out⟩
          case measure => simp [intOf]; omega
        | false =>
          have hvk := HZ2.out hq2 rfl
          subst hq2
          subst hvk
          go_upto_region 17 with (go_at_call 13; refine (HP.out _).mono ?_; rintro e w' ⟨rfl, hw⟩; have hw := hw.symm; subst hw)
          have p0 := cell_blk HD1.out 0 (v := .int .i64 vc) rfl
          have p1 := cell_blk HD1.out 1 (v := .int .i64 vn) rfl
          have p2 := cell_blk HD1.out 2 (v := .bool false) rfl
          have p3 := cell_blk HD1.out 3 (v := .int .i64 0) rfl
          have p4 := cell_blk HD1.out 4 (v := .slice a1 m cc1) rfl
          have q0 := cell_blk HD2.out 0 (v := .int .i64 vc) rfl
          have q1 := cell_blk HD2.out 1 (v := .int .i64 vn) rfl
          have q2 := cell_blk HD2.out 2 (v := .bool false) rfl
          have q3 := cell_blk HD2.out 3 (v := .int .i64 0) rfl
          have q4 := cell_blk HD2.out 4 (v := .slice a2 m cc2) rfl
          clear d12 d13 d23 d33 y1
          go_wp2_with fail
          go_at_call 14
          refine (HSx.out _ (Keep.refl _ _)).mono ?_
          rintro e w8 ⟨rfl, k8⟩
          clear p0 p1 p2 p3 p4 q0 q1 q2 q3 q4
          have p0 := cell_blk (k8.blk HD1.out fun f => f) 0 (v := .int .i64 vc) rfl
          have p1 := cell_blk (k8.blk HD1.out fun f => f) 1 (v := .int .i64 vn) rfl
          have p2 := cell_blk (k8.blk HD1.out fun f => f) 2 (v := .bool false) rfl
          have p3 := cell_blk (k8.blk HD1.out fun f => f) 3 (v := .int .i64 0) rfl
          have p4 := cell_blk (k8.blk HD1.out fun f => f) 4 (v := .slice a1 m cc1) rfl
          have q0 := cell_blk (k8.blk HD3.out fun f => f) 0 (v := .int .i64 vc) rfl
          have q1 := cell_blk (k8.blk HD3.out fun f => f) 1 (v := .int .i64 vn) rfl
          have q2 := cell_blk (k8.blk HD3.out fun f => f) 2 (v := .bool false) rfl
          have q3 := cell_blk (k8.blk HD3.out fun f => f) 3 (v := .int .i64 0) rfl
          have q4 := cell_blk (k8.blk HD3.out fun f => f) 4 (v := .slice a3 m cc3) rfl
          have HK8 := hide k8
          clear k8
          go_wp2_with fail
          go_at_call 14
          refine (HSy.out _ HK8.out).mono ?_
          rintro e w9 ⟨rfl, k9⟩
          have HN9 := hide (HNx.out _ (HK8.out.more k9))
          clear k9 p0 p1 p2 p3 p4 q0 q1 q2 q3 q4
          go_wp2_with fail
          go_roundw
          case rel => exact ⟨i + 1, by go_num, by omega, HN9.out⟩
          case measure => simp [intOf]; omega
      · skip
        go_upto_region 17 with (go_at_call 13; refine (HP.out _).mono ?_; rintro e w' ⟨rfl, hw⟩; have hw := hw.symm; subst hw)
        have p0 := cell_blk HD1.out 0 (v := .int .i64 vc) rfl
        have p1 := cell_blk HD1.out 1 (v := .int .i64 vn) rfl
        have p2 := cell_blk HD1.out 2 (v := .bool vb) rfl
        have p3 := cell_blk HD1.out 3 (v := .int .i64 vk) rfl
        have p4 := cell_blk HD1.out 4 (v := .slice a1 m cc1) rfl
        have q0 := cell_blk HD2.out 0 (v := .int .i64 vc) rfl
        have q1 := cell_blk HD2.out 1 (v := .int .i64 vn) rfl
        have q2 := cell_blk HD2.out 2 (v := .bool vb) rfl
        have q3 := cell_blk HD2.out 3 (v := .int .i64 vk) rfl
        have q4 := cell_blk HD2.out 4 (v := .slice a2 m cc2) rfl
        clear d12 d13 d23 d33 y1
        go_wp2_with fail
        go_at_call 14
        refine (HSx.out _ (Keep.refl _ _)).mono ?_
        rintro e w8 ⟨rfl, k8⟩
        clear p0 p1 p2 p3 p4 q0 q1 q2 q3 q4
        have p0 := cell_blk (k8.blk HD1.out fun f => f) 0 (v := .int .i64 vc) rfl
        have p1 := cell_blk (k8.blk HD1.out fun f => f) 1 (v := .int .i64 vn) rfl
        have p2 := cell_blk (k8.blk HD1.out fun f => f) 2 (v := .bool vb) rfl
        have p3 := cell_blk (k8.blk HD1.out fun f => f) 3 (v := .int .i64 vk) rfl
        have p4 := cell_blk (k8.blk HD1.out fun f => f) 4 (v := .slice a1 m cc1) rfl
        have q0 := cell_blk (k8.blk HD3.out fun f => f) 0 (v := .int .i64 vc) rfl
        have q1 := cell_blk (k8.blk HD3.out fun f => f) 1 (v := .int .i64 vn) rfl
        have q2 := cell_blk (k8.blk HD3.out fun f => f) 2 (v := .bool vb) rfl
        have q3 := cell_blk (k8.blk HD3.out fun f => f) 3 (v := .int .i64 vk) rfl
        have q4 := cell_blk (k8.blk HD3.out fun f => f) 4 (v := .slice a3 m cc3) rfl
        have HK8 := hide k8
        clear k8
        go_wp2_with fail
        go_at_call 14
        refine (HSy.out _ HK8.out).mono ?_
        rintro e w9 ⟨rfl, k9⟩
        have HN9 := hide (HNx.out _ (HK8.out.more k9))
        clear k9 p0 p1 p2 p3 p4 q0 q1 q2 q3 q4
        go_wp2_with fail
        go_roundw
        case rel => exact ⟨i + 1, by go_num, by omega, HN9.out⟩
        case measure => simp [intOf]; omega
    · have hlt' : ¬ (i : Int) < (n : Int) := by omega
      obtain ⟨col, s, hla, hT⟩ := HI.out
      have HK := hide hT.kp
      clear hT HI
      go_wp2
      go_ret
      exact ⟨rfl, HK.out.below (Nat.le_refl _) fun _ e => e⟩
end Qu
end Go.Proofs.Ytobmnkoohgkiiaa
