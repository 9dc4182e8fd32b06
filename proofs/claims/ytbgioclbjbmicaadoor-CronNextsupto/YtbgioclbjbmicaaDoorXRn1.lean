/- The document's Next. -/
import Derived.Test.YtbgioclbjbmicaaDoorXRn0
import Derived.Test.YtbgioclbjbmicaaDoorXRd6
namespace Go.Proofs.YtbgioclbjbmicaaDoor
open Go.RowKit

set_option maxHeartbeats 8000000 in
set_option maxRecDepth 100000 in
theorem refNext_mid (G : Nat → Nat) (S : X.Sets) (hG : X.Good S) (t : Int) (ht0 : 0 ≤ t) (ht1 : t < 4611686018427387904) (w : World) (hX : RxAt G S w) :
    Calls Tryd.prog 16 #[rex G, .int .i64 t] w fun e w' => NlEnd (X.IsNext S t) e ∧ Below w.heap.size w w' := by
  have HNeg := hide (fun (m : Int) (b : Bool) (h : X.IsNext S t m b) => h)
  obtain ⟨n, hn⟩ : ∃ n : Int, n = (t + 1) / 86400 := ⟨_, rfl⟩
  have tl : -1 ≤ t := by omega
  have tu : t < 4611686018427387904 := by omega
  have n0 : 0 ≤ n := by omega
  have n1 : n ≤ 53375995583650 := by omega
  have HNn := hide hn
  have hBx := Bx.new w G
  have hb1 : Below w.heap.size w (w.alloc (.cells #[.slice (some ⟨G 0, 0, none⟩) 60 60, .slice (some ⟨G 1, 0, none⟩) 24 24, .slice (some ⟨G 2, 0, none⟩) 32 32, .slice (some ⟨G 3, 0, none⟩) 13 13, .slice (some ⟨G 4, 0, none⟩) 7 7] 26)) := Below.put (Below.refl _ _) _
  have HBx := hide hBx
  have HB1 := hide hb1
  have HXw := hide hX
  clear hBx hb1 hX
  have HEi := hide (fun (w : World) (hX : RxAt G S w) => either_any G S hG w hX)
  have HDa := hide (fun (w : World) => date_any n n0 n1 w)
  unfold rex
  have i9 : ¬ t < 0 := by omega
  have i8 : ¬ 4611686018427387904 ≤ t := by omega
  have hq : (t + 1) / 86400 = n := hn.symm
  clear hn
  go_enter Tryd.func16, Tryd.ntmps16
  go_wp2_with fail
  clear hq
  generalize w.alloc (.cells #[.slice (some ⟨G 0, 0, none⟩) 60 60, .slice (some ⟨G 1, 0, none⟩) 24 24, .slice (some ⟨G 2, 0, none⟩) 32 32, .slice (some ⟨G 3, 0, none⟩) 13 13, .slice (some ⟨G 4, 0, none⟩) 7 7] 26) = W1 at *
  have HX1 := hide (HXw.out.keep HB1.out)
  obtain ⟨r0, hr0⟩ : ∃ r0, X.rec' n = r0 := ⟨_, rfl⟩
  have HR0 := hide hr0
  rw [hr0] at HDa
  clear hr0 HXw
  obtain ⟨ry, rm, rd, rk⟩ := r0
  unfold rdt at HDa
  simp only at HDa
  go_at_call 30
  refine (HDa.out _).mono ?_
  rintro e w2 ⟨rfl, hb2⟩
  have HB2 := hide hb2
  clear hb2 HDa
  go_upto_region 7 with fail
  have hD3 := D4.new w2 (.int .i64 ry) (.int .i64 rm) (.int .i64 rd) (.int .i64 rk) 73
  have hb3 : Below w2.heap.size w2 (w2.alloc (.cells #[.int .i64 ry, .int .i64 rm, .int .i64 rd, .int .i64 rk] 73)) := Below.put (Below.refl _ _) _
  generalize w2.alloc (.cells #[.int .i64 ry, .int .i64 rm, .int .i64 rd, .int .i64 rk] 73) = W3 at *
  have hB3 := HB2.out.trans (hb3.mono HB2.out.size)
  have hq := HB2.out.size
  generalize w2.heap.size = q at *
  have hBx3 := HBx.out.keep hB3
  have a0 := hBx3.c0; have a1 := hBx3.c1; have a2 := hBx3.c2; have a3 := hBx3.c3; have a4 := hBx3.c4
  clear hb3 HB2 hBx3
  go_wp2_with fail
  clear a0 a1 a2 a3 a4
  go_at_call 29
  refine (HEi.out _ (HX1.out.keep hB3)).mono ?_
  rintro e w4 ⟨rfl, hb4⟩
  have hD4 : DtAt q (X.rec' n) w4 := by rw [HR0.out]; exact hD3.keep hb4
  have hB4 := hB3.trans (hb4.mono hB3.size)
  clear hb4 hB3 hD3 HEi HR0
  go_wp2_with fail
  go_loopw [9] (fun y wx => ∃ (i : Nat) (r : X.Rc), y = .int .i64 i ∧ i ≤ 146098 ∧ Hid (∀ u, t < u → u / 86400 < n + i → ¬ X.Mat S u) ∧ Hid (r = X.rec' (n + i)) ∧ DtAt q r wx ∧ Below W1.heap.size W1 wx) (fun y _ => 146098 - (intOf y).toNat)
  case atStart => exact ⟨0, X.rec' n, rfl, by omega, (fun u h1 h2 => absurd h2 (by have := HNn.out; omega)), (by show _ = _; simp), hD4, hB4⟩
  case round =>
    obtain ⟨i, r, rfl, hi, HN, HR, hD, hB⟩ := hrel
    clear hD4 hB4
    by_cases hlt : i ≤ 146097
    · have i0 : (i : Int) ≤ 146097 := by omega
      obtain ⟨N, hN⟩ : ∃ N : Int, n + (i : Int) = N := ⟨_, rfl⟩
      have N0 : 0 ≤ N := by omega
      have N1 : N ≤ 53375995729747 := by omega
      have hr : r = X.rec' N := by rw [← hN]; exact HR.out
      have bd := X.rec_bd N N0
      rw [← hr] at bd
      have HR1 := hide hr
      clear hr HR
      obtain ⟨ry, rm, rd, rk⟩ := r
      simp only at bd
      obtain ⟨mm, rfl⟩ : ∃ mm : Nat, rm = mm := ⟨rm.toNat, by omega⟩
      obtain ⟨dd, rfl⟩ : ∃ dd : Nat, rd = dd := ⟨rd.toNat, by omega⟩
      obtain ⟨kk, rfl⟩ : ∃ kk : Nat, rk = kk := ⟨rk.toNat, by omega⟩
      have HOn := hide (fun (w : World) (hX : RxAt G S w) => on_any G S ry mm dd kk (by omega) (by omega) (by omega) w hX)
      have HAf := hide (fun (w : World) => after_any ry mm dd kk (by omega) (by omega) (by omega) (by omega) (by omega) (by omega) (by omega) (by omega) w)
      have haf : X.afterR ⟨ry, mm, dd, kk⟩ = X.rec' (N + 1) := by rw [HR1.out]; exact (X.rec_next N N0).symm
      rw [haf] at HAf
      obtain ⟨r2, hr2⟩ : ∃ r2, X.rec' (N + 1) = r2 := ⟨_, rfl⟩
      rw [hr2] at HAf
      have HR2 : Hid (r2 = X.rec' (n + ((i + 1 : Nat) : Int))) := by show _ = _; rw [← hr2]; congr 1; omega
      clear haf hr2
      obtain ⟨c0, c1, c2, c3⟩ := r2
      unfold rdt at HAf
      simp only at HAf
      have HO : Hid (X.onR S ⟨ry, mm, dd, kk⟩ = X.onR S (X.rec' N)) := by rw [HR1.out]; exact rfl
      generalize hO : X.onR S ⟨ry, mm, dd, kk⟩ = O at *
      clear hO
      have hBx3 := HBx.out.keep hB
      have a0 := hBx3.c0; have a1 := hBx3.c1; have a2 := hBx3.c2; have a3 := hBx3.c3; have a4 := hBx3.c4
      unfold DtAt at hD
      have e0 := hD.c0; have e1 := hD.c1; have e2 := hD.c2; have e3 := hD.c3
      clear hBx3 bd
      simp only at hD e0 e1 e2 e3
      go_wp2_with fail
      clear a0 a1 a2 a3 a4 e0 e1 e2 e3
      go_at_call 28
      refine (HOn.out _ (HX1.out.keep hB)).mono ?_
      rintro e w5 ⟨rfl, hb5⟩
      have hD5 := hD.keep hb5
      have hB5 := hB.trans (hb5.mono hB.size)
      clear hb5 hB hD HOn
      cases O
      · have HNx := hide (X.day_through HN.out (fun u _ h2 => X.no_on (N := N) (S := S) HO.out.symm (by rw [h2]; exact hN)))
        clear HO
        have e0 := hD5.c0; have e1 := hD5.c1; have e2 := hD5.c2; have e3 := hD5.c3; have ef := hD5.fr
        go_wp2_with fail
        clear e0 e1 e2 e3 ef
        go_at_call 32
        refine (HAf.out _).mono ?_
        rintro e w6 ⟨rfl, hb6⟩
        have hD6 := hD5.keep hb6
        have hB6 := hB5.trans (hb6.mono hB5.size)
        have HD7 : Hid (DtAt q ⟨c0, c1, c2, c3⟩ (set4 w6 q (.int .i64 c0) (.int .i64 c1) (.int .i64 c2) (.int .i64 c3))) := hD6.set _ _ _ _
        have HB7 := hide (set4_below (.int .i64 c0) (.int .i64 c1) (.int .i64 c2) (.int .i64 c3) hB6 hq)
        have e0 := hD6.c0; have e1 := hD6.c1; have e2 := hD6.c2; have e3 := hD6.c3; have ef := hD6.fr
        clear hD5 hB5 hb6 hD6 hB6
        go_wp2_with fail
        exact ⟨⟨i + 1, _, by go_num, by omega, HNx, HR2, HD7.out, HB7.out⟩, by simp [intOf]; omega⟩
      · have hBx5 := HBx.out.keep hB5
        have a0 := hBx5.c0; have a1 := hBx5.c1; have a2 := hBx5.c2; have a3 := hBx5.c3; have a4 := hBx5.c4
        have hX5 := HX1.out.keep hB5
        clear hBx5
        go_wp2_with fail
        go_loopw [10] (fun z wx => ∃ m : Nat, z = .int .i64 m ∧ m ≤ 1440 ∧ Hid (∀ u, t < u → u / 86400 = N → u % 86400 / 60 < m → ¬ X.Mat S u) ∧ wx = w5) (fun z _ => 1440 - (intOf z).toNat)
        case atStart => exact ⟨0, rfl, by omega, (fun u _ _ h => absurd h (by omega)), rfl⟩
        case round =>
          obtain ⟨m, rfl, hm, HM, rfl⟩ := hrel
          by_cases hlm : m < 1440
          · have j0 : (m : Int) < 1440 := by omega
            have ch := hX5 1 (by decide) (m / 60) (by show m / 60 < 24; omega)
            have cm := hX5 0 (by decide) (m % 60) (by show m % 60 < 60; omega)
            rw [show 60 * 1 + m / 60 = 60 + m / 60 by omega] at ch
            rw [show 60 * 0 + m % 60 = m % 60 by omega] at cm
            obtain ⟨P, hP⟩ : ∃ P : Int, N * 86400 = P := ⟨_, rfl⟩
            obtain ⟨Q, hQ⟩ : ∃ Q : Int, 60 * (m : Int) = Q := ⟨_, rfl⟩
            obtain ⟨at', hat⟩ : ∃ at' : Int, P + Q = at' := ⟨_, rfl⟩
            have Pb : 0 ≤ P ∧ P ≤ 4611686031050150000 := by omega
            have Qb : 0 ≤ Q ∧ Q ≤ 86400 := by omega
            have pb0 := Pb.1; have pb1 := Pb.2; have qb0 := Qb.1; have qb1 := Qb.2
            have ab0 : 0 ≤ at' := by omega
            have ab1 : at' ≤ 4611686031050300000 := by omega
            have hx : N * 86400 + 60 * (m : Int) = at' := by omega
            have k1 : (m : Int) / 60 < 24 := by omega
            have k2 : (m : Int) % 60 < 60 := by omega
            have k3 : (0 : Int) ≤ (m : Int) / 60 := by omega
            have k4 : (0 : Int) ≤ (m : Int) % 60 := by omega
            have HX := hide hx
            clear hx Pb Qb
            by_cases t1 : t < at'
            · by_cases t2 : at' ≤ 4611686018427387904
              · cases th : S (60 + m / 60)
                · rw [th] at ch
                  have HNot : Hid (¬ X.Mat S (N * 86400 + 60 * (m : Int))) := X.not_mat N0 (by omega) (by simp [th])
                  have HM2 := hide (X.min_through HM.out (fun _ => HNot.out))
                  clear HNot
                  clear th
                  go_wp2_with fail
                  exact ⟨⟨m + 1, by go_num, by omega, HM2, by simp⟩, by simp [intOf]; omega⟩
                · rw [th] at ch
                  cases tm : S (m % 60)
                  · rw [tm] at cm
                    have HNot : Hid (¬ X.Mat S (N * 86400 + 60 * (m : Int))) := X.not_mat N0 (by omega) (by simp [tm])
                    have HM2 := hide (X.min_through HM.out (fun _ => HNot.out))
                    clear HNot
                    clear th tm
                    go_wp2_with fail
                    exact ⟨⟨m + 1, by go_num, by omega, HM2, by simp⟩, by simp [intOf]; omega⟩
                  · rw [tm] at cm
                    have hk : X.Mat S ((n + i) * 86400 + 60 * m) := by rw [hN]; exact X.is_mat N0 hlm HO.out.symm (by rw [HX.out]; exact t2) th tm
                    have HI := hide (X.is_next HN.out (fun u h1 h2 h3 => HM.out u h1 (by rw [h2]; exact hN) h3) hlm (by rw [hN, HX.out]; exact t1) hk)
                    rw [hN, HX.out] at HI
                    have HI2 := hide (HNeg.out _ _ HI.out)
                    have HBe := hide (HB1.out.trans (hB5.mono HB1.out.size))
                    clear hk th tm HI
                    go_wp2_with fail
                    go_ret2
                    exact ⟨⟨_, _, rfl, HI2.out⟩, HBe.out⟩
              · have HNot : Hid (¬ X.Mat S (N * 86400 + 60 * (m : Int))) := X.not_mat N0 (by omega) (by intro h; have := h.1; have := HX.out; omega)
                have HM2 := hide (X.min_through HM.out (fun _ => HNot.out))
                clear HNot
                go_wp2_with fail
                exact ⟨⟨m + 1, by go_num, by omega, HM2, by simp⟩, by simp [intOf]; omega⟩
            · have HM2 := hide (X.min_through HM.out (fun h => absurd h (by have := HX.out; omega)))
              go_wp2_with fail
              exact ⟨⟨m + 1, by go_num, by omega, HM2, by simp⟩, by simp [intOf]; omega⟩
          · have j0 : ¬ (m : Int) < 1440 := by omega
            have HNx := hide (X.day_through HN.out (fun u h1 h2 hu => HM.out u h1 (by rw [h2]; exact hN) (by have := X.mat_min hu; omega) hu))
            clear HO a0 a1 a2 a3 a4
            have e0 := hD5.c0; have e1 := hD5.c1; have e2 := hD5.c2; have e3 := hD5.c3; have ef := hD5.fr
            go_wp2_with fail
            clear e0 e1 e2 e3 ef
            go_at_call 32
            refine (HAf.out _).mono ?_
            rintro e w6 ⟨rfl, hb6⟩
            have hD6 := hD5.keep hb6
            have hB6 := hB5.trans (hb6.mono hB5.size)
            have HD7 : Hid (DtAt q ⟨c0, c1, c2, c3⟩ (set4 w6 q (.int .i64 c0) (.int .i64 c1) (.int .i64 c2) (.int .i64 c3))) := hD6.set _ _ _ _
            have HB7 := hide (set4_below (.int .i64 c0) (.int .i64 c1) (.int .i64 c2) (.int .i64 c3) hB6 hq)
            have e0 := hD6.c0; have e1 := hD6.c1; have e2 := hD6.c2; have e3 := hD6.c3; have ef := hD6.fr
            clear hD5 hB5 hb6 hD6 hB6
            go_wp2_with fail
            exact ⟨⟨i + 1, _, by go_num, by omega, HNx, HR2, HD7.out, HB7.out⟩, by simp [intOf]; omega⟩
    · obtain rfl : i = 146098 := by omega
      have HI2 := hide (HNeg.out _ _ (.inr ⟨rfl, rfl, X.next_none tl HNn.out (fun u h1 h2 => HN.out u h1 (by omega))⟩))
      have HBe := hide (HB1.out.trans (hB.mono HB1.out.size))
      clear hB hD HN
      go_wp2_with fail
      go_ret2
      exact ⟨⟨_, _, rfl, HI2.out⟩, HBe.out⟩
set_option maxHeartbeats 8000000 in
set_option maxRecDepth 100000 in
theorem refNext_neg (G : Nat → Nat) (S : X.Sets) (hG : X.Good S) (t0 : Int) (ht0 : t0 < 0) (w : World) (hX : RxAt G S w) :
    Calls Tryd.prog 16 #[rex G, .int .i64 t0] w fun e w' => NlEnd (X.IsNext S t0) e ∧ Below w.heap.size w w' := by
  have HNeg := hide (fun (m : Int) (b : Bool) (h : X.IsNext S (-1) m b) => X.next_neg ht0 h)
  obtain ⟨t, ht⟩ : ∃ t : Int, t = -1 := ⟨_, rfl⟩
  rw [← ht] at HNeg
  have hn : (0 : Int) = (t + 1) / 86400 := by omega
  obtain ⟨n, hnn⟩ : ∃ n : Int, n = 0 := ⟨_, rfl⟩
  rw [← hnn] at hn
  have tl : -1 ≤ t := by omega
  have tu : t < 4611686018427387904 := by omega
  have n0 : 0 ≤ n := by omega
  have n1 : n ≤ 53375995583650 := by omega
  have HNn := hide hn
  have hBx := Bx.new w G
  have hb1 : Below w.heap.size w (w.alloc (.cells #[.slice (some ⟨G 0, 0, none⟩) 60 60, .slice (some ⟨G 1, 0, none⟩) 24 24, .slice (some ⟨G 2, 0, none⟩) 32 32, .slice (some ⟨G 3, 0, none⟩) 13 13, .slice (some ⟨G 4, 0, none⟩) 7 7] 26)) := Below.put (Below.refl _ _) _
  have HBx := hide hBx
  have HB1 := hide hb1
  have HXw := hide hX
  clear hBx hb1 hX
  have HEi := hide (fun (w : World) (hX : RxAt G S w) => either_any G S hG w hX)
  have HDa := hide (fun (w : World) => date_any n n0 n1 w)
  unfold rex
  go_enter Tryd.func16, Tryd.ntmps16
  go_wp2_with fail
  rw [show (0 : Int) = n from hnn.symm, show (-1 : Int) = t from ht.symm]
  clear ht hnn hn
  generalize w.alloc (.cells #[.slice (some ⟨G 0, 0, none⟩) 60 60, .slice (some ⟨G 1, 0, none⟩) 24 24, .slice (some ⟨G 2, 0, none⟩) 32 32, .slice (some ⟨G 3, 0, none⟩) 13 13, .slice (some ⟨G 4, 0, none⟩) 7 7] 26) = W1 at *
  have HX1 := hide (HXw.out.keep HB1.out)
  obtain ⟨r0, hr0⟩ : ∃ r0, X.rec' n = r0 := ⟨_, rfl⟩
  have HR0 := hide hr0
  rw [hr0] at HDa
  clear hr0 HXw
  obtain ⟨ry, rm, rd, rk⟩ := r0
  unfold rdt at HDa
  simp only at HDa
  go_at_call 30
  refine (HDa.out _).mono ?_
  rintro e w2 ⟨rfl, hb2⟩
  have HB2 := hide hb2
  clear hb2 HDa
  go_upto_region 7 with fail
  have hD3 := D4.new w2 (.int .i64 ry) (.int .i64 rm) (.int .i64 rd) (.int .i64 rk) 73
  have hb3 : Below w2.heap.size w2 (w2.alloc (.cells #[.int .i64 ry, .int .i64 rm, .int .i64 rd, .int .i64 rk] 73)) := Below.put (Below.refl _ _) _
  generalize w2.alloc (.cells #[.int .i64 ry, .int .i64 rm, .int .i64 rd, .int .i64 rk] 73) = W3 at *
  have hB3 := HB2.out.trans (hb3.mono HB2.out.size)
  have hq := HB2.out.size
  generalize w2.heap.size = q at *
  have hBx3 := HBx.out.keep hB3
  have a0 := hBx3.c0; have a1 := hBx3.c1; have a2 := hBx3.c2; have a3 := hBx3.c3; have a4 := hBx3.c4
  clear hb3 HB2 hBx3
  go_wp2_with fail
  clear a0 a1 a2 a3 a4
  go_at_call 29
  refine (HEi.out _ (HX1.out.keep hB3)).mono ?_
  rintro e w4 ⟨rfl, hb4⟩
  have hD4 : DtAt q (X.rec' n) w4 := by rw [HR0.out]; exact hD3.keep hb4
  have hB4 := hB3.trans (hb4.mono hB3.size)
  clear hb4 hB3 hD3 HEi HR0
  go_wp2_with fail
  go_loopw [9] (fun y wx => ∃ (i : Nat) (r : X.Rc), y = .int .i64 i ∧ i ≤ 146098 ∧ Hid (∀ u, t < u → u / 86400 < n + i → ¬ X.Mat S u) ∧ Hid (r = X.rec' (n + i)) ∧ DtAt q r wx ∧ Below W1.heap.size W1 wx) (fun y _ => 146098 - (intOf y).toNat)
  case atStart => exact ⟨0, X.rec' n, rfl, by omega, (fun u h1 h2 => absurd h2 (by have := HNn.out; omega)), (by show _ = _; simp), hD4, hB4⟩
  case round =>
    obtain ⟨i, r, rfl, hi, HN, HR, hD, hB⟩ := hrel
    clear hD4 hB4
    by_cases hlt : i ≤ 146097
    · have i0 : (i : Int) ≤ 146097 := by omega
      obtain ⟨N, hN⟩ : ∃ N : Int, n + (i : Int) = N := ⟨_, rfl⟩
      have N0 : 0 ≤ N := by omega
      have N1 : N ≤ 53375995729747 := by omega
      have hr : r = X.rec' N := by rw [← hN]; exact HR.out
      have bd := X.rec_bd N N0
      rw [← hr] at bd
      have HR1 := hide hr
      clear hr HR
      obtain ⟨ry, rm, rd, rk⟩ := r
      simp only at bd
      obtain ⟨mm, rfl⟩ : ∃ mm : Nat, rm = mm := ⟨rm.toNat, by omega⟩
      obtain ⟨dd, rfl⟩ : ∃ dd : Nat, rd = dd := ⟨rd.toNat, by omega⟩
      obtain ⟨kk, rfl⟩ : ∃ kk : Nat, rk = kk := ⟨rk.toNat, by omega⟩
      have HOn := hide (fun (w : World) (hX : RxAt G S w) => on_any G S ry mm dd kk (by omega) (by omega) (by omega) w hX)
      have HAf := hide (fun (w : World) => after_any ry mm dd kk (by omega) (by omega) (by omega) (by omega) (by omega) (by omega) (by omega) (by omega) w)
      have haf : X.afterR ⟨ry, mm, dd, kk⟩ = X.rec' (N + 1) := by rw [HR1.out]; exact (X.rec_next N N0).symm
      rw [haf] at HAf
      obtain ⟨r2, hr2⟩ : ∃ r2, X.rec' (N + 1) = r2 := ⟨_, rfl⟩
      rw [hr2] at HAf
      have HR2 : Hid (r2 = X.rec' (n + ((i + 1 : Nat) : Int))) := by show _ = _; rw [← hr2]; congr 1; omega
      clear haf hr2
      obtain ⟨c0, c1, c2, c3⟩ := r2
      unfold rdt at HAf
      simp only at HAf
      have HO : Hid (X.onR S ⟨ry, mm, dd, kk⟩ = X.onR S (X.rec' N)) := by rw [HR1.out]; exact rfl
      generalize hO : X.onR S ⟨ry, mm, dd, kk⟩ = O at *
      clear hO
      have hBx3 := HBx.out.keep hB
      have a0 := hBx3.c0; have a1 := hBx3.c1; have a2 := hBx3.c2; have a3 := hBx3.c3; have a4 := hBx3.c4
      unfold DtAt at hD
      have e0 := hD.c0; have e1 := hD.c1; have e2 := hD.c2; have e3 := hD.c3
      clear hBx3 bd
      simp only at hD e0 e1 e2 e3
      go_wp2_with fail
      clear a0 a1 a2 a3 a4 e0 e1 e2 e3
      go_at_call 28
      refine (HOn.out _ (HX1.out.keep hB)).mono ?_
      rintro e w5 ⟨rfl, hb5⟩
      have hD5 := hD.keep hb5
      have hB5 := hB.trans (hb5.mono hB.size)
      clear hb5 hB hD HOn
      cases O
      · have HNx := hide (X.day_through HN.out (fun u _ h2 => X.no_on (N := N) (S := S) HO.out.symm (by rw [h2]; exact hN)))
        clear HO
        have e0 := hD5.c0; have e1 := hD5.c1; have e2 := hD5.c2; have e3 := hD5.c3; have ef := hD5.fr
        go_wp2_with fail
        clear e0 e1 e2 e3 ef
        go_at_call 32
        refine (HAf.out _).mono ?_
        rintro e w6 ⟨rfl, hb6⟩
        have hD6 := hD5.keep hb6
        have hB6 := hB5.trans (hb6.mono hB5.size)
        have HD7 : Hid (DtAt q ⟨c0, c1, c2, c3⟩ (set4 w6 q (.int .i64 c0) (.int .i64 c1) (.int .i64 c2) (.int .i64 c3))) := hD6.set _ _ _ _
        have HB7 := hide (set4_below (.int .i64 c0) (.int .i64 c1) (.int .i64 c2) (.int .i64 c3) hB6 hq)
        have e0 := hD6.c0; have e1 := hD6.c1; have e2 := hD6.c2; have e3 := hD6.c3; have ef := hD6.fr
        clear hD5 hB5 hb6 hD6 hB6
        go_wp2_with fail
        exact ⟨⟨i + 1, _, by go_num, by omega, HNx, HR2, HD7.out, HB7.out⟩, by simp [intOf]; omega⟩
      · have hBx5 := HBx.out.keep hB5
        have a0 := hBx5.c0; have a1 := hBx5.c1; have a2 := hBx5.c2; have a3 := hBx5.c3; have a4 := hBx5.c4
        have hX5 := HX1.out.keep hB5
        clear hBx5
        go_wp2_with fail
        go_loopw [10] (fun z wx => ∃ m : Nat, z = .int .i64 m ∧ m ≤ 1440 ∧ Hid (∀ u, t < u → u / 86400 = N → u % 86400 / 60 < m → ¬ X.Mat S u) ∧ wx = w5) (fun z _ => 1440 - (intOf z).toNat)
        case atStart => exact ⟨0, rfl, by omega, (fun u _ _ h => absurd h (by omega)), rfl⟩
        case round =>
          obtain ⟨m, rfl, hm, HM, rfl⟩ := hrel
          by_cases hlm : m < 1440
          · have j0 : (m : Int) < 1440 := by omega
            have ch := hX5 1 (by decide) (m / 60) (by show m / 60 < 24; omega)
            have cm := hX5 0 (by decide) (m % 60) (by show m % 60 < 60; omega)
            rw [show 60 * 1 + m / 60 = 60 + m / 60 by omega] at ch
            rw [show 60 * 0 + m % 60 = m % 60 by omega] at cm
            obtain ⟨P, hP⟩ : ∃ P : Int, N * 86400 = P := ⟨_, rfl⟩
            obtain ⟨Q, hQ⟩ : ∃ Q : Int, 60 * (m : Int) = Q := ⟨_, rfl⟩
            obtain ⟨at', hat⟩ : ∃ at' : Int, P + Q = at' := ⟨_, rfl⟩
            have Pb : 0 ≤ P ∧ P ≤ 4611686031050150000 := by omega
            have Qb : 0 ≤ Q ∧ Q ≤ 86400 := by omega
            have pb0 := Pb.1; have pb1 := Pb.2; have qb0 := Qb.1; have qb1 := Qb.2
            have ab0 : 0 ≤ at' := by omega
            have ab1 : at' ≤ 4611686031050300000 := by omega
            have hx : N * 86400 + 60 * (m : Int) = at' := by omega
            have k1 : (m : Int) / 60 < 24 := by omega
            have k2 : (m : Int) % 60 < 60 := by omega
            have k3 : (0 : Int) ≤ (m : Int) / 60 := by omega
            have k4 : (0 : Int) ≤ (m : Int) % 60 := by omega
            have HX := hide hx
            clear hx Pb Qb
            by_cases t1 : t < at'
            · by_cases t2 : at' ≤ 4611686018427387904
              · cases th : S (60 + m / 60)
                · rw [th] at ch
                  have HNot : Hid (¬ X.Mat S (N * 86400 + 60 * (m : Int))) := X.not_mat N0 (by omega) (by simp [th])
                  have HM2 := hide (X.min_through HM.out (fun _ => HNot.out))
                  clear HNot
                  clear th
                  go_wp2_with fail
                  exact ⟨⟨m + 1, by go_num, by omega, HM2, by simp⟩, by simp [intOf]; omega⟩
                · rw [th] at ch
                  cases tm : S (m % 60)
                  · rw [tm] at cm
                    have HNot : Hid (¬ X.Mat S (N * 86400 + 60 * (m : Int))) := X.not_mat N0 (by omega) (by simp [tm])
                    have HM2 := hide (X.min_through HM.out (fun _ => HNot.out))
                    clear HNot
                    clear th tm
                    go_wp2_with fail
                    exact ⟨⟨m + 1, by go_num, by omega, HM2, by simp⟩, by simp [intOf]; omega⟩
                  · rw [tm] at cm
                    have hk : X.Mat S ((n + i) * 86400 + 60 * m) := by rw [hN]; exact X.is_mat N0 hlm HO.out.symm (by rw [HX.out]; exact t2) th tm
                    have HI := hide (X.is_next HN.out (fun u h1 h2 h3 => HM.out u h1 (by rw [h2]; exact hN) h3) hlm (by rw [hN, HX.out]; exact t1) hk)
                    rw [hN, HX.out] at HI
                    have HI2 := hide (HNeg.out _ _ HI.out)
                    have HBe := hide (HB1.out.trans (hB5.mono HB1.out.size))
                    clear hk th tm HI
                    go_wp2_with fail
                    go_ret2
                    exact ⟨⟨_, _, rfl, HI2.out⟩, HBe.out⟩
              · have HNot : Hid (¬ X.Mat S (N * 86400 + 60 * (m : Int))) := X.not_mat N0 (by omega) (by intro h; have := h.1; have := HX.out; omega)
                have HM2 := hide (X.min_through HM.out (fun _ => HNot.out))
                clear HNot
                go_wp2_with fail
                exact ⟨⟨m + 1, by go_num, by omega, HM2, by simp⟩, by simp [intOf]; omega⟩
            · have HM2 := hide (X.min_through HM.out (fun h => absurd h (by have := HX.out; omega)))
              go_wp2_with fail
              exact ⟨⟨m + 1, by go_num, by omega, HM2, by simp⟩, by simp [intOf]; omega⟩
          · have j0 : ¬ (m : Int) < 1440 := by omega
            have HNx := hide (X.day_through HN.out (fun u h1 h2 hu => HM.out u h1 (by rw [h2]; exact hN) (by have := X.mat_min hu; omega) hu))
            clear HO a0 a1 a2 a3 a4
            have e0 := hD5.c0; have e1 := hD5.c1; have e2 := hD5.c2; have e3 := hD5.c3; have ef := hD5.fr
            go_wp2_with fail
            clear e0 e1 e2 e3 ef
            go_at_call 32
            refine (HAf.out _).mono ?_
            rintro e w6 ⟨rfl, hb6⟩
            have hD6 := hD5.keep hb6
            have hB6 := hB5.trans (hb6.mono hB5.size)
            have HD7 : Hid (DtAt q ⟨c0, c1, c2, c3⟩ (set4 w6 q (.int .i64 c0) (.int .i64 c1) (.int .i64 c2) (.int .i64 c3))) := hD6.set _ _ _ _
            have HB7 := hide (set4_below (.int .i64 c0) (.int .i64 c1) (.int .i64 c2) (.int .i64 c3) hB6 hq)
            have e0 := hD6.c0; have e1 := hD6.c1; have e2 := hD6.c2; have e3 := hD6.c3; have ef := hD6.fr
            clear hD5 hB5 hb6 hD6 hB6
            go_wp2_with fail
            exact ⟨⟨i + 1, _, by go_num, by omega, HNx, HR2, HD7.out, HB7.out⟩, by simp [intOf]; omega⟩
    · obtain rfl : i = 146098 := by omega
      have HI2 := hide (HNeg.out _ _ (.inr ⟨rfl, rfl, X.next_none tl HNn.out (fun u h1 h2 => HN.out u h1 (by omega))⟩))
      have HBe := hide (HB1.out.trans (hB.mono HB1.out.size))
      clear hB hD HN
      go_wp2_with fail
      go_ret2
      exact ⟨⟨_, _, rfl, HI2.out⟩, HBe.out⟩
set_option maxHeartbeats 1000000 in
theorem refNext_any (G : Nat → Nat) (S : X.Sets) (hG : X.Good S) (t : Int) (w : World) (hX : RxAt G S w) :
    Calls Tryd.prog 16 #[rex G, .int .i64 t] w fun e w' => NlEnd (X.IsNext S t) e ∧ Below w.heap.size w w' := by
  by_cases h0 : t < 0
  · exact refNext_neg G S hG t h0 w hX
  · by_cases h1 : t < 4611686018427387904
    · exact refNext_mid G S hG t (by omega) h1 w hX
    · have HI := hide (X.next_hi (S := S) (t := t) (by omega))
      have h2 : 4611686018427387904 ≤ t := by omega
      clear hX h1
      unfold rex
      go_enter Tryd.func16, Tryd.ntmps16
      go_wp2_with fail
      go_ret2
      exact ⟨⟨_, _, rfl, HI.out⟩, Below.put (Below.refl _ _) _⟩
end Go.Proofs.YtbgioclbjbmicaaDoor
