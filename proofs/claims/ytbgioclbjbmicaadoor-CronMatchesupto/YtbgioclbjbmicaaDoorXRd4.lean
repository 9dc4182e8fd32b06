/- The document's days: date. -/
import Derived.Test.YtbgioclbjbmicaaDoorXRd3
namespace Go.Proofs.YtbgioclbjbmicaaDoor
open Go.RowKit

theorem date_res {w : World} {p : Nat} {a b c d : Value} {act : Act} (h2 : act.tmps[2]? = some (.pointer (some ⟨p, 0, none⟩))) (h : D4 p a b c d w) :
    (results Tryd.f30 act.tmps).run Tryd.prog w = .ok (.agg #[a, b, c, d]) w := by
  simp [results, Tryd.results30, go_sem, h2, h.c0, h.c1, h.c2, h.c3]
/-- A day in memory. -/
def DtAt (q : Nat) (r : X.Rc) (w : World) : Prop := D4 q (.int .i64 r.y) (.int .i64 r.m) (.int .i64 r.d) (.int .i64 r.k) w
theorem year_lt {y N : Int} (hN : N < 146097) (h : K.ny (1970 + y) ≤ N) : y < 400 := by
  by_cases c : y < 400
  · exact c
  · have := K.ny_mono (show (2370 : Int) ≤ 1970 + y by omega)
    have h2 := X.ny_400
    omega
set_option maxHeartbeats 4000000 in
set_option maxRecDepth 100000 in
theorem date_any (n : Int) (h0 : 0 ≤ n) (h1 : n ≤ 53375995583650) (w : World) :
    Calls Tryd.prog 30 #[.int .i64 n] w fun e w' => e = .returned (rdt (X.rec' n)) ∧ Below w.heap.size w w' := by
  have HRm := hide (X.rec_mod n h0)
  obtain ⟨N, hN⟩ : ∃ N, n % 146097 = N := ⟨_, rfl⟩
  rw [hN] at HRm
  have N0 : 0 ≤ N := by omega
  have N1 : N < 146097 := by omega
  generalize hR : X.rec' n = R at *
  clear hR
  have hP0 := D4.new w (.int .i64 0) (.int .i64 0) (.int .i64 0) (.int .i64 0) 73
  have hb0 : Below w.heap.size w (w.alloc (.cells #[.int .i64 0, .int .i64 0, .int .i64 0, .int .i64 0] 73)) := Below.put (Below.refl _ _) _
  have hs0 := size_alloc w (.cells #[.int .i64 0, .int .i64 0, .int .i64 0, .int .i64 0] 73)
  have HP0 := hide hP0
  have HB0 := hide hb0
  have HS0 := hide hs0
  clear hP0 hb0 hs0
  go_enter Tryd.func30, Tryd.ntmps30
  go_wp2_with fail
  generalize w.alloc (.cells #[.int .i64 0, .int .i64 0, .int .i64 0, .int .i64 0] 73) = W0 at *
  have hQ0 := D4.new W0 (.int .i64 0) (.int .i64 1) (.int .i64 1) (.int .i64 4) 73
  have hb1 : Below W0.heap.size W0 (W0.alloc (.cells #[.int .i64 0, .int .i64 1, .int .i64 1, .int .i64 4] 73)) := Below.put (Below.refl _ _) _
  rw [HS0.out] at hQ0
  generalize W0.alloc (.cells #[.int .i64 0, .int .i64 1, .int .i64 1, .int .i64 4] 73) = W at *
  have hP1 := HP0.out.keep hb1
  have hB1 := HB0.out.trans (hb1.mono HB0.out.size)
  clear hb1 HP0 HB0 HS0
  generalize hq : w.heap.size + 1 = q at *
  have hqp : w.heap.size ≠ q := by omega
  have hq' : w.heap.size ≤ q := by omega
  clear hq
  simp only [hN]
  clear hN
  go_loopw [0] (fun x wx => ∃ y : Int, 0 ≤ y ∧ y < 400 ∧ 0 ≤ N - K.ny (1970 + y) ∧ x = .int .i64 (N - K.ny (1970 + y)) ∧ D4 q (.int .i64 y) (.int .i64 1) (.int .i64 1) (.int .i64 ((4 + K.ny (1970 + y)) % 7)) wx ∧ D4 w.heap.size (.int .i64 0) (.int .i64 0) (.int .i64 0) (.int .i64 0) wx ∧ Below w.heap.size w wx) (fun x _ => (intOf x).toNat)
  case atStart =>
    have hz : K.ny (1970 + 0) = 0 := by decide
    exact ⟨0, by omega, by omega, by rw [hz]; omega, by rw [hz]; simp, by rw [hz]; exact hQ0, hP1, hB1⟩
  case round =>
    obtain ⟨y, y0, y1, hx0, rfl, hQ, hP, hB⟩ := hrel
    clear hQ0 hP1 hB1
    obtain ⟨ky, hky⟩ : ∃ ky, K.ny (1970 + y) = ky := ⟨_, rfl⟩
    have hs := K.ny_succ (1970 + y)
    have hle := K.ny_le (1970 + y) (by omega)
    rw [hky] at hs hx0 hQ hle
    have HKy := hide hky
    rw [hky]
    clear hky
    by_cases hge : 366 ≤ N - ky
    · obtain ⟨kk, hkk⟩ : ∃ kk, (4 + ky) % 7 = kk := ⟨_, rfl⟩
      obtain ⟨k1, hk1⟩ : ∃ k1, (kk + 1) % 7 = k1 := ⟨_, rfl⟩
      have b0 : 0 ≤ kk := by omega
      have b1 : kk ≤ 6 := by omega
      have b2 : 0 ≤ k1 := by omega
      have b3 : k1 ≤ 6 := by omega
      rw [hkk] at hQ
      have HKK := hide hkk
      clear hkk
      have e0 := hQ.c0; have e1 := hQ.c1; have e2 := hQ.c2; have e3 := hQ.c3; have ef := hQ.fr
      have hQ1 := hQ.set3 (.int .i64 k1)
      have hP1 := hP.other hqp 3 (.int .i64 k1)
      have hB1 := hB.setCell (p := ⟨q, 3, none⟩) hq' (.int .i64 k1)
      have HQ1 := hide hQ1
      have HP1 := hide hP1
      have HB1 := hide hB1
      clear hQ1 hP1 hB1 hQ hP hB
      go_wp2_with fail
      clear e0 e1 e2 e3 ef
      have HK1 := hide hk1
      clear hk1
      generalize wr.setCell ⟨q, 3, none⟩ (.int .i64 k1) = W1 at *
      go_at_call 50
      refine (long_any y 2 0 0 y0 (by omega) _).mono ?_
      rintro e w4 ⟨rfl, hb4⟩
      have hQ4 := HQ1.out.keep hb4
      have hP4 := HP1.out.keep hb4
      have hB4 := HB1.out.trans (hb4.mono HB1.out.size)
      clear hb4 HQ1 HP1 HB1
      have hl : X.longR y 2 = K.len (1970 + y) - 337 := rfl
      rw [hl]
      have hlc := K.len_cases (1970 + y)
      have hny : K.ny (1970 + (y + 1)) = ky + K.len (1970 + y) := by rw [show 1970 + (y + 1) = 1970 + y + 1 by omega]; exact hs
      generalize K.len (1970 + y) = L at *
      have e0 := hQ4.c0; have e1 := hQ4.c1; have e2 := hQ4.c2; have e3 := hQ4.c3; have ef := hQ4.fr
      have HNy := hide hny
      clear hny hs
      rcases hlc with rfl | rfl
      · have HQ5 := hide (hQ4.set0 (.int .i64 (y + 1)))
        have HP5 := hide (hP4.other hqp 0 (.int .i64 (y + 1)))
        have HB5 := hide (hB4.setCell (p := ⟨q, 0, none⟩) hq' (.int .i64 (y + 1)))
        clear hQ4 hP4 hB4
        go_wp2_with fail
        have hN5 := HNy.out
        exact ⟨⟨y + 1, by omega, year_lt N1 (by omega), by omega, by rw [hN5]; go_num, by rw [hN5]; rw [show (4 + (ky + 365)) % 7 = k1 by have := HKK.out; have := HK1.out; omega]; exact HQ5.out, HP5.out, HB5.out⟩, by simp [intOf]; omega⟩
      · have HQ5 := hide ((hQ4.set3 (.int .i64 ((k1 + 1) % 7))).set0 (.int .i64 (y + 1)))
        have HP5 := hide ((hP4.other hqp 3 (.int .i64 ((k1 + 1) % 7))).other hqp 0 (.int .i64 (y + 1)))
        have HB5 := hide ((hB4.setCell (p := ⟨q, 3, none⟩) hq' (.int .i64 ((k1 + 1) % 7))).setCell (p := ⟨q, 0, none⟩) hq' (.int .i64 (y + 1)))
        clear hQ4 hP4 hB4
        go_wp2_with fail
        have hN5 := HNy.out
        exact ⟨⟨y + 1, by omega, year_lt N1 (by omega), by omega, by rw [hN5]; go_num, by rw [hN5]; rw [show (4 + (ky + 366)) % 7 = (k1 + 1) % 7 by have := HKK.out; have := HK1.out; omega]; exact HQ5.out, HP5.out, HB5.out⟩, by simp [intOf]; omega⟩
    · have hry := X.rec_year y y0 y1
      rw [HKy.out] at hry
      have hQ2 : DtAt q (X.rec' ky) wr := by rw [hry]; exact hQ
      clear hry hQ
      go_wp2_with fail
      go_loopw [0] (fun x wx => ∃ j : Int, 0 ≤ j ∧ j ≤ N ∧ x = .int .i64 (N - j) ∧ DtAt q (X.rec' j) wx ∧ D4 w.heap.size (.int .i64 0) (.int .i64 0) (.int .i64 0) (.int .i64 0) wx ∧ Below w.heap.size w wx) (fun x _ => (intOf x).toNat)
      case atStart => exact ⟨ky, by omega, by omega, rfl, hQ2, hP, hB⟩
      case round =>
        obtain ⟨j, j0, j1, rfl, hQj, hPj, hBj⟩ := hrel
        clear hQ2 hP hB
        by_cases hj : j < N
        · have hbd := X.rec_bd j j0
          have hnx := X.rec_next j j0
          unfold DtAt at hQj
          have HA := hide (fun (w : World) => after_any (X.rec' j).y (X.rec' j).m (X.rec' j).d (X.rec' j).k hbd.1 hbd.2.1 hbd.2.2.1 hbd.2.2.2.1 hbd.2.2.2.2.1 hbd.2.2.2.2.2.1 hbd.2.2.2.2.2.2.1 hbd.2.2.2.2.2.2.2 w)
          have hee : X.afterR ⟨(X.rec' j).y, (X.rec' j).m, (X.rec' j).d, (X.rec' j).k⟩ = X.rec' (j + 1) := hnx.symm
          rw [hee] at HA
          clear hee hnx hbd
          have e0 := hQj.c0; have e1 := hQj.c1; have e2 := hQj.c2; have e3 := hQj.c3; have ef := hQj.fr
          have i0 : (0 : Int) < N - j := by omega
          obtain ⟨r, hr⟩ : ∃ r, X.rec' (j + 1) = r := ⟨_, rfl⟩
          rw [hr] at HA
          have HRR := hide hr
          clear hr
          generalize (X.rec' j).y = a0 at *
          generalize (X.rec' j).m = a1 at *
          generalize (X.rec' j).d = a2 at *
          generalize (X.rec' j).k = a3 at *
          obtain ⟨c0, c1, c2, c3⟩ := r
          unfold rdt at HA
          simp only at HA
          go_wp2_with fail
          clear e0 e1 e2 e3 ef
          go_at_call 32
          refine (HA.out _).mono ?_
          rintro e w4 ⟨rfl, hb4⟩
          have hQ4 := hQj.keep hb4
          have hP4 := hPj.keep hb4
          have hB4 := hBj.trans (hb4.mono hBj.size)
          have e0 := hQ4.c0; have e1 := hQ4.c1; have e2 := hQ4.c2; have e3 := hQ4.c3; have ef := hQ4.fr
          have HQ5 : Hid (DtAt q (X.rec' (j + 1)) (set4 w4 q (.int .i64 c0) (.int .i64 c1) (.int .i64 c2) (.int .i64 c3))) := by rw [HRR.out]; exact hQ4.set _ _ _ _
          have HP5 := hide ((((hP4.other hqp 0 (.int .i64 c0)).other hqp 1 (.int .i64 c1)).other hqp 2 (.int .i64 c2)).other hqp 3 (.int .i64 c3))
          have HB5 := hide (set4_below (.int .i64 c0) (.int .i64 c1) (.int .i64 c2) (.int .i64 c3) hB4 hq')
          clear hQj hPj hBj hb4 hQ4 hP4 hB4
          go_wp2_with fail
          exact ⟨⟨j + 1, by omega, by omega, by go_num, HQ5.out, HP5.out, HB5.out⟩, by simp [intOf]; omega⟩
        · obtain rfl : j = N := by omega
          rw [HRm.out] at hQj
          unfold DtAt at hQj
          obtain ⟨c0, c1, c2, c3⟩ := R
          simp only at hQj
          have e0 := hQj.c0; have e1 := hQj.c1; have e2 := hQj.c2; have e3 := hQj.c3; have ef := hQj.fr
          have f0 := hPj.c0; have f1 := hPj.c1; have f2 := hPj.c2; have f3 := hPj.c3; have ff := hPj.fr
          have HD := hide (hPj.set (.int .i64 c0) (.int .i64 c1) (.int .i64 c2) (.int .i64 c3))
          have HBs := hide (set4_below (p := w.heap.size) (.int .i64 c0) (.int .i64 c1) (.int .i64 c2) (.int .i64 c3) hBj (Nat.le_refl _))
          have i0 : ¬ (0 : Int) < j - j := by omega
          clear hQj hPj hBj
          go_wp2_with fail
          exact bodyPost_ret (w := set4 wr w.heap.size (.int .i64 c0) (.int .i64 c1) (.int .i64 c2) (.int .i64 c3)) (date_res rfl HD.out) rfl ⟨rfl, HBs.out⟩
end Go.Proofs.YtbgioclbjbmicaaDoor
