/- The document's days: ahead. -/
import Derived.Test.YtbgioclbjbmicaaDoorXRd2
namespace Go.Proofs.YtbgioclbjbmicaaDoor
open Go.RowKit

theorem ahead_res {w : World} {p : Nat} {a b c d : Value} {act : Act} (h2 : act.tmps[2]? = some (.pointer (some ⟨p, 0, none⟩))) (h : D4 p a b c d w) :
    (results Tryd.f33 act.tmps).run Tryd.prog w = .ok (.agg #[a, b, c, d]) w := by
  simp [results, Tryd.results33, go_sem, h2, h.c0, h.c1, h.c2, h.c3]
theorem size_alloc (w : World) (o : Obj) : (w.alloc o).heap.size = w.heap.size + 1 := by simp
set_option maxHeartbeats 2000000 in
set_option maxRecDepth 100000 in
theorem ahead_any (y m d k : Int) (y0 : 0 ≤ y) (y1 : y < 400) (m0 : 1 ≤ m) (m1 : m ≤ 12) (d0 : 1 ≤ d) (d1 : d ≤ 31) (k0 : 0 ≤ k) (k1 : k ≤ 6) (w : World) :
    Calls Tryd.prog 33 #[.agg #[.int .i64 y, .int .i64 m, .int .i64 d, .int .i64 k]] w fun e w' => e = .returned (rdt (X.aheadR ⟨y, m, d, k⟩)) ∧ Below w.heap.size w w' := by
  by_cases h : 0 < d - 1
  · rw [X.ahead_a h]
    have hD := D4.new (w.alloc (.cells #[.int .i64 y, .int .i64 m, .int .i64 (d - 1), .int .i64 ((k + 6) % 7)] 73)) (.int .i64 y) (.int .i64 m) (.int .i64 (d - 1)) (.int .i64 ((k + 6) % 7)) 73
    rw [size_alloc] at hD
    have HD := hide hD
    clear hD
    go_enter Tryd.func33, Tryd.ntmps33
    go_wp2_with fail
    exact bodyPost_ret (ahead_res rfl HD.out) rfl ⟨rfl, Below.put (Below.put (Below.refl _ _) _) _⟩
  · generalize hR : rdt (X.aheadR ⟨y, m, d, k⟩) = R
    have hpq : w.heap.size ≠ w.heap.size + 1 := by omega
    by_cases h2 : m - 1 = 0
    · have HR : Hid (R = rdt ⟨(y + 399) % 400, 12, X.longR ((y + 399) % 400) 12, (k + 6) % 7⟩) := by rw [← hR, X.ahead_b h h2]; exact rfl
      clear hR
      have i0 : (m - 1 == 0) = true := by simp; omega
      have hP0 := D4.new w (.int .i64 ((y + 399) % 400)) (.int .i64 12) (.int .i64 (d - 1)) (.int .i64 ((k + 6) % 7)) 73
      have hb0 : Below w.heap.size w (w.alloc (.cells #[.int .i64 ((y + 399) % 400), .int .i64 12, .int .i64 (d - 1), .int .i64 ((k + 6) % 7)] 73)) := Below.put (Below.refl _ _) _
      have hs0 := size_alloc w (.cells #[.int .i64 ((y + 399) % 400), .int .i64 12, .int .i64 (d - 1), .int .i64 ((k + 6) % 7)] 73)
      have HP0 := hide hP0
      have HB0 := hide hb0
      have HS0 := hide hs0
      clear hP0 hb0 hs0 h2
      go_enter Tryd.func33, Tryd.ntmps33
      go_wp2_with fail
      generalize w.alloc (.cells #[.int .i64 ((y + 399) % 400), .int .i64 12, .int .i64 (d - 1), .int .i64 ((k + 6) % 7)] 73) = W0 at *
      have hQ0 := D4.new W0 (.int .i64 0) (.int .i64 0) (.int .i64 0) (.int .i64 0) 73
      have hb1 : Below W0.heap.size W0 (W0.alloc (.cells #[.int .i64 0, .int .i64 0, .int .i64 0, .int .i64 0] 73)) := Below.put (Below.refl _ _) _
      rw [HS0.out] at hQ0
      generalize W0.alloc (.cells #[.int .i64 0, .int .i64 0, .int .i64 0, .int .i64 0] 73) = W at *
      have hP1 := HP0.out.keep hb1
      have hB1 := HB0.out.trans (hb1.mono HB0.out.size)
      clear hb1 HP0 HB0 HS0
      go_at_call 50
      refine (long_any ((y + 399) % 400) 12 (d - 1) ((k + 6) % 7) (by omega) (by omega) _).mono ?_
      rintro e w4 ⟨rfl, hb4⟩
      have hP4 := hP1.keep hb4
      have hQ4 := hQ0.keep hb4
      have hB4 := hB1.trans (hb4.mono hB1.size)
      generalize X.longR ((y + 399) % 400) 12 = L at *
      have e0 := hP4.c0; have e1 := hP4.c1; have e2 := hP4.c2; have e3 := hP4.c3; have ef := hP4.fr
      have f0 := hQ4.c0; have f1 := hQ4.c1; have f2 := hQ4.c2; have f3 := hQ4.c3; have ff := hQ4.fr
      have HD := hide ((hQ4.other hpq.symm 2 (.int .i64 L)).set (.int .i64 ((y + 399) % 400)) (.int .i64 12) (.int .i64 L) (.int .i64 ((k + 6) % 7)))
      have HBs := hide (set4_below (p := w.heap.size + 1) (.int .i64 ((y + 399) % 400)) (.int .i64 12) (.int .i64 L) (.int .i64 ((k + 6) % 7)) (hB4.setCell (p := ⟨w.heap.size, 2, none⟩) (Nat.le_refl _) (.int .i64 L)) (by omega))
      clear hP1 hQ0 hB1 hb4 hP4 hQ4 hB4
      go_wp2_with fail
      exact bodyPost_ret (w := set4 (w4.setCell ⟨w.heap.size, 2, none⟩ (.int .i64 L)) (w.heap.size + 1) (.int .i64 ((y + 399) % 400)) (.int .i64 12) (.int .i64 L) (.int .i64 ((k + 6) % 7))) (ahead_res rfl HD.out) rfl ⟨by rw [HR.out]; rfl, HBs.out⟩
    · have HR : Hid (R = rdt ⟨y, m - 1, X.longR y (m - 1), (k + 6) % 7⟩) := by rw [← hR, X.ahead_c h h2]; exact rfl
      clear hR
      have i0 : (m - 1 == 0) = false := by simp; omega
      have hP0 := D4.new w (.int .i64 y) (.int .i64 (m - 1)) (.int .i64 (d - 1)) (.int .i64 ((k + 6) % 7)) 73
      have hb0 : Below w.heap.size w (w.alloc (.cells #[.int .i64 y, .int .i64 (m - 1), .int .i64 (d - 1), .int .i64 ((k + 6) % 7)] 73)) := Below.put (Below.refl _ _) _
      have hs0 := size_alloc w (.cells #[.int .i64 y, .int .i64 (m - 1), .int .i64 (d - 1), .int .i64 ((k + 6) % 7)] 73)
      have HP0 := hide hP0
      have HB0 := hide hb0
      have HS0 := hide hs0
      clear hP0 hb0 hs0 h2
      go_enter Tryd.func33, Tryd.ntmps33
      go_wp2_with fail
      generalize w.alloc (.cells #[.int .i64 y, .int .i64 (m - 1), .int .i64 (d - 1), .int .i64 ((k + 6) % 7)] 73) = W0 at *
      have hQ0 := D4.new W0 (.int .i64 0) (.int .i64 0) (.int .i64 0) (.int .i64 0) 73
      have hb1 : Below W0.heap.size W0 (W0.alloc (.cells #[.int .i64 0, .int .i64 0, .int .i64 0, .int .i64 0] 73)) := Below.put (Below.refl _ _) _
      rw [HS0.out] at hQ0
      generalize W0.alloc (.cells #[.int .i64 0, .int .i64 0, .int .i64 0, .int .i64 0] 73) = W at *
      have hP1 := HP0.out.keep hb1
      have hB1 := HB0.out.trans (hb1.mono HB0.out.size)
      clear hb1 HP0 HB0 HS0
      go_at_call 50
      refine (long_any y (m - 1) (d - 1) ((k + 6) % 7) (by omega) (by omega) _).mono ?_
      rintro e w4 ⟨rfl, hb4⟩
      have hP4 := hP1.keep hb4
      have hQ4 := hQ0.keep hb4
      have hB4 := hB1.trans (hb4.mono hB1.size)
      generalize X.longR y (m - 1) = L at *
      have e0 := hP4.c0; have e1 := hP4.c1; have e2 := hP4.c2; have e3 := hP4.c3; have ef := hP4.fr
      have f0 := hQ4.c0; have f1 := hQ4.c1; have f2 := hQ4.c2; have f3 := hQ4.c3; have ff := hQ4.fr
      have HD := hide ((hQ4.other hpq.symm 2 (.int .i64 L)).set (.int .i64 y) (.int .i64 (m - 1)) (.int .i64 L) (.int .i64 ((k + 6) % 7)))
      have HBs := hide (set4_below (p := w.heap.size + 1) (.int .i64 y) (.int .i64 (m - 1)) (.int .i64 L) (.int .i64 ((k + 6) % 7)) (hB4.setCell (p := ⟨w.heap.size, 2, none⟩) (Nat.le_refl _) (.int .i64 L)) (by omega))
      clear hP1 hQ0 hB1 hb4 hP4 hQ4 hB4
      go_wp2_with fail
      exact bodyPost_ret (w := set4 (w4.setCell ⟨w.heap.size, 2, none⟩ (.int .i64 L)) (w.heap.size + 1) (.int .i64 y) (.int .i64 (m - 1)) (.int .i64 L) (.int .i64 ((k + 6) % 7))) (ahead_res rfl HD.out) rfl ⟨by rw [HR.out]; rfl, HBs.out⟩
end Go.Proofs.YtbgioclbjbmicaaDoor
