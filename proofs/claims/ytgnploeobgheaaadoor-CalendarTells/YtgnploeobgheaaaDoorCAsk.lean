/- pick and answered. -/
import Derived.Test.YtgnploeobgheaaaDoorCRef
namespace Go.Proofs.YtgnploeobgheaaaDoor
open Go.RowKit

/-- Numbers in memory, one cell each. -/
def Row (w : World) (g : Nat) (L : List Int) : Prop := g < w.heap.size ∧ ∀ (j : Nat) (x : Int), L[j]? = some x → w.cell? ⟨g, j, none⟩ = some (.int .i64 x)
theorem Row.keep {w w' : World} {g : Nat} {L : List Int} (h : Row w g L) (b : Below w.heap.size w w') : Row w' g L :=
  ⟨Nat.lt_of_lt_of_le h.1 b.size, fun j x hx => by rw [b.cell (p := ⟨g, j, none⟩) h.1]; exact h.2 j x hx⟩
theorem Row.alloc {w : World} {g : Nat} {L : List Int} (h : Row w g L) (o : Obj) : Row (w.alloc o) g L := h.keep ((Below.refl _ _).alloc (Nat.le_refl _) _)
theorem Row.new (w : World) (L : List Int) (t : TypeId) : Row (w.alloc (.cells (L.map (Value.int .i64)).toArray t)) w.heap.size L := by
  refine ⟨Nat.lt_of_lt_of_le (Nat.lt_succ_self _) (Nat.le_of_eq (by show _ = (w.heap.push _).size; simp)), fun j x hx => ?_⟩
  rw [cell_of_row _ _ _ _ t (0, 0) (heap_alloc_new w _)]
  simp [hx]

theorem tmod4 (c : Int) (h : c < 0) : 0 ≤ -((c + 1).tmod 4) ∧ -((c + 1).tmod 4) < 4 := by
  have e : -((c + 1).tmod 4) = (-(c + 1)) % 4 := by rw [← Int.neg_tmod, Int.tmod_eq_emod_of_nonneg (by omega)]
  rw [e]; omega
theorem pick_any (c : Int) (h0 : -9223372036854775808 ≤ c) (h1 : c ≤ 9223372036854775807) (w : World) :
    Calls Tryd.prog 24 #[.int .i64 c, .int .i64 4] w fun e w' => (∃ r : Int, 0 ≤ r ∧ r < 4 ∧ e = .returned (.int .i64 r)) ∧ w' = w := by
  by_cases hc : c < 0
  · go_enter Tryd.func24, Tryd.ntmps24
    go_wp2
    go_ret
    exact ⟨⟨_, (tmod4 c hc).1, (tmod4 c hc).2, rfl⟩, rfl⟩
  · go_enter Tryd.func24, Tryd.ntmps24
    go_wp2
    go_ret
    refine ⟨⟨_, ?_, ?_, rfl⟩, rfl⟩ <;> omega

set_option maxHeartbeats 2000000 in
theorem answered_any (c t y m d h i s k q p : Int) (h0 : -9223372036854775808 ≤ c) (h1 : c ≤ 9223372036854775807) (w : World) (hT : Tab w) :
    Calls Tryd.prog 12 #[.agg #[.int .i64 c, .int .i64 t, .int .i64 y, .int .i64 m, .int .i64 d, .int .i64 h, .int .i64 i, .int .i64 s, .int .i64 k, .int .i64 q, .int .i64 p]] w fun e w' => e = .returned (.bool true) ∧ Below w.heap.size w w' := by
  go_enter Tryd.func12, Tryd.ntmps12
  go_wp2_with fail
  go_at_call 24
  refine (pick_any c h0 h1 _).mono ?_
  rintro e w' ⟨⟨r, r0, r1, rfl⟩, rfl⟩
  have B0 := hide (Below.put (Below.refl w.heap.size w) (Obj.cells #[.int .i64 c, .int .i64 t, .int .i64 y, .int .i64 m, .int .i64 d, .int .i64 h, .int .i64 i, .int .i64 s, .int .i64 k, .int .i64 q, .int .i64 p] 32))
  have R0 := Row.new w [c, t, y, m, d, h, i, s, k, q, p] 32
  obtain rfl | rfl | rfl | rfl : r = 0 ∨ r = 1 ∨ r = 2 ∨ r = 3 := by omega
  · have HA : Hid (∃ (v : Value) (z : Int), (v = datOf t ∨ v = dat 0 0 0 0 0 0 0) ∧ (∀ w, Tab w → Calls Tryd.prog 9 #[.int .i64 t] w fun e w' => e = .returned (.tuple #[v, .int .i64 z]) ∧ Below w.heap.size w w') ∧ (∀ w, Calls Tryd.prog 25 #[.int .i64 t] w fun e w' => e = .returned (.tuple #[v, .int .i64 z]) ∧ Below w.heap.size w w')) := by
      by_cases ht : 0 ≤ t ∧ t ≤ 4611686018427387904
      · exact ⟨datOf t, 0, .inl rfl, fun w hT => at_in t ht.1 ht.2 w hT, fun w => refAt_in t ht.1 ht.2 w⟩
      · exact ⟨dat 0 0 0 0 0 0 0, 30, .inr rfl, fun w _ => at_out t (by omega) w, fun w => refAt_out t (by omega) w⟩
    obtain ⟨v, z, hv, H1, H2⟩ := HA.out
    obtain ⟨a0, a1, a2, a3, a4, a5, a6, rfl⟩ : ∃ a0 a1 a2 a3 a4 a5 a6, v = dat a0 a1 a2 a3 a4 a5 a6 := by
      rcases hv with rfl | rfl
      · exact ⟨_, _, _, _, _, _, _, rfl⟩
      · exact ⟨_, _, _, _, _, _, _, rfl⟩
    have K1 := hide H1
    have K2 := hide H2
    clear HA hv H1 H2
    go_wp2_with fail
    go_at_call 9
    refine (K1.out _ (hT.alloc _)).mono ?_
    rintro e w1 ⟨rfl, hb1⟩
    have R1 := R0.keep hb1
    have B1 := hide (Below.after B0.out hb1)
    clear hb1 R0 B0
    have y1 := R1.2 1 t rfl
    have yl := R1.1
    generalize hg : w.heap.size = g at y1 yl R1
    go_wp2_with fail
    go_at_call 25
    refine (K2.out _).mono ?_
    rintro e w2 ⟨rfl, hb2⟩
    obtain ⟨x0, x1, x2, x3, x4, x5, x6, xl, xf⟩ := (DatAt.new _ _ _ _ _ _ _ _ _).keep hb2
    have B2 := hide (Below.after (Below.put B1.out _) hb2)
    clear hb2 B1 R1 y1 yl
    generalize hg1 : w1.heap.size = g1 at *
    go_wp2_with fail
    go_ret
    exact ⟨rfl, Below.put B2.out _⟩
  · have HA : Hid (∃ (v z : Int), (∀ w, Tab w → Calls Tryd.prog 15 #[dat y m d h i s k] w fun e w' => e = .returned (.tuple #[.int .i64 v, .int .i64 z]) ∧ Below w.heap.size w w') ∧ (∀ w, Calls Tryd.prog 26 #[dat y m d h i s k] w fun e w' => e = .returned (.tuple #[.int .i64 v, .int .i64 z]) ∧ Below w.heap.size w w')) := by
      by_cases hym : y < 1970 ∨ 146138514283 < y ∨ m < 1 ∨ 12 < m
      · exact ⟨0, 31, fun w _ => time_no y m d h i s k hym w, fun w => refTime_no y m d h i s k hym w⟩
      · obtain ⟨y0, y1, m1, m2⟩ : 1970 ≤ y ∧ y ≤ 146138514283 ∧ 1 ≤ m ∧ m ≤ 12 := by omega
        by_cases hd : d < 1 ∨ K.dim y m < d
        · exact ⟨0, 31, fun w hT => time_bad y m d h i s k y0 y1 m1 m2 (fun hx => by have := hx.1.d1; have := hx.1.d2; omega) w hT, fun w => refTime_day y m d h i s k y0 y1 m1 m2 hd w⟩
        · by_cases hh : h < 0 ∨ 23 < h ∨ i < 0 ∨ 59 < i ∨ s < 0 ∨ 59 < s
          · exact ⟨0, 31, fun w hT => time_bad y m d h i s k y0 y1 m1 m2 (fun hx => by have := hx.1.h1; have := hx.1.h2; have := hx.1.i1; have := hx.1.i2; have := hx.1.s1; have := hx.1.s2; omega) w hT, fun w => refTime_hour y m d h i s k y0 y1 m1 m2 (by omega) (by omega) hh w⟩
          · have hO : K.Ok y m d h i s := ⟨y0, m1, m2, by omega, by omega, by omega, by omega, by omega, by omega, by omega, by omega⟩
            have hr := fun w => refTime_ok y m d h i s k hO y1 w
            by_cases hl : K.secs y m d h i s ≤ 4611686018427387904
            · rw [timeAns_in hl] at hr
              exact ⟨_, 0, fun w hT => time_ok y m d h i s k hO hl w hT, hr⟩
            · rw [timeAns_out (by omega)] at hr
              exact ⟨0, 31, fun w hT => time_bad y m d h i s k y0 y1 m1 m2 (fun hx => hl hx.2) w hT, hr⟩
    obtain ⟨v, z, H1, H2⟩ := HA.out
    have K1 := hide H1
    have K2 := hide H2
    clear HA H1 H2
    go_wp2_with fail
    go_at_call 15
    refine (K1.out _ (hT.alloc _)).mono ?_
    rintro e w1 ⟨rfl, hb1⟩
    have R1 := R0.keep hb1
    have B1 := hide (Below.after B0.out hb1)
    clear hb1 R0 B0
    have y2 := R1.2 2 y rfl
    have y3 := R1.2 3 m rfl
    have y4 := R1.2 4 d rfl
    have y5 := R1.2 5 h rfl
    have y6 := R1.2 6 i rfl
    have y7 := R1.2 7 s rfl
    have y8 := R1.2 8 k rfl
    have yl := R1.1
    generalize hg : w.heap.size = g at y2 y3 y4 y5 y6 y7 y8 yl R1
    go_wp2_with fail
    go_at_call 26
    refine (K2.out _).mono ?_
    rintro e w2 ⟨rfl, hb2⟩
    have B2 := hide (Below.after B1.out hb2)
    clear hb2 B1 R1
    go_wp2_with fail
    go_ret
    exact ⟨rfl, B2.out⟩
  · have HA : Hid (∃ (v z : Int), (∀ w, Tab w → Calls Tryd.prog 22 #[.int .i64 q, .int .i64 p] w fun e w' => e = .returned (.tuple #[.int .i64 v, .int .i64 z]) ∧ w' = w) ∧ (∀ w, Calls Tryd.prog 27 #[.int .i64 q, .int .i64 p] w fun e w' => e = .returned (.tuple #[.int .i64 v, .int .i64 z]) ∧ Below w.heap.size w w')) := by
      by_cases hym : q < 1970 ∨ 146138514283 < q ∨ p < 1 ∨ 12 < p
      · exact ⟨0, 31, fun w _ => days_out q p hym w, fun w => refDays_out q p hym w⟩
      · obtain ⟨y0, y1, m1, m2⟩ : 1970 ≤ q ∧ q ≤ 146138514283 ∧ 1 ≤ p ∧ p ≤ 12 := by omega
        exact ⟨_, 0, fun w hT => days_in q p y0 y1 m1 m2 w hT, fun w => refDays_in q p y0 y1 m1 m2 w⟩
    obtain ⟨v, z, H1, H2⟩ := HA.out
    have K1 := hide H1
    have K2 := hide H2
    clear HA H1 H2
    go_wp2_with fail
    go_at_call 22
    refine (K1.out _ (hT.alloc _)).mono ?_
    rintro e w1 ⟨rfl, rfl⟩
    go_wp2_with fail
    go_at_call 27
    refine (K2.out _).mono ?_
    rintro e w2 ⟨rfl, hb2⟩
    have B2 := hide (Below.after B0.out hb2)
    clear hb2 B0
    go_wp2_with fail
    go_ret
    exact ⟨rfl, B2.out⟩
  · go_wp2_with fail
    go_quiet ((first | (go_at_call 23; exact (leap_any _ _).mono (fun _ _ h => ⟨h.1, ⟨_, h.2⟩⟩)) | (go_at_call 28; exact (refLeap_any _ _).mono (fun _ _ h => ⟨h.1, ⟨_, h.2⟩⟩))))
    go_wp2_with fail
    go_ret
    exact ⟨rfl, B0.out.trans ⟨rfl, rfl, rfl, Nat.le_refl _, fun _ _ => rfl⟩⟩
end Go.Proofs.YtgnploeobgheaaaDoor
