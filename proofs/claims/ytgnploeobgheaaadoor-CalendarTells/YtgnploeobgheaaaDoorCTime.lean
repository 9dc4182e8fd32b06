/- calendar.secondsTo and calendar.Time. -/
import Derived.Test.YtgnploeobgheaaaDoorCPrim
namespace Go.Proofs.YtgnploeobgheaaaDoor
open Go.RowKit

theorem Tab.drew {w : World} (h : Tab w) (n : Nat) : Tab (w.drewN n) := h.keep ⟨rfl, rfl, rfl, Nat.le_refl _, fun _ _ => rfl⟩

theorem wr {x : Int} (h1 : -9223372036854775808 ≤ x) (h2 : x ≤ 9223372036854775807) : IntKind.i64.wrap x = x := by
  rw [IntKind.wrap_i64]; omega
theorem bcell {W w1 : World} (hb : Below W.heap.size W w1) : (∀ b o, b < W.heap.size → w1.cell? ⟨b, o, none⟩ = W.cell? ⟨b, o, none⟩) ∧ (∀ b o, b < W.heap.size → w1.frozen? ⟨b, o, none⟩ = W.frozen? ⟨b, o, none⟩) :=
  ⟨fun b o h => hb.cell (p := ⟨b, o, none⟩) h, fun b o h => hb.frozen (p := ⟨b, o, none⟩) h⟩
/-- A date in memory. -/
structure DatAt (w : World) (g : Nat) (y m d h i s k : Int) : Prop where
  c0 : w.cell? ⟨g, 0, none⟩ = some (.int .i64 y)
  c1 : w.cell? ⟨g, 1, none⟩ = some (.int .i64 m)
  c2 : w.cell? ⟨g, 2, none⟩ = some (.int .i64 d)
  c3 : w.cell? ⟨g, 3, none⟩ = some (.int .i64 h)
  c4 : w.cell? ⟨g, 4, none⟩ = some (.int .i64 i)
  c5 : w.cell? ⟨g, 5, none⟩ = some (.int .i64 s)
  c6 : w.cell? ⟨g, 6, none⟩ = some (.int .i64 k)
  lt : g < w.heap.size
  fr : ∀ j, w.frozen? ⟨g, j, none⟩ = false
theorem DatAt.keep {w w' : World} {g : Nat} {y m d h i s k : Int} (a : DatAt w g y m d h i s k) (b : Below w.heap.size w w') : DatAt w' g y m d h i s k :=
  ⟨by rw [b.cell (p := ⟨g, 0, none⟩) a.lt]; exact a.c0, by rw [b.cell (p := ⟨g, 1, none⟩) a.lt]; exact a.c1, by rw [b.cell (p := ⟨g, 2, none⟩) a.lt]; exact a.c2, by rw [b.cell (p := ⟨g, 3, none⟩) a.lt]; exact a.c3,
   by rw [b.cell (p := ⟨g, 4, none⟩) a.lt]; exact a.c4, by rw [b.cell (p := ⟨g, 5, none⟩) a.lt]; exact a.c5, by rw [b.cell (p := ⟨g, 6, none⟩) a.lt]; exact a.c6, Nat.lt_of_lt_of_le a.lt b.size, fun j => by rw [b.frozen (p := ⟨g, j, none⟩) a.lt]; exact a.fr j⟩
theorem DatAt.new (w : World) (y m d h i s k : Int) (t : TypeId) : DatAt (w.alloc (.cells #[.int .i64 y, .int .i64 m, .int .i64 d, .int .i64 h, .int .i64 i, .int .i64 s, .int .i64 k] t)) w.heap.size y m d h i s k := by
  constructor
  case lt => exact Nat.lt_of_lt_of_le (Nat.lt_succ_self _) (Nat.le_of_eq (by show _ = (w.heap.push _).size; simp))
  case fr => intro j; simp
  all_goals (rw [cell_of_row _ _ _ _ t (0, 0) (heap_alloc_new w _)]; rfl)
theorem DatAt.alloc {w : World} {g : Nat} {y m d h i s k : Int} (a : DatAt w g y m d h i s k) (o : Obj) : DatAt (w.alloc o) g y m d h i s k := a.keep ((Below.refl _ _).alloc (Nat.le_refl _) _)
theorem Below.after {a w w' : World} (h : Below a.heap.size a w) (k : Below w.heap.size w w') : Below a.heap.size a w' := h.trans (k.mono h.size)
theorem Below.put {a w : World} (h : Below a.heap.size a w) (o : Obj) : Below a.heap.size a (w.alloc o) := h.alloc h.size o
theorem DatAt.set6 {w : World} {g : Nat} {y m d h i s k : Int} (a : DatAt w g y m d h i s k) (k' : Int) : DatAt (w.setCell ⟨g, 6, none⟩ (.int .i64 k')) g y m d h i s k' := by
  obtain ⟨x0, x1, x2, x3, x4, x5, x6, xl, xf⟩ := a
  constructor
  case lt => simpa using xl
  case fr => intro j; simp [xf]
  case c6 => exact World.cell?_setCell_same _ _ _ x6
  all_goals (rw [World.cell?_setCell_other _ _ _ _ (by simp)]; assumption)
theorem ne_of_lt' {a b : Nat} (h : a < b) : (a = b) = False := by simp; omega
theorem wr_bounds (x : Int) : -9223372036854775808 ≤ wrap64 x ∧ wrap64 x ≤ 9223372036854775807 := by
  unfold wrap64
  omega

theorem secondsTo_ok (y m d h i s k : Int) (hy' : y ≤ 146138514283) (hO : K.Ok y m d h i s) (w : World) (hT : Tab w) :
    Calls Tryd.prog 29 #[dat y m d h i s k] w fun e w' => e = .returned (.int .i64 (K.secs y m d h i s)) ∧ Below w.heap.size w w' := by
  obtain ⟨y0, m1, m2, d1, d2, h1, h2, i1, i2, s1, s2⟩ := hO
  have hdp := K.dim_pos y m
  have hny := K.ny_le y y0
  have hc1 := K.cum_one y
  have hlen := K.len_cases y
  go_enter Tryd.func29, Tryd.ntmps29
  go_wp2_with fail
  go_quiet ((go_at_call 20; exact (newYear_any _ (by omega) (by omega) _).mono (fun _ _ h => ⟨h.1, ⟨_, h.2⟩⟩)))
  go_wp2_with fail
  go_loop [3, 4] (fun d' m' => ∃ q : Int, 1 ≤ q ∧ q ≤ m ∧ m' = .int .i64 q ∧ d' = .int .i64 (K.ny y + d - 1 + K.cum y q)) (fun _ m' => (13 - intOf m').toNat)
  case atStart => exact ⟨1, by omega, by omega, rfl, by rw [hc1, Int.add_zero, wr (x := K.ny y + d) (by omega) (by omega), wr (by omega) (by omega)]⟩
  case round =>
    obtain ⟨q, q1, q2, rfl, rfl⟩ := hrel
    have hcm := K.cum_mono y q 13 (by omega) (by omega) (by omega)
    have hcp := K.cum_mono y 1 q (by omega) (by omega) (by omega)
    have hce := K.cum_end y
    by_cases hlt : q < m
    · have HS := hide (K.cum_succ y q q1 (by omega))
      have hd := K.dim_pos y q
      go_wp2_with (go_at_call 30; refine (daysIn_any _ _ (by omega) (by omega) _ ((hT.alloc _).drew _)).mono ?_; rintro e w' ⟨rfl, rfl⟩)
      have hs := HS.out
      exact ⟨⟨q + 1, by omega, by omega, rfl, by rw [hs, Int.add_assoc]⟩, by simp [intOf]; omega⟩
    · go_wp2_with fail
      go_ret
      obtain rfl : q = m := by omega
      refine ⟨ret_int (by unfold K.secs; omega), ((Below.refl _ _).alloc (Nat.le_refl _) _).trans ⟨rfl, rfl, rfl, Nat.le_refl _, fun _ _ => rfl⟩⟩

theorem secondsTo_any (y m d h i s k : Int) (y0 : 1970 ≤ y) (y1 : y ≤ 146138514283) (m1 : 1 ≤ m) (m2 : m ≤ 12) (w : World) (hT : Tab w) :
    Calls Tryd.prog 29 #[dat y m d h i s k] w fun e w' => (∃ x : Int, -9223372036854775808 ≤ x ∧ x ≤ 9223372036854775807 ∧ e = .returned (.int .i64 x)) ∧ Below w.heap.size w w' := by
  go_enter Tryd.func29, Tryd.ntmps29
  go_wp2_with fail
  go_quiet ((go_at_call 20; exact (newYear_any _ (by omega) (by omega) _).mono (fun _ _ h => ⟨h.1, ⟨_, h.2⟩⟩)))
  go_wp2_with fail
  go_loop [3, 4] (fun d' m' => ∃ q x : Int, 1 ≤ q ∧ q ≤ m ∧ m' = .int .i64 q ∧ d' = .int .i64 x) (fun _ m' => (13 - intOf m').toNat)
  case atStart => exact ⟨1, _, by omega, by omega, rfl, rfl⟩
  case round =>
    obtain ⟨q, x, q1, q2, rfl, rfl⟩ := hrel
    by_cases hlt : q < m
    · go_wp2_with (go_at_call 30; refine (daysIn_any _ _ (by omega) (by omega) _ ((hT.alloc _).drew _)).mono ?_; rintro e w' ⟨rfl, rfl⟩)
      exact ⟨⟨q + 1, _, by omega, by omega, rfl, rfl⟩, by simp [intOf]; omega⟩
    · go_wp2_with fail
      go_ret
      have hb := wr_bounds (wrap64 (wrap64 (wrap64 (x * 86400) + wrap64 (h * 3600)) + wrap64 (i * 60)) + s)
      refine ⟨⟨_, hb.1, hb.2, rfl⟩, ((Below.refl _ _).alloc (Nat.le_refl _) _).trans ⟨rfl, rfl, rfl, Nat.le_refl _, fun _ _ => rfl⟩⟩

theorem time_ok (y m d h i s k : Int) (hO : K.Ok y m d h i s) (hl : K.secs y m d h i s ≤ 4611686018427387904) (w : World) (hT : Tab w) :
    Calls Tryd.prog 15 #[dat y m d h i s k] w fun e w' => e = .returned (.tuple #[.int .i64 (K.secs y m d h i s), .int .i64 0]) ∧ Below w.heap.size w w' := by
  obtain ⟨b0, bY, bM, bD, bh, bi, bs⟩ := K.back hO
  have hy := K.y_of_le b0 hl
  rw [bY] at hy
  have HO := hide hO
  obtain ⟨y0, m1, m2, d1, d2, h1, h2, i1, i2, s1, s2⟩ := hO
  go_enter Tryd.func15, Tryd.ntmps15
  go_wp2_with (go_at_call 22; refine (days_in _ _ (by omega) (by omega) (by omega) (by omega) _ (hT.alloc _)).mono ?_; rintro e w' ⟨rfl, rfl⟩)
  go_at_call 29
  refine (secondsTo_ok _ _ _ _ _ _ _ hy HO.out _ (hT.alloc _)).mono ?_
  rintro e w1 ⟨rfl, hb1⟩
  have hT1 := (hT.alloc _).keep hb1
  have D1 := (DatAt.new _ _ _ _ _ _ _ _ _).keep hb1
  have B1 := hide (((Below.refl _ _).alloc (Nat.le_refl _) _).trans (hb1.mono (by simp)))
  clear hb1
  have hat := at_in (K.secs y m d h i s) b0 hl w1 hT1
  simp only [datOf, bY, bM, bD, bh, bi, bs] at hat
  have HA := hide hat
  clear hat bY bM bD bh bi bs
  go_wp2_with fail
  go_at_call 9
  refine HA.out.mono ?_
  rintro e w2 ⟨rfl, hb2⟩
  obtain ⟨x0, x1, x2, x3, x4, x5, x6, xl, _⟩ := D1.keep hb2
  have B2 := hide (B1.out.trans (hb2.mono (B1.out.size)))
  clear hb2 B1
  have gl := B2.out.size
  generalize hg : w.heap.size = g at *
  go_wp2_with fail
  go_ret2
  exact ⟨rfl, by rw [hg]; exact B2.out.alloc (by omega) _⟩

theorem time_no (y m d h i s k : Int) (hN : y < 1970 ∨ 146138514283 < y ∨ m < 1 ∨ 12 < m) (w : World) :
    Calls Tryd.prog 15 #[dat y m d h i s k] w fun e w' => e = .returned (.tuple #[.int .i64 0, .int .i64 31]) ∧ Below w.heap.size w w' := by
  have HN := hide hN
  clear hN
  go_enter Tryd.func15, Tryd.ntmps15
  go_wp2_with (go_at_call 22; refine (days_out _ _ HN.out _).mono ?_; rintro e w' ⟨rfl, rfl⟩)
  go_ret2
  exact ⟨rfl, (Below.refl _ _).alloc (Nat.le_refl _) _⟩

theorem time_bad (y m d h i s k : Int) (y0 : 1970 ≤ y) (y1 : y ≤ 146138514283) (m1 : 1 ≤ m) (m2 : m ≤ 12) (hN : ¬ (K.Ok y m d h i s ∧ K.secs y m d h i s ≤ 4611686018427387904)) (w : World) (hT : Tab w) :
    Calls Tryd.prog 15 #[dat y m d h i s k] w fun e w' => e = .returned (.tuple #[.int .i64 0, .int .i64 31]) ∧ Below w.heap.size w w' := by
  have HN := hide hN
  clear hN
  go_enter Tryd.func15, Tryd.ntmps15
  go_wp2_with (go_at_call 22; refine (days_in _ _ (by omega) (by omega) (by omega) (by omega) _ (hT.alloc _)).mono ?_; rintro e w' ⟨rfl, rfl⟩)
  go_at_call 29
  refine (secondsTo_any _ _ _ _ _ _ _ y0 y1 m1 m2 _ (hT.alloc _)).mono ?_
  rintro e w1 ⟨⟨x, xa, xb, rfl⟩, hb1⟩
  have hT1 := (hT.alloc _).keep hb1
  have D1 := (DatAt.new _ _ _ _ _ _ _ _ _).keep hb1
  have B1 := hide (((Below.refl _ _).alloc (Nat.le_refl _) _).trans (hb1.mono (by simp)))
  clear hb1
  go_wp2_with fail
  by_cases hx : x < 0 ∨ 4611686018427387904 < x
  · go_at_call 9
    refine (at_out x hx _).mono ?_
    rintro e w2 ⟨rfl, hb2⟩
    obtain ⟨x0, x1, x2, x3, x4, x5, x6, xl, _⟩ := D1.keep hb2
    have B2 := hide (B1.out.trans (hb2.mono (B1.out.size)))
    clear hb2 B1 hx
    have gl := B2.out.size
    generalize hg : w.heap.size = g at *
    go_wp2_with fail
    go_ret2
    exact ⟨rfl, by rw [hg]; exact B2.out.alloc (by omega) _⟩
  · have hf := K.forth x (by omega)
    have hq : ¬ (K.Y x = y ∧ K.M x = m ∧ K.D x = d ∧ K.hh x = h ∧ K.mm x = i ∧ K.ss x = s) := by
      rintro ⟨rfl, rfl, rfl, rfl, rfl, rfl⟩
      exact HN.out ⟨hf.1, by rw [hf.2]; omega⟩
    have HQ := hide hq
    clear hq hf
    go_at_call 9
    refine (at_in x (by omega) (by omega) _ hT1).mono ?_
    rintro e w2 ⟨rfl, hb2⟩
    obtain ⟨x0, x1, x2, x3, x4, x5, x6, xl, _⟩ := D1.keep hb2
    have B2 := hide (B1.out.trans (hb2.mono (B1.out.size)))
    clear hb2 B1 hx
    have gl := B2.out.size
    generalize hg : w.heap.size = g at *
    go_wp2_with fail
    all_goals (first | (exfalso; exact HQ.out ⟨by assumption, by assumption, by assumption, by assumption, by assumption, by assumption⟩) | (go_ret2; exact ⟨rfl, by rw [hg]; exact B2.out.alloc (by omega) _⟩))
end Go.Proofs.YtgnploeobgheaaaDoor
