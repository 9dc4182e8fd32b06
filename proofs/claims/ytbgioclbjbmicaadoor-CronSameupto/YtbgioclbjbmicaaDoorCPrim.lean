/- Contracts of package calendar's own small functions. -/
import Derived.Test.YtbgioclbjbmicaaDoorChecked
import Derived.WalkKit
import Derived.Deep.QuietTactic
import Derived.Lib.LaidTab
import Derived.Below
import Derived.Laws.ResultCell
import Derived.Laws.Rows
import Derived.KernelRfl
import Derived.Test.YtbgioclbjbmicaaDoorCMath
namespace Go.Proofs.YtbgioclbjbmicaaDoor
open Go.RowKit

theorem hide {p : Prop} (h : p) : Hid p := h
theorem ret_int {k : IntKind} {a b : Int} (h : a = b) : Ending.returned (.int k a) = .returned (.int k b) := by rw [h]

/-- The days of the months, as the package's variable holds them. -/
def tab : List Int := [31, 28, 31, 30, 31, 30, 31, 31, 30, 31, 30, 31]
structure Tab (w : World) : Prop where
  out : ∀ i : Nat, i < 12 → w.cell? ⟨1, i, none⟩ = some (.int .i64 (tab.getD i 0))
  size : 1 < w.heap.size
theorem Tab.keep {w w' : World} (h : Tab w) (b : Below w.heap.size w w') : Tab w' :=
  ⟨fun i hi => by rw [b.cell (p := ⟨1, i, none⟩) h.size]; exact h.out i hi, Nat.lt_of_lt_of_le h.size b.size⟩
theorem Tab.alloc {w : World} (h : Tab w) (o : Obj) : Tab (w.alloc o) := h.keep ((Below.refl _ _).alloc (Nat.le_refl _) _)
theorem Tab.setCell {w : World} (h : Tab w) {p : Addr} (hp : 1 < p.block) (u : Value) : Tab (w.setCell p u) := by
  refine ⟨fun i hi => ?_, ?_⟩
  · have e := Below.heap_setCell w p u 1 (by omega)
    rw [World.cell?_of_block (w := w) (w' := w.setCell p u) (a := ⟨1, i, none⟩) e]; exact h.out i hi
  · have := ((Below.refl 0 w).setCell (p := p) (Nat.zero_le _) u).size
    exact Nat.lt_of_lt_of_le h.size this

theorem leapsTo_any (y : Int) (h0 : 0 ≤ y) (h1 : y ≤ 1000000000000) (w : World) :
    Calls Tryd.prog 53 #[.int .i64 y] w fun e w' => e = .returned (.int .i64 (y / 4 - y / 100 + y / 400)) ∧ w' = w := by
  go_enter Tryd.func53, Tryd.ntmps53
  go_wp2
  go_ret
  exact ⟨rfl, rfl⟩

theorem newYear_any (y : Int) (h0 : 1970 ≤ y) (h1 : y ≤ 200000000000) (w : World) :
    Calls Tryd.prog 36 #[.int .i64 y] w fun e w' => e = .returned (.int .i64 (K.ny y)) ∧ w' = w := by
  go_enter Tryd.func36, Tryd.ntmps36
  go_wp2_with (go_at_call 53; refine (leapsTo_any _ (by omega) (by omega) _).mono ?_; rintro e w' ⟨rfl, rfl⟩)
  go_ret
  exact ⟨ret_int (by unfold K.ny; omega), rfl⟩

theorem tmod0 (y c : Int) : y.tmod c = 0 ↔ y % c = 0 :=
  ⟨fun h => Int.emod_eq_zero_of_dvd (Int.dvd_of_tmod_eq_zero h), fun h => Int.tmod_eq_zero_of_dvd (Int.dvd_of_emod_eq_zero h)⟩

theorem leap_any (y : Int) (w : World) :
    Calls Tryd.prog 65 #[.int .i64 y] w fun e w' => e = .returned (.bool (K.lpB y)) ∧ w' = w := by
  have h1 := tmod0 y 400
  have h2 := tmod0 y 4
  have h3 := tmod0 y 100
  by_cases a : y.tmod 400 = 0
  · have ha : K.lp y := .inl (h1.1 a)
    go_enter Tryd.func65, Tryd.ntmps65
    go_wp2
    go_ret
    exact ⟨by simp [K.lpB_true ha], rfl⟩
  · have a' : ¬ y % 400 = 0 := fun h => a (h1.2 h)
    by_cases b : y.tmod 4 = 0
    · by_cases c : y.tmod 100 = 0
      · have ha : ¬ K.lp y := fun h => h.elim a' (fun h => h.2 (h3.1 c))
        clear h1 h2 h3
        go_enter Tryd.func65, Tryd.ntmps65
        go_wp2
        go_ret
        exact ⟨by simp [K.lpB_false ha, a], rfl⟩
      · have ha : K.lp y := .inr ⟨h2.1 b, fun h => c (h3.2 h)⟩
        clear h1 h2 h3
        go_enter Tryd.func65, Tryd.ntmps65
        go_wp2
        go_ret
        exact ⟨by simp [K.lpB_true ha, c], rfl⟩
    · have ha : ¬ K.lp y := fun h => h.elim a' (fun h => b (h2.2 h.1))
      clear h1 h2 h3
      go_enter Tryd.func65, Tryd.ntmps65
      go_wp2
      go_ret
      exact ⟨by simp [K.lpB_false ha, a], rfl⟩

theorem tab_at (m : Int) (h1 : 1 ≤ m) (h2 : m ≤ 12) (h0 : ¬ m = 2) (y : Int) : tab.getD (m - 1).toNat 0 = K.dim y m := by
  have h : m = 1 ∨ m = 3 ∨ m = 4 ∨ m = 5 ∨ m = 6 ∨ m = 7 ∨ m = 8 ∨ m = 9 ∨ m = 10 ∨ m = 11 ∨ m = 12 := by omega
  rcases h with rfl | rfl | rfl | rfl | rfl | rfl | rfl | rfl | rfl | rfl | rfl <;> rfl

theorem daysIn_any (y m : Int) (h1 : 1 ≤ m) (h2 : m ≤ 12) (w : World) (hT : Tab w) :
    Calls Tryd.prog 52 #[.int .i64 y, .int .i64 m] w fun e w' => e = .returned (.int .i64 (K.dim y m)) ∧ w' = w := by
  by_cases hm : m = 2
  · subst hm
    have hc := hT.out 1 (by omega)
    have hv : tab.getD 1 0 = 28 := rfl
    rw [hv] at hc
    by_cases hl : K.lp y
    · have hd : K.dim y 2 = 29 := by simp [K.dim, K.len_pos hl]
      have hB := K.lpB_true hl
      go_enter Tryd.func52, Tryd.ntmps52
      go_wp2_with (go_at_call 65; refine (leap_any _ _).mono ?_; rintro e w' ⟨rfl, rfl⟩)
      go_ret
      exact ⟨ret_int (by rw [hd]), rfl⟩
    · have hd : K.dim y 2 = 28 := by simp [K.dim, K.len_neg hl]
      have hB := K.lpB_false hl
      go_enter Tryd.func52, Tryd.ntmps52
      go_wp2_with (go_at_call 65; refine (leap_any _ _).mono ?_; rintro e w' ⟨rfl, rfl⟩)
      go_ret
      exact ⟨ret_int (by rw [hd]), rfl⟩
  · obtain ⟨k, rfl⟩ : ∃ k : Nat, m = (k : Int) + 1 := ⟨(m - 1).toNat, by omega⟩
    have hc := hT.out k (by omega)
    have hv := tab_at ((k : Int) + 1) h1 h2 hm y
    rw [show ((k : Int) + 1 - 1).toNat = k by omega] at hv
    rw [hv] at hc
    clear hv
    go_enter Tryd.func52, Tryd.ntmps52
    go_wp2_with (go_at_call 65; refine (leap_any _ _).mono ?_; rintro e w' ⟨rfl, rfl⟩)
    go_ret
    exact ⟨rfl, rfl⟩

theorem yearOf_any (n : Int) (h0 : 0 ≤ n) (h1 : n ≤ 53375995583650) (w : World) :
    Calls Tryd.prog 34 #[.int .i64 n] w fun e w' => e = .returned (.int .i64 (K.yr n)) ∧ w' = w := by
  have hg := K.guess_ge n h0
  have hu : K.guess n ≤ 146138514290 := by unfold K.guess; omega
  have e : 1970 + n / 146097 * 400 + n % 146097 / 366 = K.guess n := rfl
  have hy : K.yr n = if K.ny (K.guess n + 1) ≤ n then K.guess n + 1 else K.guess n := rfl
  by_cases h : K.ny (K.guess n + 1) ≤ n
  · rw [if_pos h] at hy
    go_enter Tryd.func34, Tryd.ntmps34
    go_wp2_with (go_at_call 36; refine (newYear_any _ (by omega) (by omega) _).mono ?_; rintro e w' ⟨rfl, rfl⟩)
    go_ret
    exact ⟨ret_int (by rw [hy]), rfl⟩
  · rw [if_neg h] at hy
    go_enter Tryd.func34, Tryd.ntmps34
    go_wp2_with (go_at_call 36; refine (newYear_any _ (by omega) (by omega) _).mono ?_; rintro e w' ⟨rfl, rfl⟩)
    go_ret
    exact ⟨ret_int (by rw [hy]), rfl⟩

theorem monthOf_any (y d : Int) (h0 : 0 ≤ d) (h1 : d < K.len y) (w : World) (hT : Tab w) :
    Calls Tryd.prog 35 #[.int .i64 y, .int .i64 d] w fun e w' => e = .returned (.tuple #[.int .i64 (K.mo y d), .int .i64 (d - K.cum y (K.mo y d) + 1)]) ∧ w' = w := by
  have hl := K.len_cases y
  have hc1 := K.cum_one y
  go_enter Tryd.func35, Tryd.ntmps35
  go_wp2
  go_loop [1, 4] (fun d' m' => ∃ m : Int, 1 ≤ m ∧ m ≤ 12 ∧ K.cum y m ≤ d ∧ m' = .int .i64 m ∧ d' = .int .i64 (d - K.cum y m)) (fun _ m' => (13 - intOf m').toNat)
  case atStart => exact ⟨1, by omega, by omega, by omega, rfl, by rw [hc1, Int.sub_zero]⟩
  case round =>
    obtain ⟨m, m1, m2, hc, rfl, rfl⟩ := hrel
    have hb := K.cum_mono y 1 m (by omega) m1 (by omega)
    have hs := K.cum_succ y m m1 m2
    have hd := K.dim_pos y m
    by_cases hlt : K.dim y m ≤ d - K.cum y m
    · have hm : m + 1 ≤ 12 := by
        by_cases h : m = 12
        · subst h
          have := K.cum_end y
          rw [show (12 : Int) + 1 = 13 from rfl] at hs
          omega
        · omega
      go_wp2_with (go_at_call 52; refine (daysIn_any _ _ (by omega) (by omega) _ (by assumption)).mono ?_; rintro e w' ⟨rfl, rfl⟩)
      exact ⟨⟨m + 1, by omega, by omega, by omega, rfl, by rw [hs, Int.sub_sub]⟩, by simp [intOf]; omega⟩
    · have HM := hide (K.mo_uniq y d m h0 h1 m1 m2 hc (by omega))
      go_wp2_with (go_at_call 52; refine (daysIn_any _ _ (by omega) (by omega) _ (by assumption)).mono ?_; rintro e w' ⟨rfl, rfl⟩)
      go_ret2
      have hm := HM.out
      exact ⟨by rw [← hm]; rfl, rfl⟩

/-- A date as a value. -/
abbrev dat (y m d h i s k : Int) : Value := .agg #[.int .i64 y, .int .i64 m, .int .i64 d, .int .i64 h, .int .i64 i, .int .i64 s, .int .i64 k]
abbrev datOf (t : Int) : Value := dat (K.Y t) (K.M t) (K.D t) (K.hh t) (K.mm t) (K.ss t) (K.W t)

/-- A date and a number, handed back. -/
theorem res_date {fn : Func} {p u : Tmp} (h : fn.results = #[.cell p 44, .tmp u]) (tmps : Array Value) (w : World) (g : Nat) (t : TypeId) (cs : Array Value) (fr : Nat × Nat)
    (hp : tmps.getD p undef = .pointer (some ⟨g, 0, none⟩)) (hg : w.heap[g]? = some (.cells cs t fr)) (hs : cs.size = 7) :
    (results fn tmps).run Tryd.prog w = .ok (.tuple #[.agg cs, tmps.getD u undef]) w := by
  rw [results_cell_tmp h, hp]
  have hi : (Tryd.prog.info? 44).map (·.size) = some cs.size := by rw [hs]; kernel_rfl
  simp [asAddr, run_loadVar_row w g t 44 cs fr _ hg Tryd.underlying44 rfl hi, Result.andThen]

theorem at_in (t : Int) (h0 : 0 ≤ t) (h1 : t ≤ 4611686018427387904) (w : World) (hT : Tab w) :
    Calls Tryd.prog 20 #[.int .i64 t] w fun e w' => e = .returned (.tuple #[datOf t, .int .i64 0]) ∧ Below w.heap.size w w' := by
  have n0 : 0 ≤ t / 86400 := by omega
  have a := K.yr_ge _ n0
  have b := K.y_of_le h0 h1
  have c := K.yd_ge _ n0
  have c' := K.yd_lt _ n0
  have e1 : t / 86400 - K.ny (K.Y t) = K.yd (t / 86400) := rfl
  have e2 : K.yr (t / 86400) = K.Y t := rfl
  rw [e2] at a c'
  have hl := K.len_cases (K.Y t)
  go_enter Tryd.func20, Tryd.ntmps20
  go_wp2_with (first | (go_at_call 34; refine (yearOf_any _ (by omega) (by omega) _).mono ?_; rintro e w' ⟨rfl, rfl⟩; rw [e2]) | (go_at_call 36; refine (newYear_any _ (by omega) (by omega) _).mono ?_; rintro e w' ⟨rfl, rfl⟩) | (go_at_call 35; refine (monthOf_any _ _ (by omega) (by omega) _ (hT.alloc _)).mono ?_; rintro e w' ⟨rfl, rfl⟩))
  refine bodyPost_ret (res_date rfl _ _ w.heap.size _ _ _ rfl (heap_alloc_new _ _) rfl) rfl ⟨?_, (Below.refl _ _).alloc (Nat.le_refl _) _⟩
  have q1 : t % 3600 / 60 = K.mm t := by unfold K.mm; omega
  have q2 : t % 60 = K.ss t := by unfold K.ss; omega
  rw [q1, q2]
  rfl

theorem at_out (t : Int) (h : t < 0 ∨ 4611686018427387904 < t) (w : World) :
    Calls Tryd.prog 20 #[.int .i64 t] w fun e w' => e = .returned (.tuple #[dat 0 0 0 0 0 0 0, .int .i64 30]) ∧ Below w.heap.size w w' := by
  have hb : (decide (t < 0) || decide (4611686018427387904 < t)) = true := by simpa using h
  go_enter Tryd.func20, Tryd.ntmps20
  go_wp2
  all_goals (refine bodyPost_ret (res_date rfl _ _ w.heap.size _ _ _ rfl (heap_alloc_new _ _) rfl) rfl ⟨rfl, (Below.refl _ _).alloc (Nat.le_refl _) _⟩)

theorem days_in (y m : Int) (h1 : 1970 ≤ y) (h2 : y ≤ 146138514283) (h3 : 1 ≤ m) (h4 : m ≤ 12) (w : World) (hT : Tab w) :
    Calls Tryd.prog 48 #[.int .i64 y, .int .i64 m] w fun e w' => e = .returned (.tuple #[.int .i64 (K.dim y m), .int .i64 0]) ∧ w' = w := by
  go_enter Tryd.func48, Tryd.ntmps48
  go_wp2_with (go_at_call 52; refine (daysIn_any _ _ (by omega) (by omega) _ (by assumption)).mono ?_; rintro e w' ⟨rfl, rfl⟩)
  go_ret2
  exact ⟨rfl, rfl⟩

theorem days_out (y m : Int) (h : y < 1970 ∨ 146138514283 < y ∨ m < 1 ∨ 12 < m) (w : World) :
    Calls Tryd.prog 48 #[.int .i64 y, .int .i64 m] w fun e w' => e = .returned (.tuple #[.int .i64 0, .int .i64 31]) ∧ w' = w := by
  by_cases h1 : y < 1970
  · go_enter Tryd.func48, Tryd.ntmps48
    go_wp2
    go_ret2
    exact ⟨rfl, rfl⟩
  · by_cases h2 : 146138514283 < y
    · go_enter Tryd.func48, Tryd.ntmps48
      go_wp2
      go_ret2
      exact ⟨rfl, rfl⟩
    · by_cases h3 : m < 1
      · go_enter Tryd.func48, Tryd.ntmps48
        go_wp2
        go_ret2
        exact ⟨rfl, rfl⟩
      · have h4 : 12 < m := by omega
        clear h
        go_enter Tryd.func48, Tryd.ntmps48
        go_wp2
        go_ret2
        exact ⟨rfl, rfl⟩

end Go.Proofs.YtbgioclbjbmicaaDoor
