/- The document's answer for layer 3. -/
import Derived.Test.YtgnploeobgheaaaDoorCLift
import Derived.BigQuiet
namespace Go.Proofs.YtgnploeobgheaaaDoor
open Go.RowKit

theorem refLeap_any (y : Int) (w : World) :
    Calls Tryd.prog 28 #[.int .i64 y] w fun e w' => e = .returned (.bool (K.lpB y)) ∧ w' = w := by
  have h1 := tmod0 y 400
  have h2 := tmod0 y 4
  have h3 := tmod0 y 100
  by_cases a : y.tmod 400 = 0
  · have ha : K.lp y := .inl (h1.1 a)
    go_enter Tryd.func28, Tryd.ntmps28
    go_wp2
    go_ret
    exact ⟨by simp [K.lpB_true ha], rfl⟩
  · have a' : ¬ y % 400 = 0 := fun h => a (h1.2 h)
    by_cases b : y.tmod 4 = 0
    · by_cases c : y.tmod 100 = 0
      · have ha : ¬ K.lp y := fun h => h.elim a' (fun h => h.2 (h3.1 c))
        clear h1 h2 h3
        go_enter Tryd.func28, Tryd.ntmps28
        go_wp2
        go_ret
        exact ⟨by simp [K.lpB_false ha], rfl⟩
      · have ha : K.lp y := .inr ⟨h2.1 b, fun h => c (h3.2 h)⟩
        clear h1 h2 h3
        go_enter Tryd.func28, Tryd.ntmps28
        go_wp2
        go_ret
        exact ⟨by simp [K.lpB_true ha, c], rfl⟩
    · have ha : ¬ K.lp y := fun h => h.elim a' (fun h => b (h2.2 h.1))
      clear h1 h2 h3
      go_enter Tryd.func28, Tryd.ntmps28
      go_wp2
      go_ret
      exact ⟨by simp [K.lpB_false ha], rfl⟩

theorem length_any (y : Int) (w : World) :
    Calls Tryd.prog 32 #[.int .i64 y] w fun e w' => e = .returned (.int .i64 (K.len y)) ∧ w' = w := by
  by_cases h : K.lp y
  · have hv : K.len y = 366 := K.len_pos h
    have hdec := K.lpB_true h
    rw [hv]
    clear hv
    go_enter Tryd.func32, Tryd.ntmps32
    go_wp2_with (go_at_call 28; refine (refLeap_any _ _).mono ?_; rintro e w' ⟨rfl, rfl⟩; rw [hdec])
    go_ret
    exact ⟨rfl, rfl⟩
  · have hv : K.len y = 365 := K.len_neg h
    have hdec := K.lpB_false h
    rw [hv]
    clear hv
    go_enter Tryd.func32, Tryd.ntmps32
    go_wp2_with (go_at_call 28; refine (refLeap_any _ _).mono ?_; rintro e w' ⟨rfl, rfl⟩; rw [hdec])
    go_ret
    exact ⟨rfl, rfl⟩

theorem month_any (y m : Int) (w : World) :
    Calls Tryd.prog 33 #[.int .i64 y, .int .i64 m] w fun e w' => e = .returned (.int .i64 (K.dim y m)) ∧ w' = w := by
  have hl := K.len_cases y
  by_cases h2 : m = 2
  · subst h2
    have hv : K.dim y 2 = K.len y - 337 := by simp [K.dim]
    rw [hv]
    clear hv
    go_enter Tryd.func33, Tryd.ntmps33
    go_wp2_with (go_at_call 32; refine (length_any _ _).mono ?_; rintro e w' ⟨rfl, rfl⟩)
    go_ret
    exact ⟨rfl, rfl⟩
  · by_cases h4 : m = 4 ∨ m = 6 ∨ m = 9 ∨ m = 11
    · have hv : K.dim y m = 30 := by simp [K.dim, h2, h4]
      rw [hv]
      clear hv
      rcases h4 with rfl | rfl | rfl | rfl
      all_goals (go_enter Tryd.func33, Tryd.ntmps33; go_wp2; go_ret; exact ⟨rfl, rfl⟩)
    · have hv : K.dim y m = 31 := by simp [K.dim, h2, h4]
      rw [hv]
      obtain ⟨a1, a2, a3, a4⟩ : ¬ m = 4 ∧ ¬ m = 6 ∧ ¬ m = 9 ∧ ¬ m = 11 := by omega
      clear hv h4
      go_enter Tryd.func33, Tryd.ntmps33
      go_wp2
      go_ret
      exact ⟨rfl, rfl⟩

theorem res_date1 {fn : Func} {p : Tmp} (h : fn.results = #[.cell p 23]) (tmps : Array Value) (w : World) (g : Nat) (t : TypeId) (cs : Array Value) (fr : Nat × Nat)
    (hp : tmps.getD p undef = .pointer (some ⟨g, 0, none⟩)) (hg : w.heap[g]? = some (.cells cs t fr)) (hs : cs.size = 7) :
    (results fn tmps).run Tryd.prog w = .ok (.agg cs) w := by
  have hi : (Tryd.prog.info? 23).map (·.size) = some cs.size := by rw [hs]; kernel_rfl
  exact results_cell_row h tmps w g t cs fr _ hp hg Tryd.underlying23 rfl hi

set_option maxHeartbeats 1000000 in
theorem date_any (n s : Int) (n0 : 0 ≤ n) (n1 : n ≤ 53375995583650) (s0 : 0 ≤ s) (s1 : s < 86400) (w : World) :
    Calls Tryd.prog 21 #[.int .i64 n, .int .i64 s] w fun e w' =>
      e = .returned (dat (K.yr n) (K.mo (K.yr n) (K.yd n)) (K.yd n - K.cum (K.yr n) (K.mo (K.yr n) (K.yd n)) + 1) (s / 3600) (s / 60 % 60) (s % 60) ((n % 7 + 4) % 7)) ∧ Below w.heap.size w w' := by
  go_enter Tryd.func21, Tryd.ntmps21
  go_wp2_with fail
  go_loop [5, 6] (fun yv lv => ∃ y l : Int, 1970 ≤ y ∧ 0 ≤ l ∧ y ≤ 1000000000000 ∧ K.ny y + l = n ∧ yv = .int .i64 y ∧ lv = .int .i64 l) (fun _ lv => (intOf lv).toNat)
  case atStart =>
    refine ⟨1970 + 400 * (n / 146097), n % 146097, by omega, by omega, by omega, ?_, rfl, rfl⟩
    have := K.ny_cycle (n / 146097) 0
    rw [Int.add_zero, Int.add_zero, K.ny_zero] at this
    omega
  case round =>
    obtain ⟨y, l, y0, l0, y1, hn, rfl, rfl⟩ := hrel
    have hl := K.len_cases y
    have hny := K.ny_le y y0
    have HS := hide (K.ny_succ y)
    have HN := hide hn
    have l1 : l ≤ 53375995583650 := by omega
    clear hn
    by_cases hlt : K.len y ≤ l
    · go_wp2_with (go_at_call 32; refine (length_any _ _).mono ?_; rintro e w' ⟨rfl, rfl⟩)
      have h1 := HN.out
      have h2 := HS.out
      exact ⟨⟨y + 1, l - K.len y, by omega, by omega, by omega, by omega, rfl, rfl⟩, by simp [intOf]; omega⟩
    · have hy : y = K.yr n := K.yr_uniq n y n0 (by have := HN.out; omega) (by have := HN.out; have := HS.out; omega)
      have hld : l = K.yd n := by unfold K.yd; rw [← hy]; have := HN.out; omega
      subst hy
      subst hld
      have hc1 := K.cum_one (K.yr n)
      go_wp2_with (go_at_call 32; refine (length_any _ _).mono ?_; rintro e w' ⟨rfl, rfl⟩)
      go_loop [6, 7] (fun lv mv => ∃ m : Int, 1 ≤ m ∧ m ≤ 12 ∧ K.cum (K.yr n) m ≤ K.yd n ∧ mv = .int .i64 m ∧ lv = .int .i64 (K.yd n - K.cum (K.yr n) m)) (fun _ mv => (13 - intOf mv).toNat)
      case atStart => exact ⟨1, by omega, by omega, by omega, rfl, by rw [hc1, Int.sub_zero]⟩
      case round =>
        obtain ⟨m, m1, m2, hc, rfl, rfl⟩ := hrel
        have hb := K.cum_mono (K.yr n) 1 m (by omega) m1 (by omega)
        have HC := hide (K.cum_succ (K.yr n) m m1 m2)
        have hd := K.dim_pos (K.yr n) m
        by_cases hlt2 : K.dim (K.yr n) m ≤ K.yd n - K.cum (K.yr n) m
        · have hm : m + 1 ≤ 12 := by
            by_cases h : m = 12
            · subst h
              have h1 := K.cum_end (K.yr n)
              have h2 := HC.out
              rw [show (12 : Int) + 1 = 13 from rfl] at h2
              omega
            · omega
          go_wp2_with (go_at_call 33; refine (month_any _ _ _).mono ?_; rintro e w' ⟨rfl, rfl⟩)
          have hs := HC.out
          exact ⟨⟨m + 1, by omega, by omega, by omega, rfl, by rw [hs, Int.sub_sub]⟩, by simp [intOf]; omega⟩
        · have HM := hide (K.mo_uniq (K.yr n) (K.yd n) m (by omega) (by omega) m1 m2 hc (by have := HC.out; omega))
          go_wp2_with (go_at_call 33; refine (month_any _ _ _).mono ?_; rintro e w' ⟨rfl, rfl⟩)
          refine bodyPost_ret (res_date1 rfl _ _ w.heap.size _ _ _ rfl (heap_alloc_new _ _) rfl) rfl ⟨?_, (Below.refl _ _).alloc (Nat.le_refl _) _⟩
          rw [← HM.out, show (n % 7 + 4) % 7 = (n + 4) % 7 by omega]

theorem lastYear_any (w : World) :
    Calls Tryd.prog 10 #[] w fun e w' => e = .returned (.int .i64 146138514283) ∧ Below w.heap.size w w' := by
  have e : K.yr 53375995583650 = 146138514283 := by decide
  have hd := hide (fun w => date_any 53375995583650 0 (by decide) (by decide) (by decide) (by decide) w)
  rw [e] at hd
  clear e
  go_enter Tryd.func10, Tryd.ntmps10
  go_wp2_with fail
  go_at_call 21
  refine (hd.out _).mono ?_
  clear hd
  generalize K.mo 146138514283 (K.yd 53375995583650) = m
  generalize K.yd 53375995583650 - K.cum 146138514283 m + 1 = d
  rintro e w1 ⟨rfl, hb1⟩
  go_wp2_with fail
  go_ret
  exact ⟨rfl, Below.put hb1 _⟩

theorem there_yes (y m : Int) (y0 : 1970 ≤ y) (y1 : y ≤ 146138514283) (m1 : 1 ≤ m) (m2 : m ≤ 12) (w : World) :
    Calls Tryd.prog 34 #[.int .i64 y, .int .i64 m] w fun e w' => e = .returned (.bool true) ∧ Below w.heap.size w w' := by
  go_enter Tryd.func34, Tryd.ntmps34
  go_wp2_with fail
  go_at_call 10
  refine (lastYear_any _).mono ?_
  rintro e w1 ⟨rfl, hb1⟩
  have HB := hide hb1
  clear hb1
  go_wp2_with fail
  go_ret
  exact ⟨rfl, HB.out⟩

theorem there_no (y m : Int) (h : y < 1970 ∨ 146138514283 < y ∨ m < 1 ∨ 12 < m) (w : World) :
    Calls Tryd.prog 34 #[.int .i64 y, .int .i64 m] w fun e w' => e = .returned (.bool false) ∧ Below w.heap.size w w' := by
  by_cases h0 : y < 1970
  · clear h
    go_enter Tryd.func34, Tryd.ntmps34
    go_wp2_with fail
    go_ret
    exact ⟨rfl, Below.refl _ _⟩
  · have HH := hide h
    clear h
    go_enter Tryd.func34, Tryd.ntmps34
    go_wp2_with fail
    go_at_call 10
    refine (lastYear_any _).mono ?_
    rintro e w1 ⟨rfl, hb1⟩
    have HB := hide hb1
    clear hb1
    by_cases h1 : 146138514283 < y
    · go_wp2_with fail
      go_ret
      exact ⟨rfl, HB.out⟩
    · by_cases h2 : m < 1
      · go_wp2_with fail
        go_ret
        exact ⟨rfl, HB.out⟩
      · have h3 : decide (m ≤ 12) = false := decide_eq_false (by have := HH.out; omega)
        go_wp2_with fail
        go_ret
        exact ⟨rfl, HB.out⟩

theorem refDays_in (y m : Int) (y0 : 1970 ≤ y) (y1 : y ≤ 146138514283) (m1 : 1 ≤ m) (m2 : m ≤ 12) (w : World) :
    Calls Tryd.prog 27 #[.int .i64 y, .int .i64 m] w fun e w' => e = .returned (.tuple #[.int .i64 (K.dim y m), .int .i64 0]) ∧ Below w.heap.size w w' := by
  go_enter Tryd.func27, Tryd.ntmps27
  go_wp2_with fail
  go_at_call 34
  refine (there_yes _ _ y0 y1 m1 m2 _).mono ?_
  rintro e w1 ⟨rfl, hb1⟩
  have HB := hide hb1
  clear hb1
  go_wp2_with (go_at_call 33; refine (month_any _ _ _).mono ?_; rintro e w' ⟨rfl, rfl⟩)
  go_ret2
  exact ⟨rfl, HB.out⟩
theorem refDays_out (y m : Int) (h : y < 1970 ∨ 146138514283 < y ∨ m < 1 ∨ 12 < m) (w : World) :
    Calls Tryd.prog 27 #[.int .i64 y, .int .i64 m] w fun e w' => e = .returned (.tuple #[.int .i64 0, .int .i64 31]) ∧ Below w.heap.size w w' := by
  have HH := hide h
  clear h
  go_enter Tryd.func27, Tryd.ntmps27
  go_wp2_with fail
  go_at_call 34
  refine (there_no _ _ HH.out _).mono ?_
  rintro e w1 ⟨rfl, hb1⟩
  have HB := hide hb1
  clear hb1
  go_wp2_with fail
  go_ret2
  exact ⟨rfl, HB.out⟩

theorem DatAt.set0 {w : World} {g : Nat} {y m d h i s k : Int} (a : DatAt w g y m d h i s k) (y' : Int) : DatAt (w.setCell ⟨g, 0, none⟩ (.int .i64 y')) g y' m d h i s k := by
  obtain ⟨x0, x1, x2, x3, x4, x5, x6, xl, xf⟩ := a
  constructor
  case lt => simpa using xl
  case fr => intro j; simp [xf]
  case c0 => exact World.cell?_setCell_same _ _ _ x0
  all_goals (rw [World.cell?_setCell_other _ _ _ _ (by simp)]; assumption)
theorem DatAt.set1 {w : World} {g : Nat} {y m d h i s k : Int} (a : DatAt w g y m d h i s k) (m' : Int) : DatAt (w.setCell ⟨g, 1, none⟩ (.int .i64 m')) g y m' d h i s k := by
  obtain ⟨x0, x1, x2, x3, x4, x5, x6, xl, xf⟩ := a
  constructor
  case lt => simpa using xl
  case fr => intro j; simp [xf]
  case c1 => exact World.cell?_setCell_same _ _ _ x1
  all_goals (rw [World.cell?_setCell_other _ _ _ _ (by simp)]; assumption)
theorem DatAt.set2 {w : World} {g : Nat} {y m d h i s k : Int} (a : DatAt w g y m d h i s k) (d' : Int) : DatAt (w.setCell ⟨g, 2, none⟩ (.int .i64 d')) g y m d' h i s k := by
  obtain ⟨x0, x1, x2, x3, x4, x5, x6, xl, xf⟩ := a
  constructor
  case lt => simpa using xl
  case fr => intro j; simp [xf]
  case c2 => exact World.cell?_setCell_same _ _ _ x2
  all_goals (rw [World.cell?_setCell_other _ _ _ _ (by simp)]; assumption)
theorem DatAt.set3 {w : World} {g : Nat} {y m d h i s k : Int} (a : DatAt w g y m d h i s k) (h' : Int) : DatAt (w.setCell ⟨g, 3, none⟩ (.int .i64 h')) g y m d h' i s k := by
  obtain ⟨x0, x1, x2, x3, x4, x5, x6, xl, xf⟩ := a
  constructor
  case lt => simpa using xl
  case fr => intro j; simp [xf]
  case c3 => exact World.cell?_setCell_same _ _ _ x3
  all_goals (rw [World.cell?_setCell_other _ _ _ _ (by simp)]; assumption)
theorem DatAt.set4 {w : World} {g : Nat} {y m d h i s k : Int} (a : DatAt w g y m d h i s k) (i' : Int) : DatAt (w.setCell ⟨g, 4, none⟩ (.int .i64 i')) g y m d h i' s k := by
  obtain ⟨x0, x1, x2, x3, x4, x5, x6, xl, xf⟩ := a
  constructor
  case lt => simpa using xl
  case fr => intro j; simp [xf]
  case c4 => exact World.cell?_setCell_same _ _ _ x4
  all_goals (rw [World.cell?_setCell_other _ _ _ _ (by simp)]; assumption)
theorem DatAt.set5 {w : World} {g : Nat} {y m d h i s k : Int} (a : DatAt w g y m d h i s k) (s' : Int) : DatAt (w.setCell ⟨g, 5, none⟩ (.int .i64 s')) g y m d h i s' k := by
  obtain ⟨x0, x1, x2, x3, x4, x5, x6, xl, xf⟩ := a
  constructor
  case lt => simpa using xl
  case fr => intro j; simp [xf]
  case c5 => exact World.cell?_setCell_same _ _ _ x5
  all_goals (rw [World.cell?_setCell_other _ _ _ _ (by simp)]; assumption)

/-- A date in memory and a number, handed back. -/
theorem load_date {w : World} {g : Nat} {y m d h i s k : Int} (a : DatAt w g y m d h i s k) : (loadVar 23 ⟨g, 0, none⟩).run Tryd.prog w = .ok (dat y m d h i s k) w := by
  have hl : (loadCells ⟨g, 0, none⟩ 7).run Tryd.prog w = .ok #[.int .i64 y, .int .i64 m, .int .i64 d, .int .i64 h, .int .i64 i, .int .i64 s, .int .i64 k] w :=
    run_loadCells_list (P := Tryd.prog) w ⟨g, 0, none⟩ [.int .i64 y, .int .i64 m, .int .i64 d, .int .i64 h, .int .i64 i, .int .i64 s, .int .i64 k] (fun j v hv => by
      have hadd : (⟨g, 0, none⟩ : Addr).add j = ⟨g, j, none⟩ := by unfold Addr.add; split <;> simp_all
      rw [hadd]
      have hj : j < 7 := (List.getElem?_eq_some_iff.1 hv).1
      obtain rfl | rfl | rfl | rfl | rfl | rfl | rfl : j = 0 ∨ j = 1 ∨ j = 2 ∨ j = 3 ∨ j = 4 ∨ j = 5 ∨ j = 6 := by omega
      all_goals (simp at hv; subst hv)
      · exact a.c0
      · exact a.c1
      · exact a.c2
      · exact a.c3
      · exact a.c4
      · exact a.c5
      · exact a.c6)
  have hagg : (isAgg 23).run Tryd.prog w = .ok true w := by
    unfold isAgg
    rw [Sem.run_bind, run_underlying Tryd.underlying23 w]
    rfl
  have hi : (Tryd.prog.info? 23).map (·.size) = some 7 := by kernel_rfl
  cases hq : Tryd.prog.info? 23 with
  | none => simp [hq] at hi
  | some i =>
    have hs : i.size = 7 := by simpa [hq] using hi
    simp [loadVar, Sem.run_bind, hagg, sizeOf, typeInfo, hq, hs, hl]
theorem res_date' {fn : Func} {p u : Tmp} (e : fn.results = #[.cell p 23, .tmp u]) (tmps : Array Value) {w : World} {g : Nat} {y m d h i s k : Int}
    (hp : tmps.getD p undef = .pointer (some ⟨g, 0, none⟩)) (a : DatAt w g y m d h i s k) :
    (results fn tmps).run Tryd.prog w = .ok (.tuple #[dat y m d h i s k, tmps.getD u undef]) w := by
  rw [results_cell_tmp e, hp]
  simp [asAddr, load_date a, Result.andThen]

theorem refAt_in (t : Int) (h0 : 0 ≤ t) (h1 : t ≤ 4611686018427387904) (w : World) :
    Calls Tryd.prog 25 #[.int .i64 t] w fun e w' => e = .returned (.tuple #[datOf t, .int .i64 0]) ∧ Below w.heap.size w w' := by
  have hd := fun w => date_any (t / 86400) (t % 86400) (by omega) (by omega) (by omega) (by omega) w
  have e1 : t % 86400 / 60 % 60 = K.mm t := by unfold K.mm; omega
  have e2 : (t / 86400 % 7 + 4) % 7 = K.W t := by unfold K.W; omega
  have e3 : t % 86400 / 3600 = K.hh t := rfl
  have e4 : t % 86400 % 60 = K.ss t := rfl
  have e5 : K.yr (t / 86400) = K.Y t := rfl
  have e6 : K.mo (K.Y t) (K.yd (t / 86400)) = K.M t := rfl
  have e7 : K.yd (t / 86400) - K.cum (K.Y t) (K.M t) + 1 = K.D t := rfl
  rw [e1, e2, e3, e4, e5, e6, e7] at hd
  have HD := hide hd
  clear hd e1 e2 e3 e4 e5 e6 e7
  go_enter Tryd.func25, Tryd.ntmps25
  go_wp2_with fail
  go_at_call 21
  refine (HD.out _).mono ?_
  rintro e w1 ⟨rfl, hb1⟩
  have D1 := (DatAt.new _ _ _ _ _ _ _ _ _).keep hb1
  have B1 := hide (Below.after (Below.put (Below.refl _ _) _) hb1)
  clear hb1
  obtain ⟨x0, x1, x2, x3, x4, x5, x6, xl, xf⟩ := D1
  have f0 := xf 0
  have f1 := xf 1
  have f2 := xf 2
  have f3 := xf 3
  have f4 := xf 4
  have f5 := xf 5
  have f6 := xf 6
  obtain ⟨g, hg⟩ : ∃ g, w.heap.size = g := ⟨_, rfl⟩
  rw [hg] at x0 x1 x2 x3 x4 x5 x6 xl f0 f1 f2 f3 f4 f5 f6 xf
  go_wp2_with fail
  have D : DatAt w1 g 0 0 0 0 0 0 0 := ⟨x0, x1, x2, x3, x4, x5, x6, xl, xf⟩
  have gl : w.heap.size ≤ g := Nat.le_of_eq hg
  refine bodyPost_ret (res_date' rfl _ rfl (((((((D.set0 _).set1 _).set2 _).set3 _).set4 _).set5 _).set6 _)) rfl ⟨rfl, ?_⟩
  exact ((((((B1.out.setCell (p := ⟨g, 0, none⟩) gl _).setCell (p := ⟨g, 1, none⟩) gl _).setCell (p := ⟨g, 2, none⟩) gl _).setCell (p := ⟨g, 3, none⟩) gl _).setCell (p := ⟨g, 4, none⟩) gl _).setCell (p := ⟨g, 5, none⟩) gl _).setCell (p := ⟨g, 6, none⟩) gl _
theorem refAt_out (t : Int) (h : t < 0 ∨ 4611686018427387904 < t) (w : World) :
    Calls Tryd.prog 25 #[.int .i64 t] w fun e w' => e = .returned (.tuple #[dat 0 0 0 0 0 0 0, .int .i64 30]) ∧ Below w.heap.size w w' := by
  have hb : (decide (t < 0) || decide (4611686018427387904 < t)) = true := by simpa using h
  go_enter Tryd.func25, Tryd.ntmps25
  go_wp2
  all_goals (refine bodyPost_ret (res_date rfl _ _ w.heap.size _ _ _ rfl (heap_alloc_new _ _) rfl) rfl ⟨rfl, (Below.refl _ _).alloc (Nat.le_refl _) _⟩)

/-- The worlds behind W: all older memory as it was. -/
def Behind (W : World) : Type := { x : World // Below W.heap.size W x }
theorem behindNE (W : World) : Nonempty (Behind W) := ⟨⟨W, Below.refl _ _⟩⟩
theorem quiet_behind {id : Nat} {Q : Exit → Act → World → Prop} {a : Act} {W : World} {l : List Oper} (hm : Tryd.prog.follows .mixedOrders = true) (hB : Region.lexB .any l.toArray = true)
    (h : wpQuiet Tryd.prog l.toArray (fun w' => ∃ u : Behind W, w' = u.1) (fun a' => ∀ w', (∃ u : Behind W, w' = u.1) → Q .normal a' w') l a) : (Code.region id l.toArray true).wp Tryd.prog Q a W :=
  wp_region_quiet (C := fun w' => ∃ u : Behind W, w' = u.1) hm hB ⟨⟨_, (⟨rfl, rfl, rfl, Nat.le_refl _, fun _ _ => rfl⟩ : Below W.heap.size W W.drew)⟩, rfl⟩ (by simpa using h)
theorem calls_behind {f : FuncId} {args : Array Value} {W : World} (u : Behind W) {v : Value}
    (h : Calls Tryd.prog f args u.1 fun e w' => e = .returned v ∧ Below u.1.heap.size u.1 w') : Calls Tryd.prog f args u.1 fun e w'' => e = .returned v ∧ ∃ u' : Behind W, w'' = u'.1 :=
  h.mono fun _ _ ⟨he, hb⟩ => ⟨he, ⟨_, Below.after u.2 hb⟩, rfl⟩
theorem calls_behind' {f : FuncId} {args : Array Value} {W : World} (u : Behind W) {v : Value}
    (h : Calls Tryd.prog f args u.1 fun e w' => e = .returned v ∧ w' = u.1) : Calls Tryd.prog f args u.1 fun e w'' => e = .returned v ∧ ∃ u' : Behind W, w'' = u'.1 :=
  h.mono fun _ _ ⟨he, hb⟩ => ⟨he, u, hb⟩

set_option maxHeartbeats 1000000 in
theorem refTime_no (y m d h i s k : Int) (hym : y < 1970 ∨ 146138514283 < y ∨ m < 1 ∨ 12 < m) (w : World) :
    Calls Tryd.prog 26 #[dat y m d h i s k] w fun e w' => e = .returned (.tuple #[.int .i64 0, .int .i64 31]) ∧ Below w.heap.size w w' := by
  have HN := hide hym
  clear hym
  go_enter Tryd.func26, Tryd.ntmps26
  go_wp2_with fail
  obtain ⟨W, hW, D, B0⟩ : ∃ W, W = w.alloc (Obj.cells #[.int .i64 y, .int .i64 m, .int .i64 d, .int .i64 h, .int .i64 i, .int .i64 s, .int .i64 k] 23) ∧ DatAt W w.heap.size y m d h i s k ∧ Hid (Below w.heap.size w W) := ⟨_, rfl, DatAt.new _ _ _ _ _ _ _ _ _, Below.put (Below.refl _ _) _⟩
  rw [← hW]
  clear hW
  have E := fun u : Behind W => D.keep u.2
  have e0 := fun u : Behind W => (E u).c0
  have e1 := fun u : Behind W => (E u).c1
  have e2 := fun u : Behind W => (E u).c2
  haveI := behindNE W
  refine quiet_behind (by kernel_rfl) (by kernel_rfl) ?_
  repeat (go_big_quiet_step ((first | (go_at_call 34; exact calls_behind _ (there_no _ _ HN.out _)) | (go_at_call 33; exact calls_behind' _ (month_any _ _ _)))))
  refine wpQuiet_nil ?_
  intro _ hw'
  obtain ⟨u, hw''⟩ := hw'
  subst hw''
  have B1 := hide (B0.out.trans (u.2.mono B0.out.size))
  obtain ⟨x0, x1, x2, x3, x4, x5, x6, xl, xf⟩ := E u
  clear E e0 e1 e2
  go_wp2_with fail
  go_ret2
  exact ⟨rfl, B1.out⟩

set_option maxHeartbeats 2000000 in
theorem refTime_day (y m d h i s k : Int) (y0 : 1970 ≤ y) (y1 : y ≤ 146138514283) (m1 : 1 ≤ m) (m2 : m ≤ 12) (hd : d < 1 ∨ K.dim y m < d) (w : World) :
    Calls Tryd.prog 26 #[dat y m d h i s k] w fun e w' => e = .returned (.tuple #[.int .i64 0, .int .i64 31]) ∧ Below w.heap.size w w' := by
  by_cases d1 : d < 1
  · clear hd
    go_enter Tryd.func26, Tryd.ntmps26
    go_wp2_with fail
    obtain ⟨W, hW, D, B0⟩ : ∃ W, W = w.alloc (Obj.cells #[.int .i64 y, .int .i64 m, .int .i64 d, .int .i64 h, .int .i64 i, .int .i64 s, .int .i64 k] 23) ∧ DatAt W w.heap.size y m d h i s k ∧ Hid (Below w.heap.size w W) := ⟨_, rfl, DatAt.new _ _ _ _ _ _ _ _ _, Below.put (Below.refl _ _) _⟩
    rw [← hW]
    clear hW
    have E := fun u : Behind W => D.keep u.2
    have e0 := fun u : Behind W => (E u).c0
    have e1 := fun u : Behind W => (E u).c1
    have e2 := fun u : Behind W => (E u).c2
    haveI := behindNE W
    refine quiet_behind (by kernel_rfl) (by kernel_rfl) ?_
    repeat (go_big_quiet_step ((first | (go_at_call 34; exact calls_behind _ (there_yes _ _ y0 y1 m1 m2 _)) | (go_at_call 33; exact calls_behind' _ (month_any _ _ _)))))
    refine wpQuiet_nil ?_
    intro _ hw'
    obtain ⟨u, hw''⟩ := hw'
    subst hw''
    have B1 := hide (B0.out.trans (u.2.mono B0.out.size))
    obtain ⟨x0, x1, x2, x3, x4, x5, x6, xl, xf⟩ := E u
    clear E e0 e1 e2
    go_wp2_with fail
    go_ret2
    exact ⟨rfl, B1.out⟩
  · have d2 : K.dim y m < d := by omega
    have q1 : decide (d < 1) = false := decide_eq_false d1
    clear hd
    go_enter Tryd.func26, Tryd.ntmps26
    go_wp2_with fail
    obtain ⟨W, hW, D, B0⟩ : ∃ W, W = w.alloc (Obj.cells #[.int .i64 y, .int .i64 m, .int .i64 d, .int .i64 h, .int .i64 i, .int .i64 s, .int .i64 k] 23) ∧ DatAt W w.heap.size y m d h i s k ∧ Hid (Below w.heap.size w W) := ⟨_, rfl, DatAt.new _ _ _ _ _ _ _ _ _, Below.put (Below.refl _ _) _⟩
    rw [← hW]
    clear hW
    have E := fun u : Behind W => D.keep u.2
    have e0 := fun u : Behind W => (E u).c0
    have e1 := fun u : Behind W => (E u).c1
    have e2 := fun u : Behind W => (E u).c2
    haveI := behindNE W
    refine quiet_behind (by kernel_rfl) (by kernel_rfl) ?_
    repeat (go_big_quiet_step ((first | (go_at_call 34; exact calls_behind _ (there_yes _ _ y0 y1 m1 m2 _)) | (go_at_call 33; exact calls_behind' _ (month_any _ _ _)))))
    refine wpQuiet_nil ?_
    intro _ hw'
    obtain ⟨u, hw''⟩ := hw'
    subst hw''
    have B1 := hide (B0.out.trans (u.2.mono B0.out.size))
    obtain ⟨x0, x1, x2, x3, x4, x5, x6, xl, xf⟩ := E u
    clear E e0 e1 e2
    go_wp2_with fail
    go_ret2
    exact ⟨rfl, B1.out⟩

set_option maxHeartbeats 2000000 in
theorem refTime_hour (y m d h i s k : Int) (y0 : 1970 ≤ y) (y1 : y ≤ 146138514283) (m1 : 1 ≤ m) (m2 : m ≤ 12) (d1 : 1 ≤ d) (d2 : d ≤ K.dim y m) (hh : h < 0 ∨ 23 < h ∨ i < 0 ∨ 59 < i ∨ s < 0 ∨ 59 < s) (w : World) :
    Calls Tryd.prog 26 #[dat y m d h i s k] w fun e w' => e = .returned (.tuple #[.int .i64 0, .int .i64 31]) ∧ Below w.heap.size w w' := by
  have HH := hide hh
  clear hh
  have q1 : decide (d < 1) = false := decide_eq_false (by omega)
  go_enter Tryd.func26, Tryd.ntmps26
  go_wp2_with fail
  obtain ⟨W, hW, D, B0⟩ : ∃ W, W = w.alloc (Obj.cells #[.int .i64 y, .int .i64 m, .int .i64 d, .int .i64 h, .int .i64 i, .int .i64 s, .int .i64 k] 23) ∧ DatAt W w.heap.size y m d h i s k ∧ Hid (Below w.heap.size w W) := ⟨_, rfl, DatAt.new _ _ _ _ _ _ _ _ _, Below.put (Below.refl _ _) _⟩
  rw [← hW]
  clear hW
  have E := fun u : Behind W => D.keep u.2
  have e0 := fun u : Behind W => (E u).c0
  have e1 := fun u : Behind W => (E u).c1
  have e2 := fun u : Behind W => (E u).c2
  haveI := behindNE W
  refine quiet_behind (by kernel_rfl) (by kernel_rfl) ?_
  repeat (go_big_quiet_step ((first | (go_at_call 34; exact calls_behind _ (there_yes _ _ y0 y1 m1 m2 _)) | (go_at_call 33; exact calls_behind' _ (month_any _ _ _)))))
  refine wpQuiet_nil ?_
  intro _ hw'
  obtain ⟨u, hw''⟩ := hw'
  subst hw''
  have B1 := hide (B0.out.trans (u.2.mono B0.out.size))
  obtain ⟨x0, x1, x2, x3, x4, x5, x6, xl, xf⟩ := E u
  clear E e0 e1 e2
  by_cases a1 : h < 0
  · go_wp2_with fail
    go_ret2
    exact ⟨rfl, B1.out⟩
  · by_cases a2 : 23 < h
    · go_wp2_with fail
      go_ret2
      exact ⟨rfl, B1.out⟩
    · by_cases a3 : i < 0
      · go_wp2_with fail
        go_ret2
        exact ⟨rfl, B1.out⟩
      · by_cases a4 : 59 < i
        · go_wp2_with fail
          go_ret2
          exact ⟨rfl, B1.out⟩
        · by_cases a5 : s < 0
          · go_wp2_with fail
            go_ret2
            exact ⟨rfl, B1.out⟩
          · have a6 : 59 < s := by have := HH.out; omega
            go_wp2_with fail
            go_ret2
            exact ⟨rfl, B1.out⟩

/-- The answer of Time where a date's parts may be. -/
def timeAns (t : Int) : Value := if t ≤ 4611686018427387904 then .tuple #[.int .i64 t, .int .i64 0] else .tuple #[.int .i64 0, .int .i64 31]
theorem timeAns_in {t : Int} (h : t ≤ 4611686018427387904) : timeAns t = .tuple #[.int .i64 t, .int .i64 0] := if_pos h
theorem timeAns_out {t : Int} (h : 4611686018427387904 < t) : timeAns t = .tuple #[.int .i64 0, .int .i64 31] := if_neg (by omega)

set_option maxHeartbeats 2000000 in
theorem refTime_ok (y m d h i s k : Int) (hO : K.Ok y m d h i s) (y1 : y ≤ 146138514283) (w : World) :
    Calls Tryd.prog 26 #[dat y m d h i s k] w fun e w' => e = .returned (timeAns (K.secs y m d h i s)) ∧ Below w.heap.size w w' := by
  obtain ⟨y0, m1, m2, d1, d2, h1, h2, i1, i2, s1, s2⟩ := hO
  have hdp := K.dim_pos y m
  have q1 : decide (d < 1) = false := decide_eq_false (by omega)
  go_enter Tryd.func26, Tryd.ntmps26
  go_wp2_with fail
  obtain ⟨W, hW, D, B0⟩ : ∃ W, W = w.alloc (Obj.cells #[.int .i64 y, .int .i64 m, .int .i64 d, .int .i64 h, .int .i64 i, .int .i64 s, .int .i64 k] 23) ∧ DatAt W w.heap.size y m d h i s k ∧ Hid (Below w.heap.size w W) := ⟨_, rfl, DatAt.new _ _ _ _ _ _ _ _ _, Below.put (Below.refl _ _) _⟩
  rw [← hW]
  clear hW
  have E := fun u : Behind W => D.keep u.2
  have e0 := fun u : Behind W => (E u).c0
  have e1 := fun u : Behind W => (E u).c1
  have e2 := fun u : Behind W => (E u).c2
  haveI := behindNE W
  refine quiet_behind (by kernel_rfl) (by kernel_rfl) ?_
  repeat (go_big_quiet_step ((first | (go_at_call 34; exact calls_behind _ (there_yes _ _ y0 y1 m1 m2 _)) | (go_at_call 33; exact calls_behind' _ (month_any _ _ _)))))
  refine wpQuiet_nil ?_
  intro _ hw'
  obtain ⟨u, hw''⟩ := hw'
  subst hw''
  have B1 := hide (B0.out.trans (u.2.mono B0.out.size))
  obtain ⟨x0, x1, x2, x3, x4, x5, x6, xl, xf⟩ := E u
  clear E e0 e1 e2
  generalize u.val = w1 at *
  clear D B0 u
  have hny := K.ny_le y y0
  have hlen := K.len_cases y
  go_wp2_with fail
  go_loop [5, 6] (fun dv yv => ∃ q : Int, 1970 ≤ q ∧ q ≤ y ∧ yv = .int .i64 q ∧ dv = .int .i64 (K.ny q)) (fun _ yv => (y - intOf yv).toNat)
  case atStart =>
    have hc := K.ny_cycle ((y - 1970) / 400) 0
    rw [Int.add_zero, Int.add_zero, K.ny_zero, Int.add_zero] at hc
    exact ⟨1970 + 400 * ((y - 1970) / 400), by omega, by omega, rfl, by rw [hc, Int.mul_comm]⟩
  case round =>
    obtain ⟨q, q1, q2, rfl, rfl⟩ := hrel
    have hq := K.ny_le q q1
    by_cases hlt : q < y
    · have hl := K.len_cases q
      have HS := hide (K.ny_succ q)
      go_wp2_with (go_at_call 32; refine (length_any _ _).mono ?_; rintro e w' ⟨rfl, rfl⟩)
      have hs := HS.out
      exact ⟨⟨q + 1, by omega, by omega, rfl, by rw [hs]⟩, by simp [intOf]; omega⟩
    · obtain rfl : q = y := by omega
      have hc1 := K.cum_one q
      go_wp2_with fail
      go_loop [5, 7] (fun dv mv => ∃ p : Int, 1 ≤ p ∧ p ≤ m ∧ mv = .int .i64 p ∧ dv = .int .i64 (K.ny q + K.cum q p)) (fun _ mv => (13 - intOf mv).toNat)
      case atStart => exact ⟨1, by omega, by omega, rfl, by rw [hc1, Int.add_zero]⟩
      case round =>
        obtain ⟨p, p1, p2, rfl, rfl⟩ := hrel
        have hcm := K.cum_mono q p 13 (by omega) (by omega) (by omega)
        have hcp := K.cum_mono q 1 p (by omega) (by omega) (by omega)
        have hce := K.cum_end q
        by_cases hlt2 : p < m
        · have HS := hide (K.cum_succ q p p1 (by omega))
          have hd := K.dim_pos q p
          go_wp2_with (go_at_call 33; refine (month_any _ _ _).mono ?_; rintro e w' ⟨rfl, rfl⟩)
          have hs := HS.out
          exact ⟨⟨p + 1, by omega, by omega, rfl, by rw [hs, Int.add_assoc]⟩, by simp [intOf]; omega⟩
        · obtain rfl : p = m := by omega
          have HE : Hid ((K.ny q + K.cum q p + d - 1) * 86400 + h * 3600 + i * 60 + s = K.secs q p d h i s) := rfl
          by_cases hs1 : 53375995583650 < K.ny q + K.cum q p + d - 1
          · go_wp2_with fail
            go_ret2
            exact ⟨by rw [timeAns_out (by have := HE.out; omega)]; rfl, B1.out⟩
          · by_cases hs2 : 4611686018427387904 < (K.ny q + K.cum q p + d - 1) * 86400 + h * 3600 + i * 60 + s
            · go_wp2_with fail
              go_ret2
              exact ⟨by rw [timeAns_out (by have := HE.out; omega)]; rfl, B1.out⟩
            · go_wp2_with fail
              go_ret2
              exact ⟨by rw [timeAns_in (by have := HE.out; omega)]; rfl, B1.out⟩
end Go.Proofs.YtgnploeobgheaaaDoor
