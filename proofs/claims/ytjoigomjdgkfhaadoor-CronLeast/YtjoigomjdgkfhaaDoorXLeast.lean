/- CronLeast: the walk. -/
import Derived.Test.YtjoigomjdgkfhaaDoorXYears
import Derived.Test.YtjoigomjdgkfhaaDoorXOpenI
namespace Go.Proofs.YtjoigomjdgkfhaaDoor
open Go.RowKit

set_option maxRecDepth 100000 in
set_option maxHeartbeats 4000000 in
theorem least_walk (s : ByteArray) (t : Int) (a : Option Addr) (n c : Nat) (z : List Int) (w : World) (hE : Env w) (h1 : -9223372036854775808 ≤ t) (h2 : t ≤ 9223372036854775807) (hz : RdI w a n z) :
    Calls Tryd.prog 7 #[.string s, .int .i64 t, .slice a n c] w fun e w' => e = .returned (.bool true) ∧ Below w.heap.size w w' := by
  go_enter Tryd.func7, Tryd.ntmps7
  go_wp2_with fail
  go_at_call 9
  refine (awake_any w hE).mono ?_
  rintro e w1 ⟨rfl, hb1⟩
  have hE1 := hE.keep hb1
  have hz1 := hz.keep hb1
  go_wp2_with fail
  go_at_call 22
  refine (parse_any s w1 hE1).mono ?_
  rintro e w2 ⟨hp, hb2⟩
  have hE2 := hE1.keep hb2
  have hz2 := hz1.keep hb2
  have HB2 := hide (hb1.trans (hb2.mono hb1.size))
  clear hb1 hb2 hE hE1 hz hz1
  cases hpar : X.parse s.data.toList with
  | inl n =>
    rw [hpar] at hp
    have hp' : e = .returned (.tuple #[.pointer none, .int .i64 n]) := hp
    subst hp'
    rcases parse_err hpar with rfl | rfl
    all_goals
      go_wp2_with fail
      go_ret
      exact ⟨rfl, HB2.out⟩
  | inr S =>
    rw [hpar] at hp
    obtain ⟨g, rfl, hX, _⟩ := hp
    obtain ⟨q0, q1⟩ := pickV_in t 4611686018427387904 (by decide)
    have HP := hide (pick_any t 4611686018427387904 h1 h2 (by decide) (by decide))
    clear hpar
    generalize pickV t 4611686018427387904 = p at *
    clear h1 h2
    go_wp2_with fail
    go_at_call 23
    refine (HP.out _).mono ?_
    rintro e w3 ⟨rfl, rfl⟩
    clear HP
    go_wp2_with fail
    go_at_call 16
    refine (next_any g S p _ hE2 hX).mono ?_
    rintro e w3 ⟨nx, b, rfl, hN, hb3⟩
    have hE3 := hE2.keep hb3
    have hX3 := hX.keep hb3
    have hz3 := hz2.keep hb3
    have HB3 := hide (HB2.out.trans (hb3.mono HB2.out.size))
    clear hE2 hX hb3 HB2 hz2
    obtain ⟨n0, n1⟩ := X.isNext_bounds hN
    cases b
    · have HEnd : Hid (∀ u, p < u → u < 4611686018427387905 → ¬ X.Mat S u) := by
        rcases hN with ⟨hf, _⟩ | ⟨_, _, h3⟩
        · cases hf
        · exact fun u u1 _ => h3 u u1
      clear hN
      go_wp2_with fail
      have hend : Hid (∀ u, p < u → u < 4611686018427387905 → ¬ X.Mat S u) := HEnd.out
      have HZ := hide hz3
      have HE := hide hE3
      have HX := hide hX3
      clear hz3 hE3 hX3
      go_loopw [16] (fun x wx => ∃ i : Nat, x = .int .i64 i ∧ i ≤ n ∧ Below w3.heap.size w3 wx) (fun x _ => n - (intOf x).toNat)
      case atStart => exact ⟨0, rfl, by omega, Below.refl _ _⟩
      case round =>
        obtain ⟨i, rfl, hi, hbx⟩ := hrel
        have hEx := HE.out.keep hbx
        have hXx := HX.out.keep hbx
        have HBx := hide (HB3.out.trans (hbx.mono HB3.out.size))
        have hn17 := HZ.out.1
        by_cases hlt : i < n
        · obtain ⟨gz, off, rfl, hcz⟩ : ∃ b off, a = some ⟨b, off, none⟩ ∧ ∀ i, i < n → w3.cell? ⟨b, off + i, none⟩ = some (.int .i64 (z.getD i 0)) ∧ -9223372036854775808 ≤ z.getD i 0 ∧ z.getD i 0 ≤ 9223372036854775807 := by
            rcases HZ.out.2 with h | h
            · omega
            · exact h
          obtain ⟨cz, z1, z2⟩ := hcz i hlt
          have czx : wr.cell? ⟨gz, off + i, none⟩ = some (.int .i64 (z.getD i 0)) := by rw [hbx.cell (p := ⟨gz, off + i, none⟩) (World.block_lt_of_cell? _ _ cz)]; exact cz
          clear cz hcz
          generalize z.getD i 0 = zi at *
          have i0 : (i : Int) < n := by omega
          have i1 : (0 : Int) ≤ (i : Int) := by omega
          obtain ⟨mx, hmx⟩ : ∃ mx, max 1 (4611686018427387905 - p - 1) = mx := ⟨_, rfl⟩
          have hm1 : 1 ≤ mx ∧ mx ≤ 4611686018427387905 := by omega
          obtain ⟨v0, v1⟩ := pickV_in zi mx (by omega)
          have HPk := hide (pick_any zi mx z1 z2 (by omega) (by omega))
          generalize pickV zi mx = pv at *
          have hpv : p + 1 + pv < 4611686018427387905 ∨ 4611686018427387905 ≤ p + 1 + pv := by omega
          have hw1 : p + 1 + pv ≤ 9223372036854775807 := by omega
          go_wp2_with fail
          go_at_call 23
          refine (HPk.out _).mono ?_
          rintro e w' ⟨rfl, rfl⟩
          by_cases hge : 4611686018427387905 ≤ p + 1 + pv
          · go_wp2_with fail
            go_at_call 17
            refine (last_any g S p _ hEx hXx).mono ?_
            rintro e wl ⟨l, bl, rfl, hL, hbl⟩
            have hEl := hEx.keep hbl
            have hXl := hXx.keep hbl
            have HBl := hide (HBx.out.trans (hbl.mono HBx.out.size))
            clear hbl
            cases bl
            · rcases hL with ⟨hf, _⟩ | ⟨_, rfl, _⟩
              · cases hf
              · go_wp2_with fail
                go_ret
                exact ⟨rfl, HBl.out⟩
            · rcases hL with ⟨_, m1, m2, _⟩ | ⟨hf, _⟩
              · have l0 := m2.1
                go_wp2_with fail
                go_at_call 14
                refine (matches_any g S l _ hEl hXl).mono ?_
                rintro e wm ⟨rfl, hbm⟩
                rw [X.matB_yes m2]
                have hEm := hEl.keep hbm
                have hXm := hXl.keep hbm
                have HBm := hide (HBl.out.trans (hbm.mono HBl.out.size))
                clear hbm
                go_wp2_with fail
                go_at_call 16
                refine (next_any g S _ _ hEm hXm).mono ?_
                rintro e wn ⟨k, bk, rfl, hK, hbn⟩
                obtain ⟨rfl, rfl⟩ := hK.uniq (.inl ⟨rfl, by omega, m2, fun u u1 u2 => by omega⟩)
                have HBn := hide (HBm.out.trans (hbn.mono HBm.out.size))
                clear hbn
                go_wp2_with fail
                go_ret
                exact ⟨by simp, HBn.out⟩
              · cases hf
          · go_wp2_with fail
            go_at_call 14
            refine (matches_any g S _ _ hEx hXx).mono ?_
            rintro e wa ⟨rfl, hba⟩
            rw [X.matB_no (hend.out _ (by omega) (by omega))]
            have hEa := hEx.keep hba
            have hXa := hXx.keep hba
            have hBa := hbx.trans (hba.mono hbx.size)
            clear hba
            go_wp2_with fail
            go_at_call 14
            refine (matches_any g S _ _ hEa hXa).mono ?_
            rintro e wb ⟨rfl, hbb⟩
            have hBb := hBa.trans (hbb.mono hBa.size)
            clear hbb
            generalize hat : p + 1 + pv = at_ at *
            have hfl : at_ - at_ % 60 ≤ at_ := by omega
            by_cases hup : p < at_ - at_ % 60
            · have hno : X.matB S (at_ - at_ % 60) = false := X.matB_no (hend.out _ hup (by omega))
              rw [hno]
              go_wp2_with fail
              exact ⟨⟨i + 1, by go_num, by omega, hBb⟩, by simp [intOf]; omega⟩
            · cases hmb : X.matB S (at_ - at_ % 60)
              all_goals
                go_wp2_with fail
                exact ⟨⟨i + 1, by go_num, by omega, hBb⟩, by simp [intOf]; omega⟩
        · go_wp2_with fail
          go_at_call 17
          refine (last_any g S p _ hEx hXx).mono ?_
          rintro e wl ⟨l, bl, rfl, hL, hbl⟩
          have hEl := hEx.keep hbl
          have hXl := hXx.keep hbl
          have HBl := hide (HBx.out.trans (hbl.mono HBx.out.size))
          clear hbl
          cases bl
          · rcases hL with ⟨hf, _⟩ | ⟨_, rfl, _⟩
            · cases hf
            · go_wp2_with fail
              go_ret
              exact ⟨rfl, HBl.out⟩
          · rcases hL with ⟨_, m1, m2, _⟩ | ⟨hf, _⟩
            · have l0 := m2.1
              go_wp2_with fail
              go_at_call 14
              refine (matches_any g S l _ hEl hXl).mono ?_
              rintro e wm ⟨rfl, hbm⟩
              rw [X.matB_yes m2]
              have hEm := hEl.keep hbm
              have hXm := hXl.keep hbm
              have HBm := hide (HBl.out.trans (hbm.mono HBl.out.size))
              clear hbm
              go_wp2_with fail
              go_at_call 16
              refine (next_any g S _ _ hEm hXm).mono ?_
              rintro e wn ⟨k, bk, rfl, hK, hbn⟩
              obtain ⟨rfl, rfl⟩ := hK.uniq (.inl ⟨rfl, by omega, m2, fun u u1 u2 => by omega⟩)
              have HBn := hide (HBm.out.trans (hbn.mono HBm.out.size))
              clear hbn
              go_wp2_with fail
              go_ret
              exact ⟨by simp, HBn.out⟩
            · cases hf
    · obtain ⟨_, k1, k2, k3⟩ | ⟨hf, _⟩ := hN
      · go_wp2_with fail
        go_at_call 14
        refine (matches_any g S nx _ hE3 hX3).mono ?_
        rintro e w4 ⟨rfl, hb4⟩
        rw [X.matB_yes k2]
        have hE4 := hE3.keep hb4
        have hX4 := hX3.keep hb4
        have hz4 := hz3.keep hb4
        have HB4 := hide (HB3.out.trans (hb4.mono HB3.out.size))
        clear hE3 hX3 hb4 HB3 hz3
        go_wp2_with fail
        go_at_call 17
        refine (last_any g S nx _ hE4 hX4).mono ?_
        rintro e w5 ⟨l1, b1, rfl, hL, hb5⟩
        obtain ⟨e1, rfl⟩ := hL.uniq (.inl ⟨rfl, Int.le_refl _, k2, fun u u1 u2 => by omega⟩)
        have e2 := e1.symm
        subst e2
        have hE5 := hE4.keep hb5
        have hX5 := hX4.keep hb5
        have hz5 := hz4.keep hb5
        have HB5 := hide (HB4.out.trans (hb5.mono HB4.out.size))
        clear hE4 hX4 hb5 HB4 hz4 hL
        go_wp2_with fail
        go_at_call 17
        refine (last_any g S _ _ hE5 hX5).mono ?_
        rintro e w6 ⟨l2, b2, rfl, hL, hb6⟩
        have hE6 := hE5.keep hb6
        have hX6 := hX5.keep hb6
        have hz6 := hz5.keep hb6
        have HB6 := hide (HB5.out.trans (hb6.mono HB5.out.size))
        clear hE5 hX5 hb6 HB5 hz5
        have hl2 : b2 = true → l2 ≤ p := by
          rintro rfl
          rcases hL with ⟨_, m1, m2, _⟩ | ⟨hf, _⟩
          · by_cases hx : l2 ≤ p
            · exact hx
            · exact absurd m2 (k3 l2 (by omega) (by omega))
          · cases hf
        clear hL
        have HEnd : Hid (∀ u, p < u → u < nx → ¬ X.Mat S u) := k3
        clear k3 k2
        cases b2
        · go_wp2_with fail
          have hend : Hid (∀ u, p < u → u < nx → ¬ X.Mat S u) := HEnd.out
          have HZ := hide hz6
          have HE := hide hE6
          have HX := hide hX6
          clear hz6 hE6 hX6
          go_loopw [16] (fun x wx => ∃ i : Nat, x = .int .i64 i ∧ i ≤ n ∧ Below w6.heap.size w6 wx) (fun x _ => n - (intOf x).toNat)
          case atStart => exact ⟨0, rfl, by omega, Below.refl _ _⟩
          case round =>
            obtain ⟨i, rfl, hi, hbx⟩ := hrel
            have hEx := HE.out.keep hbx
            have hXx := HX.out.keep hbx
            have HBx := hide (HB6.out.trans (hbx.mono HB6.out.size))
            have hn17 := HZ.out.1
            by_cases hlt : i < n
            · obtain ⟨gz, off, rfl, hcz⟩ : ∃ b off, a = some ⟨b, off, none⟩ ∧ ∀ i, i < n → w6.cell? ⟨b, off + i, none⟩ = some (.int .i64 (z.getD i 0)) ∧ -9223372036854775808 ≤ z.getD i 0 ∧ z.getD i 0 ≤ 9223372036854775807 := by
                rcases HZ.out.2 with h | h
                · omega
                · exact h
              obtain ⟨cz, z1, z2⟩ := hcz i hlt
              have czx : wr.cell? ⟨gz, off + i, none⟩ = some (.int .i64 (z.getD i 0)) := by rw [hbx.cell (p := ⟨gz, off + i, none⟩) (World.block_lt_of_cell? _ _ cz)]; exact cz
              clear cz hcz
              generalize z.getD i 0 = zi at *
              have i0 : (i : Int) < n := by omega
              have i1 : (0 : Int) ≤ (i : Int) := by omega
              obtain ⟨mx, hmx⟩ : ∃ mx, max 1 (nx - p - 1) = mx := ⟨_, rfl⟩
              have hm1 : 1 ≤ mx ∧ mx ≤ 4611686018427387905 := by omega
              obtain ⟨v0, v1⟩ := pickV_in zi mx (by omega)
              have HPk := hide (pick_any zi mx z1 z2 (by omega) (by omega))
              generalize pickV zi mx = pv at *
              have hpv : p + 1 + pv < nx ∨ nx ≤ p + 1 + pv := by omega
              have hw1 : p + 1 + pv ≤ 9223372036854775807 := by omega
              go_wp2_with fail
              go_at_call 23
              refine (HPk.out _).mono ?_
              rintro e w' ⟨rfl, rfl⟩
              by_cases hge : nx ≤ p + 1 + pv
              · go_wp2_with fail
                go_at_call 17
                refine (last_any g S p _ hEx hXx).mono ?_
                rintro e wl ⟨l, bl, rfl, hL, hbl⟩
                have hEl := hEx.keep hbl
                have hXl := hXx.keep hbl
                have HBl := hide (HBx.out.trans (hbl.mono HBx.out.size))
                clear hbl
                cases bl
                · rcases hL with ⟨hf, _⟩ | ⟨_, rfl, _⟩
                  · cases hf
                  · go_wp2_with fail
                    go_ret
                    exact ⟨rfl, HBl.out⟩
                · rcases hL with ⟨_, m1, m2, _⟩ | ⟨hf, _⟩
                  · have l0 := m2.1
                    go_wp2_with fail
                    go_at_call 14
                    refine (matches_any g S l _ hEl hXl).mono ?_
                    rintro e wm ⟨rfl, hbm⟩
                    rw [X.matB_yes m2]
                    have hEm := hEl.keep hbm
                    have hXm := hXl.keep hbm
                    have HBm := hide (HBl.out.trans (hbm.mono HBl.out.size))
                    clear hbm
                    go_wp2_with fail
                    go_at_call 16
                    refine (next_any g S _ _ hEm hXm).mono ?_
                    rintro e wn ⟨k, bk, rfl, hK, hbn⟩
                    obtain ⟨rfl, rfl⟩ := hK.uniq (.inl ⟨rfl, by omega, m2, fun u u1 u2 => by omega⟩)
                    have HBn := hide (HBm.out.trans (hbn.mono HBm.out.size))
                    clear hbn
                    go_wp2_with fail
                    go_ret
                    exact ⟨by simp, HBn.out⟩
                  · cases hf
              · go_wp2_with fail
                go_at_call 14
                refine (matches_any g S _ _ hEx hXx).mono ?_
                rintro e wa ⟨rfl, hba⟩
                rw [X.matB_no (hend.out _ (by omega) (by omega))]
                have hEa := hEx.keep hba
                have hXa := hXx.keep hba
                have hBa := hbx.trans (hba.mono hbx.size)
                clear hba
                go_wp2_with fail
                go_at_call 14
                refine (matches_any g S _ _ hEa hXa).mono ?_
                rintro e wb ⟨rfl, hbb⟩
                have hBb := hBa.trans (hbb.mono hBa.size)
                clear hbb
                generalize hat : p + 1 + pv = at_ at *
                have hfl : at_ - at_ % 60 ≤ at_ := by omega
                by_cases hup : p < at_ - at_ % 60
                · have hno : X.matB S (at_ - at_ % 60) = false := X.matB_no (hend.out _ hup (by omega))
                  rw [hno]
                  go_wp2_with fail
                  exact ⟨⟨i + 1, by go_num, by omega, hBb⟩, by simp [intOf]; omega⟩
                · cases hmb : X.matB S (at_ - at_ % 60)
                  all_goals
                    go_wp2_with fail
                    exact ⟨⟨i + 1, by go_num, by omega, hBb⟩, by simp [intOf]; omega⟩
            · go_wp2_with fail
              go_at_call 17
              refine (last_any g S p _ hEx hXx).mono ?_
              rintro e wl ⟨l, bl, rfl, hL, hbl⟩
              have hEl := hEx.keep hbl
              have hXl := hXx.keep hbl
              have HBl := hide (HBx.out.trans (hbl.mono HBx.out.size))
              clear hbl
              cases bl
              · rcases hL with ⟨hf, _⟩ | ⟨_, rfl, _⟩
                · cases hf
                · go_wp2_with fail
                  go_ret
                  exact ⟨rfl, HBl.out⟩
              · rcases hL with ⟨_, m1, m2, _⟩ | ⟨hf, _⟩
                · have l0 := m2.1
                  go_wp2_with fail
                  go_at_call 14
                  refine (matches_any g S l _ hEl hXl).mono ?_
                  rintro e wm ⟨rfl, hbm⟩
                  rw [X.matB_yes m2]
                  have hEm := hEl.keep hbm
                  have hXm := hXl.keep hbm
                  have HBm := hide (HBl.out.trans (hbm.mono HBl.out.size))
                  clear hbm
                  go_wp2_with fail
                  go_at_call 16
                  refine (next_any g S _ _ hEm hXm).mono ?_
                  rintro e wn ⟨k, bk, rfl, hK, hbn⟩
                  obtain ⟨rfl, rfl⟩ := hK.uniq (.inl ⟨rfl, by omega, m2, fun u u1 u2 => by omega⟩)
                  have HBn := hide (HBm.out.trans (hbn.mono HBm.out.size))
                  clear hbn
                  go_wp2_with fail
                  go_ret
                  exact ⟨by simp, HBn.out⟩
                · cases hf
        · have hl3 := hl2 rfl
          go_wp2_with fail
          have hend : Hid (∀ u, p < u → u < nx → ¬ X.Mat S u) := HEnd.out
          have HZ := hide hz6
          have HE := hide hE6
          have HX := hide hX6
          clear hz6 hE6 hX6
          go_loopw [16] (fun x wx => ∃ i : Nat, x = .int .i64 i ∧ i ≤ n ∧ Below w6.heap.size w6 wx) (fun x _ => n - (intOf x).toNat)
          case atStart => exact ⟨0, rfl, by omega, Below.refl _ _⟩
          case round =>
            obtain ⟨i, rfl, hi, hbx⟩ := hrel
            have hEx := HE.out.keep hbx
            have hXx := HX.out.keep hbx
            have HBx := hide (HB6.out.trans (hbx.mono HB6.out.size))
            have hn17 := HZ.out.1
            by_cases hlt : i < n
            · obtain ⟨gz, off, rfl, hcz⟩ : ∃ b off, a = some ⟨b, off, none⟩ ∧ ∀ i, i < n → w6.cell? ⟨b, off + i, none⟩ = some (.int .i64 (z.getD i 0)) ∧ -9223372036854775808 ≤ z.getD i 0 ∧ z.getD i 0 ≤ 9223372036854775807 := by
                rcases HZ.out.2 with h | h
                · omega
                · exact h
              obtain ⟨cz, z1, z2⟩ := hcz i hlt
              have czx : wr.cell? ⟨gz, off + i, none⟩ = some (.int .i64 (z.getD i 0)) := by rw [hbx.cell (p := ⟨gz, off + i, none⟩) (World.block_lt_of_cell? _ _ cz)]; exact cz
              clear cz hcz
              generalize z.getD i 0 = zi at *
              have i0 : (i : Int) < n := by omega
              have i1 : (0 : Int) ≤ (i : Int) := by omega
              obtain ⟨mx, hmx⟩ : ∃ mx, max 1 (nx - p - 1) = mx := ⟨_, rfl⟩
              have hm1 : 1 ≤ mx ∧ mx ≤ 4611686018427387905 := by omega
              obtain ⟨v0, v1⟩ := pickV_in zi mx (by omega)
              have HPk := hide (pick_any zi mx z1 z2 (by omega) (by omega))
              generalize pickV zi mx = pv at *
              have hpv : p + 1 + pv < nx ∨ nx ≤ p + 1 + pv := by omega
              have hw1 : p + 1 + pv ≤ 9223372036854775807 := by omega
              go_wp2_with fail
              go_at_call 23
              refine (HPk.out _).mono ?_
              rintro e w' ⟨rfl, rfl⟩
              by_cases hge : nx ≤ p + 1 + pv
              · go_wp2_with fail
                go_at_call 17
                refine (last_any g S p _ hEx hXx).mono ?_
                rintro e wl ⟨l, bl, rfl, hL, hbl⟩
                have hEl := hEx.keep hbl
                have hXl := hXx.keep hbl
                have HBl := hide (HBx.out.trans (hbl.mono HBx.out.size))
                clear hbl
                cases bl
                · rcases hL with ⟨hf, _⟩ | ⟨_, rfl, _⟩
                  · cases hf
                  · go_wp2_with fail
                    go_ret
                    exact ⟨rfl, HBl.out⟩
                · rcases hL with ⟨_, m1, m2, _⟩ | ⟨hf, _⟩
                  · have l0 := m2.1
                    go_wp2_with fail
                    go_at_call 14
                    refine (matches_any g S l _ hEl hXl).mono ?_
                    rintro e wm ⟨rfl, hbm⟩
                    rw [X.matB_yes m2]
                    have hEm := hEl.keep hbm
                    have hXm := hXl.keep hbm
                    have HBm := hide (HBl.out.trans (hbm.mono HBl.out.size))
                    clear hbm
                    go_wp2_with fail
                    go_at_call 16
                    refine (next_any g S _ _ hEm hXm).mono ?_
                    rintro e wn ⟨k, bk, rfl, hK, hbn⟩
                    obtain ⟨rfl, rfl⟩ := hK.uniq (.inl ⟨rfl, by omega, m2, fun u u1 u2 => by omega⟩)
                    have HBn := hide (HBm.out.trans (hbn.mono HBm.out.size))
                    clear hbn
                    go_wp2_with fail
                    go_ret
                    exact ⟨by simp, HBn.out⟩
                  · cases hf
              · go_wp2_with fail
                go_at_call 14
                refine (matches_any g S _ _ hEx hXx).mono ?_
                rintro e wa ⟨rfl, hba⟩
                rw [X.matB_no (hend.out _ (by omega) (by omega))]
                have hEa := hEx.keep hba
                have hXa := hXx.keep hba
                have hBa := hbx.trans (hba.mono hbx.size)
                clear hba
                go_wp2_with fail
                go_at_call 14
                refine (matches_any g S _ _ hEa hXa).mono ?_
                rintro e wb ⟨rfl, hbb⟩
                have hBb := hBa.trans (hbb.mono hBa.size)
                clear hbb
                generalize hat : p + 1 + pv = at_ at *
                have hfl : at_ - at_ % 60 ≤ at_ := by omega
                by_cases hup : p < at_ - at_ % 60
                · have hno : X.matB S (at_ - at_ % 60) = false := X.matB_no (hend.out _ hup (by omega))
                  rw [hno]
                  go_wp2_with fail
                  exact ⟨⟨i + 1, by go_num, by omega, hBb⟩, by simp [intOf]; omega⟩
                · cases hmb : X.matB S (at_ - at_ % 60)
                  all_goals
                    go_wp2_with fail
                    exact ⟨⟨i + 1, by go_num, by omega, hBb⟩, by simp [intOf]; omega⟩
            · go_wp2_with fail
              go_at_call 17
              refine (last_any g S p _ hEx hXx).mono ?_
              rintro e wl ⟨l, bl, rfl, hL, hbl⟩
              have hEl := hEx.keep hbl
              have hXl := hXx.keep hbl
              have HBl := hide (HBx.out.trans (hbl.mono HBx.out.size))
              clear hbl
              cases bl
              · rcases hL with ⟨hf, _⟩ | ⟨_, rfl, _⟩
                · cases hf
                · go_wp2_with fail
                  go_ret
                  exact ⟨rfl, HBl.out⟩
              · rcases hL with ⟨_, m1, m2, _⟩ | ⟨hf, _⟩
                · have l0 := m2.1
                  go_wp2_with fail
                  go_at_call 14
                  refine (matches_any g S l _ hEl hXl).mono ?_
                  rintro e wm ⟨rfl, hbm⟩
                  rw [X.matB_yes m2]
                  have hEm := hEl.keep hbm
                  have hXm := hXl.keep hbm
                  have HBm := hide (HBl.out.trans (hbm.mono HBl.out.size))
                  clear hbm
                  go_wp2_with fail
                  go_at_call 16
                  refine (next_any g S _ _ hEm hXm).mono ?_
                  rintro e wn ⟨k, bk, rfl, hK, hbn⟩
                  obtain ⟨rfl, rfl⟩ := hK.uniq (.inl ⟨rfl, by omega, m2, fun u u1 u2 => by omega⟩)
                  have HBn := hide (HBm.out.trans (hbn.mono HBm.out.size))
                  clear hbn
                  go_wp2_with fail
                  go_ret
                  exact ⟨by simp, HBn.out⟩
                · cases hf
      · cases hf
end Go.Proofs.YtjoigomjdgkfhaaDoor
