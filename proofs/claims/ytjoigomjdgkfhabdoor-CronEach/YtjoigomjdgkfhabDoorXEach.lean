/- CronEach: the walk. -/
import Derived.Test.YtjoigomjdgkfhabDoorXFacts
import Derived.Laws.AppendOwn
import Derived.Laws.OwnMore
import Derived.OwnWalk
import Derived.Deep.OwnRows
namespace Go.Proofs.YtjoigomjdgkfhabDoor
open Go.RowKit

theorem info_int : (Tryd.prog.info? 3).map (fun i => (i.zero, i.size, i.bytes)) = some (some (.int .i64 0), 1, 8) := by kernel_rfl
/-- Times that follow one another: each is the next behind the one ahead of it. -/
def Chain (S : X.Sets) (t : Int) : List Int → Prop
  | [] => True
  | k :: r => X.IsNext S t k true ∧ Chain S k r
/-- The same, the last one first. -/
def Back (S : X.Sets) (t : Int) : List Int → Prop
  | [] => True
  | [k] => X.IsNext S t k true
  | k :: j :: r => X.IsNext S j k true ∧ Back S t (j :: r)
def ints (l : List Int) : List Value := l.map (Value.int .i64)
def headD (t : Int) (l : List Int) : Int := l.headD t
theorem back_step {S : X.Sets} {t k : Int} {l : List Int} (h : Back S t l) (hn : X.IsNext S (headD t l) k true) : Back S t (k :: l) := by
  cases l with
  | nil => exact hn
  | cons j r => exact ⟨hn, h⟩
theorem back_cons {S : X.Sets} {t k : Int} {l : List Int} (h : Back S t (k :: l)) : X.IsNext S (headD t l) k true ∧ Back S t l := by
  cases l with
  | nil => exact ⟨h, trivial⟩
  | cons j r => exact h
/-- Last up to just ahead of a time that is next behind j is what Last of j is. -/
theorem last_of_next {S : X.Sets} {j k : Int} (hn : X.IsNext S j k true) : X.IsLast S k k true := by
  rcases hn with ⟨_, h1, h2, _⟩ | ⟨h, _⟩
  · exact .inl ⟨rfl, Int.le_refl _, h2, fun u u1 u2 => by omega⟩
  · cases h
theorem last_ahead {S : X.Sets} {j k l : Int} {b : Bool} (hn : X.IsNext S j k true) (hl : X.IsLast S (k - 1) l b) (hj : X.Mat S j) : l = j ∧ b = true := by
  rcases hn with ⟨_, h1, h2, h3⟩ | ⟨h, _⟩
  · exact hl.uniq (.inl ⟨rfl, by omega, hj, fun u u1 u2 => h3 u u1 (by omega)⟩)
  · cases h
theorem last_start {S : X.Sets} {t k l : Int} {b : Bool} (hn : X.IsNext S t k true) (hl : X.IsLast S (k - 1) l b) : b = false ∨ l ≤ t := by
  rcases hn with ⟨_, h1, h2, h3⟩ | ⟨h, _⟩
  · rcases hl with ⟨_, m1, m2, _⟩ | ⟨h, _⟩
    · by_cases hx : l ≤ t
      · exact .inr hx
      · exact absurd m2 (h3 l (by omega) (by omega))
    · exact .inl h
  · cases h
/-- What the way back rests on. -/
def Good (S : X.Sets) (p at_ : Int) : List Int → Prop
  | [] => at_ = p ∨ ∃ k, X.IsNext S p k true ∧ at_ = k - 1
  | q :: _ => X.IsLast S at_ q true
theorem mat_of_next {S : X.Sets} {j k : Int} (h : X.IsNext S j k true) : X.Mat S k ∧ j < k ∧ ∀ u, j < u → u < k → ¬ X.Mat S u := by
  rcases h with ⟨_, h1, h2, h3⟩ | ⟨h, _⟩
  · exact ⟨h2, h1, h3⟩
  · cases h
theorem good_start {S : X.Sets} {p : Int} {R : List Int} (h : Back S p R) : Good S p (headD p R) R := by
  cases R with
  | nil => exact .inl rfl
  | cons k l => exact last_of_next (back_cons h).1
theorem good_step {S : X.Sets} {p q : Int} {Q : List Int} (h : Back S p (q :: Q)) : Back S p Q ∧ Good S p (q - 1) Q := by
  obtain ⟨h1, h2⟩ := back_cons h
  refine ⟨h2, ?_⟩
  cases Q with
  | nil => exact .inr ⟨q, h1, rfl⟩
  | cons j r =>
    obtain ⟨m1, m2, m3⟩ := mat_of_next h1
    obtain ⟨n1, _, _⟩ := mat_of_next (back_cons h2).1
    exact .inl ⟨rfl, by show j ≤ q - 1; have : headD p (j :: r) = j := rfl; omega, n1, fun u u1 u2 => m3 u u1 (by omega)⟩
theorem good_end {S : X.Sets} {p at_ l : Int} {b : Bool} (h : Good S p at_ []) (hl : X.IsLast S at_ l b) : b = false ∨ l ≤ p := by
  rcases h with rfl | ⟨k, hk, rfl⟩
  · rcases hl with ⟨_, m1, _⟩ | ⟨h, _⟩
    · exact .inr m1
    · exact .inl h
  · exact last_start hk hl
theorem ownsRow_keep {w w' : World} {base : Nat} {e : TypeId} {size : Nat} {v : Value} {n : Nat} {xs : List Value} (h : w.ownsRow base e size v n xs) (b : Below w.heap.size w w') : w'.ownsRow base e size v n xs := by
  obtain ⟨h1, h2⟩ := h
  refine ⟨h1, ?_⟩
  rcases h2 with h2 | ⟨g, cap, cur, a, c, d, f⟩
  · exact .inl h2
  · exact .inr ⟨g, cap, cur, a, c, by rw [b.block g (Array.getElem?_eq_some_iff.1 d).1]; exact d, f⟩
theorem headD_bounds {S : X.Sets} {p : Int} {R : List Int} (h : Back S p R) (h0 : 0 ≤ p) (h1 : p < 4611686018427387904) : 0 ≤ headD p R ∧ headD p R ≤ 4611686018427387904 := by
  cases R with
  | nil => exact ⟨h0, by show p ≤ _; omega⟩
  | cons k l => exact X.isNext_bounds (back_cons h).1
set_option maxRecDepth 100000 in
set_option maxHeartbeats 4000000 in
theorem each_walk (s : ByteArray) (t n : Int) (w : World) (hE : Env w) (h1 : -9223372036854775808 ≤ t) (h2 : t ≤ 9223372036854775807) (n1 : -9223372036854775808 ≤ n) (n2 : n ≤ 9223372036854775807) :
    Calls Tryd.prog 5 #[.string s, .int .i64 t, .int .i64 n] w fun e w' => e = .returned (.bool true) ∧ Below w.heap.size w w' := by
  obtain ⟨i0, hi, hz0, hz1, hz2⟩ := info_parts info_int
  go_enter Tryd.func5, Tryd.ntmps5
  go_wp2_with fail
  go_at_call 6
  refine (awake_any w hE).mono ?_
  rintro e w1 ⟨rfl, hb1⟩
  have hE1 := hE.keep hb1
  go_wp2_with fail
  go_at_call 7
  refine (parse_any s w1 hE1).mono ?_
  rintro e w2 ⟨hp, hb2⟩
  have hE2 := hE1.keep hb2
  have HB2 := hide (hb1.trans (hb2.mono hb1.size))
  clear hb1 hb2 hE hE1
  cases hpar : X.parse s.data.toList with
  | inl n =>
    rw [hpar] at hp
    have hp' : e = .returned (.tuple #[.pointer none, .int .i64 n]) := hp
    subst hp'
    rcases parse_err hpar with rfl | rfl
    all_goals
      go_wp2_with fail
      go_ret
      exact ⟨rfl, HB2.out⟩
  | inr S =>
    rw [hpar] at hp
    obtain ⟨g, rfl, hX, _⟩ := hp
    obtain ⟨q0, q1⟩ := pickV_in t 4611686018427387904 (by decide)
    have HP := hide (pick_any t 4611686018427387904 h1 h2 (by decide) (by decide))
    obtain ⟨r0, r1⟩ := pickV_in n 20 (by decide)
    have HQ := hide (pick_any n 20 n1 n2 (by decide) (by decide))
    clear hpar h1 h2 n1 n2
    generalize pickV t 4611686018427387904 = p at *
    generalize pickV n 20 = m at *
    go_wp2_with fail
    go_at_call 11
    refine (HP.out _).mono ?_
    rintro e w3 ⟨rfl, rfl⟩
    clear HP
    go_wp2_with fail
    go_at_call 11
    refine (HQ.out _).mono ?_
    rintro e w3 ⟨rfl, rfl⟩
    clear HQ
    go_wp2_with fail
    have HE0 := hide hE2
    have HX0 := hide hX
    clear hE2 hX
    go_loopw [10, 11, 12] (fun v y i' wx => ∃ R : List Int, y = .int .i64 (headD p R) ∧ i' = .int .i64 (R.length : Int) ∧ (R.length : Int) ≤ m ∧ Hid (Back S p R) ∧ wx.ownsRow w3.heap.size 3 1 v R.length (ints R.reverse) ∧ Below w3.heap.size w3 wx) (fun _ _ i' _ => (20 - intOf i').toNat)
    case atStart => exact ⟨[], rfl, rfl, by simpa using r0, trivial, World.ownsRow_nil _ _ _ _, Below.refl _ _⟩
    case round =>
      obtain ⟨R, rfl, rfl, hRm, HBack, hown, hbw⟩ := hrel
      have hEw := HE0.out.keep hbw
      have hXw := HX0.out.keep hbw
      have HBw := hide (HB2.out.trans (hbw.mono HB2.out.size))
      obtain ⟨y0, y1⟩ := headD_bounds HBack.out q0 q1
      by_cases hlt : (R.length : Int) < m
      · go_wp2_with fail
        go_at_call 15
        refine (next_any g S _ _ hEw hXw).mono ?_
        rintro e wx ⟨k, b, rfl, hN, hbx⟩
        have hEx := hEw.keep hbx
        have hXx := hXw.keep hbx
        have hownx := ownsRow_keep hown hbx
        have HBx := hide (HBw.out.trans (hbx.mono HBw.out.size))
        have hbwx := hbw.trans (hbx.mono hbw.size)
        clear hbx hown hEw hXw
        cases b
        · clear hN
          have HBk := HBack
          have hR20 : R.length ≤ 19 := by omega
          obtain ⟨ca, cc, rfl⟩ : ∃ a c, u10 = .slice a R.length c := by
            rcases hownx.2 with ⟨rfl, hn⟩ | ⟨g, cap, cur, k1, k2, k3⟩
            · exact ⟨none, 0, by rw [hn]⟩
            · exact ⟨_, _, k1⟩
          have hrow : ∀ j x, R.reverse[j]? = some x → ∃ b, ca = some ⟨b, 0, none⟩ ∧ wx.cell? ⟨b, j, none⟩ = some (.int .i64 x) := by
            intro j x hx
            have hj : j < R.length := by have := (List.getElem?_eq_some_iff.1 hx).1; simpa using this
            rcases hownx.2 with ⟨_, hn⟩ | ⟨g, cap, cur, k1, k2, k3⟩
            · omega
            · injection k1 with e1 e2 e3
              subst e1
              subst e3
              refine ⟨g, rfl, ?_⟩
              rw [World.ownsRow.cellAt hownx j (by omega)]
              unfold ints; rw [List.getElem?_map, hx]; rfl
          have HRow := hide hrow
          have HE2 := hide hEx
          have HX2 := hide hXx
          clear hrow
          go_wp2_with fail
          go_loopw [11, 16] (fun y i' wq => ∃ (D Q : List Int) (at_ : Int), y = .int .i64 at_ ∧ i' = .int .i64 ((Q.length : Int) - 1) ∧ Hid (R = D ++ Q) ∧ Q.length ≤ R.length ∧ Hid (Back S p Q ∧ Good S p at_ Q) ∧ -1 ≤ at_ ∧ at_ ≤ 4611686018427387904 ∧ Below wx.heap.size wx wq) (fun _ i' _ => (1 + intOf i').toNat)
          case atStart => exact ⟨[], R, headD p R, rfl, by go_num, (by show _ = _; rfl), by omega, ⟨HBk.out, good_start HBk.out⟩, by omega, by omega, Below.refl _ _⟩
          case round =>
            obtain ⟨D, Q, at_, rfl, rfl, HRQ, hQl, HG, a0, a1, hby⟩ := hrel
            have hEy := HE2.out.keep hby
            have hXy := HX2.out.keep hby
            have HBy := hide (HBx.out.trans (hby.mono HBx.out.size))
            cases Q with
            | cons q Q =>
              have hq : R.reverse[Q.length]? = some q := by
                rw [HRQ.out]
                simp
              obtain ⟨gb, hgb, hcb⟩ := HRow.out _ _ hq
              have hcy : wr.cell? ⟨gb, Q.length, none⟩ = some (.int .i64 q) := by rw [hby.cell (p := ⟨gb, Q.length, none⟩) (World.block_lt_of_cell? _ _ hcb)]; exact hcb
              subst hgb
              have hi0 : ((q :: Q).length : Int) - 1 = (Q.length : Int) := by simp
              rw [hi0]
              have hql : Q.length < R.length := by have : (q :: Q).length = Q.length + 1 := rfl; omega
              have i0 : (0 : Int) ≤ (Q.length : Int) := by omega
              have i1 : (Q.length : Int) < (R.length : Int) := by omega
              have hgood : X.IsLast S at_ q true := HG.out.2
              have hq1 := X.isLast_bounds hgood
              clear hcb hi0
              go_wp2_with fail
              go_at_call 16
              refine (last_any g S at_ _ hEy hXy).mono ?_
              rintro e wz ⟨k, bk, rfl, hK, hbz⟩
              obtain ⟨e1, rfl⟩ := hK.uniq hgood
              subst e1
              have hBz := hby.trans (hbz.mono hby.size)
              have hcz : wz.cell? ⟨gb, Q.length, none⟩ = some (.int .i64 k) := by rw [hbz.cell (p := ⟨gb, Q.length, none⟩) (World.block_lt_of_cell? _ _ hcy)]; exact hcy
              clear hbz hcy
              go_wp2_with fail
              refine ⟨⟨D ++ [k], Q, k - 1, rfl, by go_num, (by show _ = _; rw [HRQ.out]; simp), by omega, good_step HG.out.1, by omega, by omega, hBz⟩, by simp [intOf]; omega⟩
            | nil =>
              have hgd : Good S p at_ [] := HG.out.2
              go_wp2_with fail
              go_at_call 16
              refine (last_any g S at_ _ hEy hXy).mono ?_
              rintro e wz ⟨k, bk, rfl, hK, hbz⟩
              have hor := good_end hgd hK
              have HBz := hide (HBy.out.trans (hbz.mono HBy.out.size))
              clear hbz hK hgd
              cases bk
              · go_wp2_with fail
                go_ret
                exact ⟨rfl, HBz.out⟩
              · have hkp : k ≤ p := by
                  rcases hor with h | h
                  · cases h
                  · exact h
                go_wp2_with fail
                go_ret
                exact ⟨by simp, HBz.out⟩
        · obtain ⟨k1, k2, k3⟩ := mat_of_next hN
          have kb := X.isNext_bounds hN
          have HNk := hide hN
          clear hN k3
          go_wp2_with fail
          go_at_call 14
          refine (matches_any g S k _ hEx hXx).mono ?_
          rintro e wm ⟨rfl, hbm⟩
          rw [X.matB_yes k1]
          have hownm := ownsRow_keep hownx hbm
          have hbwm := hbwx.trans (hbm.mono hbwx.size)
          clear hbm hownx hEx hXx
          go_wp2_with (first
            | (at_builtin; refine wpList_append_own _ rfl _ _ 30 rfl w3.heap.size 3 i0 (.int .i64 0) 1 8 Tryd.underlying30 hi hz0 hz1 hz2 rfl (by decide) _ _ _ rfl (hownm.alloc _) ⟨wm.heap.size, 0, none⟩ 1 1 [.int .i64 k] rfl rfl (fun j u hj => by
                 match j, hj with
                 | 0, hj => simp at hj; subst hj; simp [Addr.add]
                 | j + 1, hj => simp at hj) (fun x hx => by simp at hx; subst hx; rfl) (by unfold maxLen; omega) (by omega) (by have := hbwm.size; simp; omega) ?_; intro v' w5 hown' hgrow3 hnil3
               have hbw3 : Below w3.heap.size w3 w5 := Below.grown (hbwm.alloc hbwm.size _) hgrow3 (by have := hbwm.size; simp; omega) (fun j hj => by have := (hownm.lt _ hj).1; omega)
               have HA3 : Aside (w5.ownsRow w3.heap.size 3 1 v' (R.length + 1) (ints R.reverse ++ [.int .i64 k]) ∧ Below w3.heap.size w3 w5) := ⟨hown', hbw3⟩
               clear hown' hgrow3 hnil3 hbw3))
          exact ⟨⟨k :: R, rfl, by go_num, by simp; omega, back_step HBack.out HNk.out, by simpa [ints] using HA3.out.1, HA3.out.2⟩, by simp [intOf]; omega⟩
      · skip
        have HBk := HBack
        have hR20 : R.length ≤ 19 := by omega
        obtain ⟨ca, cc, rfl⟩ : ∃ a c, u10 = .slice a R.length c := by
          rcases hown.2 with ⟨rfl, hn⟩ | ⟨g, cap, cur, k1, k2, k3⟩
          · exact ⟨none, 0, by rw [hn]⟩
          · exact ⟨_, _, k1⟩
        have hrow : ∀ j x, R.reverse[j]? = some x → ∃ b, ca = some ⟨b, 0, none⟩ ∧ wr.cell? ⟨b, j, none⟩ = some (.int .i64 x) := by
          intro j x hx
          have hj : j < R.length := by have := (List.getElem?_eq_some_iff.1 hx).1; simpa using this
          rcases hown.2 with ⟨_, hn⟩ | ⟨g, cap, cur, k1, k2, k3⟩
          · omega
          · injection k1 with e1 e2 e3
            subst e1
            subst e3
            refine ⟨g, rfl, ?_⟩
            rw [World.ownsRow.cellAt hown j (by omega)]
            unfold ints; rw [List.getElem?_map, hx]; rfl
        have HRow := hide hrow
        have HE2 := hide hEw
        have HX2 := hide hXw
        clear hrow
        go_wp2_with fail
        go_loopw [11, 16] (fun y i' wq => ∃ (D Q : List Int) (at_ : Int), y = .int .i64 at_ ∧ i' = .int .i64 ((Q.length : Int) - 1) ∧ Hid (R = D ++ Q) ∧ Q.length ≤ R.length ∧ Hid (Back S p Q ∧ Good S p at_ Q) ∧ -1 ≤ at_ ∧ at_ ≤ 4611686018427387904 ∧ Below wr.heap.size wr wq) (fun _ i' _ => (1 + intOf i').toNat)
        case atStart => exact ⟨[], R, headD p R, rfl, by go_num, (by show _ = _; rfl), by omega, ⟨HBk.out, good_start HBk.out⟩, by omega, by omega, Below.refl _ _⟩
        case round =>
          obtain ⟨D, Q, at_, rfl, rfl, HRQ, hQl, HG, a0, a1, hby⟩ := hrel
          have hEy := HE2.out.keep hby
          have hXy := HX2.out.keep hby
          have HBy := hide (HBw.out.trans (hby.mono HBw.out.size))
          cases Q with
          | cons q Q =>
            have hq : R.reverse[Q.length]? = some q := by
              rw [HRQ.out]
              simp
            obtain ⟨gb, hgb, hcb⟩ := HRow.out _ _ hq
            have hcy : wr.cell? ⟨gb, Q.length, none⟩ = some (.int .i64 q) := by rw [hby.cell (p := ⟨gb, Q.length, none⟩) (World.block_lt_of_cell? _ _ hcb)]; exact hcb
            subst hgb
            have hi0 : ((q :: Q).length : Int) - 1 = (Q.length : Int) := by simp
            rw [hi0]
            have hql : Q.length < R.length := by have : (q :: Q).length = Q.length + 1 := rfl; omega
            have i0 : (0 : Int) ≤ (Q.length : Int) := by omega
            have i1 : (Q.length : Int) < (R.length : Int) := by omega
            have hgood : X.IsLast S at_ q true := HG.out.2
            have hq1 := X.isLast_bounds hgood
            clear hcb hi0
            go_wp2_with fail
            go_at_call 16
            refine (last_any g S at_ _ hEy hXy).mono ?_
            rintro e wz ⟨k, bk, rfl, hK, hbz⟩
            obtain ⟨e1, rfl⟩ := hK.uniq hgood
            subst e1
            have hBz := hby.trans (hbz.mono hby.size)
            have hcz : wz.cell? ⟨gb, Q.length, none⟩ = some (.int .i64 k) := by rw [hbz.cell (p := ⟨gb, Q.length, none⟩) (World.block_lt_of_cell? _ _ hcy)]; exact hcy
            clear hbz hcy
            go_wp2_with fail
            refine ⟨⟨D ++ [k], Q, k - 1, rfl, by go_num, (by show _ = _; rw [HRQ.out]; simp), by omega, good_step HG.out.1, by omega, by omega, hBz⟩, by simp [intOf]; omega⟩
          | nil =>
            have hgd : Good S p at_ [] := HG.out.2
            go_wp2_with fail
            go_at_call 16
            refine (last_any g S at_ _ hEy hXy).mono ?_
            rintro e wz ⟨k, bk, rfl, hK, hbz⟩
            have hor := good_end hgd hK
            have HBz := hide (HBy.out.trans (hbz.mono HBy.out.size))
            clear hbz hK hgd
            cases bk
            · go_wp2_with fail
              go_ret
              exact ⟨rfl, HBz.out⟩
            · have hkp : k ≤ p := by
                rcases hor with h | h
                · cases h
                · exact h
              go_wp2_with fail
              go_ret
              exact ⟨by simp, HBz.out⟩
end Go.Proofs.YtjoigomjdgkfhabDoor
