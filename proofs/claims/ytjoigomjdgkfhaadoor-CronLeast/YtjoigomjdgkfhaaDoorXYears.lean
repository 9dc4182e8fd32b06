/- CronYears: the walk. -/
import Derived.Test.YtjoigomjdgkfhaaDoorXAwake
namespace Go.Proofs.YtjoigomjdgkfhaaDoor
open Go.RowKit

namespace X
theorem years_ok {S : Sets} {p n m : Int} {b c : Bool} (p0 : 0 ≤ p) (p1 : p < 2305843009213693952) (h : IsNext S p n b) (k : IsNext S (p + 12622780800) m c) :
    matB S p = matB S (p + 12622780800) ∧ b = c ∧ (b = true → m = n + 12622780800) := by
  refine ⟨?_, ?_⟩
  · have := mat_age (S := S) p0 (by omega)
    rw [Bool.eq_iff_iff, matB_iff, matB_iff]; exact this.symm
  · rcases h with ⟨rfl, h1, h2, h3⟩ | ⟨rfl, rfl, h3⟩
    · have hle : n ≤ p + 12622780800 := by
        by_cases x : n ≤ p + 12622780800
        · exact x
        · have hm := (mat_age (S := S) (t := n - 12622780800) (by omega) (by have := h2.2.1; omega)).1 (by rw [show n - 12622780800 + 12622780800 = n by omega]; exact h2)
          exact absurd hm (h3 _ (by omega) (by omega))
      have hm : Mat S (n + 12622780800) := (mat_age (by omega) (by omega)).2 h2
      have hk : IsNext S (p + 12622780800) (n + 12622780800) true := .inl ⟨rfl, by omega, hm, fun u u1 u2 ku => h3 (u - 12622780800) (by omega) (by omega) ((mat_age (S := S) (t := u - 12622780800) (by omega) (by have := ku.2.1; omega)).1 (by rw [show u - 12622780800 + 12622780800 = u by omega]; exact ku))⟩
      obtain ⟨e1, e2⟩ := k.uniq hk
      exact ⟨e2.symm, fun _ => e1⟩
    · rcases k with ⟨rfl, k1, k2, k3⟩ | ⟨rfl, rfl, k3⟩
      · exact absurd ((mat_age (S := S) (t := m - 12622780800) (by omega) (by have := k2.2.1; omega)).1 (by rw [show m - 12622780800 + 12622780800 = m by omega]; exact k2)) (h3 _ (by omega))
      · exact ⟨rfl, fun h => by cases h⟩
theorem isNext_bounds {S : Sets} {t n : Int} {b : Bool} (h : IsNext S t n b) : 0 ≤ n ∧ n ≤ 4611686018427387904 := by
  rcases h with ⟨_, _, h2, _⟩ | ⟨_, rfl, _⟩
  · exact ⟨h2.1, h2.2.1⟩
  · decide
theorem isLast_bounds {S : Sets} {t n : Int} {b : Bool} (h : IsLast S t n b) : 0 ≤ n ∧ n ≤ 4611686018427387904 := by
  rcases h with ⟨_, _, h2, _⟩ | ⟨_, rfl, _⟩
  · exact ⟨h2.1, h2.2.1⟩
  · decide
end X

set_option maxHeartbeats 2000000 in
theorem years_walk (s : ByteArray) (t : Int) (w : World) (hE : Env w) (h1 : -9223372036854775808 ≤ t) (h2 : t ≤ 9223372036854775807) :
    Calls Tryd.prog 8 #[.string s, .int .i64 t] w fun e w' => e = .returned (.bool true) ∧ Below w.heap.size w w' := by
  go_enter Tryd.func8, Tryd.ntmps8
  go_wp2_with fail
  go_at_call 9
  refine (awake_any w hE).mono ?_
  rintro e w1 ⟨rfl, hb1⟩
  have hE1 := hE.keep hb1
  go_wp2_with fail
  go_at_call 22
  refine (parse_any s w1 hE1).mono ?_
  rintro e w2 ⟨hp, hb2⟩
  have hE2 := hE1.keep hb2
  have HB2 := hide (hb1.trans (hb2.mono hb1.size))
  clear hb1 hb2 hE hE1
  cases hpar : X.parse s.data.toList with
  | inl n =>
    rw [hpar] at hp
    have hp' : e = .returned (.tuple #[.pointer none, .int .i64 n]) := hp
    subst hp'
    rcases parse_err hpar with rfl | rfl
    all_goals
      go_wp2_with fail
      go_ret
      exact ⟨rfl, HB2.out⟩
  | inr S =>
    rw [hpar] at hp
    obtain ⟨g, rfl, hX, _⟩ := hp
    obtain ⟨q0, q1⟩ := pickV_in t 2305843009213693952 (by decide)
    have HP := hide (pick_any t 2305843009213693952 h1 h2 (by decide) (by decide))
    clear hpar
    generalize pickV t 2305843009213693952 = p at *
    go_wp2_with fail
    go_at_call 23
    refine (HP.out _).mono ?_
    rintro e w3 ⟨rfl, rfl⟩
    go_wp2_with fail
    go_at_call 14
    refine (matches_any g S p _ hE2 hX).mono ?_
    rintro e w3 ⟨rfl, hb3⟩
    have hE3 := hE2.keep hb3
    have hX3 := hX.keep hb3
    have HB3 := hide (HB2.out.trans (hb3.mono HB2.out.size))
    clear hE2 hX hb3 HB2
    go_wp2_with fail
    go_at_call 14
    refine (matches_any g S _ _ hE3 hX3).mono ?_
    rintro e w4 ⟨rfl, hb4⟩
    have hE4 := hE3.keep hb4
    have hX4 := hX3.keep hb4
    have HB4 := hide (HB3.out.trans (hb4.mono HB3.out.size))
    clear hE3 hX3 hb4 HB3
    go_wp2_with fail
    go_at_call 16
    refine (next_any g S p _ hE4 hX4).mono ?_
    rintro e w5 ⟨n, b, rfl, hN, hb5⟩
    have hE5 := hE4.keep hb5
    have hX5 := hX4.keep hb5
    have HB5 := hide (HB4.out.trans (hb5.mono HB4.out.size))
    clear hE4 hX4 hb5 HB4
    go_wp2_with fail
    go_at_call 16
    refine (next_any g S _ _ hE5 hX5).mono ?_
    rintro e w6 ⟨m, c, rfl, hM, hb6⟩
    have HB6 := hide (HB5.out.trans (hb6.mono HB5.out.size))
    clear hE5 hX5 hb6 HB5
    obtain ⟨f1, rfl, f3⟩ := X.years_ok q0 q1 hN hM
    obtain ⟨n0, n1⟩ := X.isNext_bounds hN
    rw [f1]
    clear hN hM HP
    cases b
    · go_wp2_with fail
      go_ret
      exact ⟨by simp, HB6.out⟩
    · obtain rfl := f3 rfl
      go_wp2_with fail
      go_ret
      exact ⟨by simp, HB6.out⟩
end Go.Proofs.YtjoigomjdgkfhaaDoor
