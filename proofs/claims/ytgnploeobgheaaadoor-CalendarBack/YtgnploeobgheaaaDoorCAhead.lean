/- ahead: the order of dates, and that it is the order of times. -/
import Derived.Test.YtgnploeobgheaaaDoorCLift
namespace Go.Proofs.YtgnploeobgheaaaDoor
open Go.RowKit

namespace K
/-- One date ahead of another one. -/
def Lt (y m d h i s y' m' d' h' i' s' : Int) : Prop :=
  y < y' ∨ (y = y' ∧ (m < m' ∨ (m = m' ∧ (d < d' ∨ (d = d' ∧ (h < h' ∨ (h = h' ∧ (i < i' ∨ (i = i' ∧ s < s')))))))))
def LtB (y m d h i s y' m' d' h' i' s' : Int) : Bool := decide (y < y' ∨ (y = y' ∧ (m < m' ∨ (m = m' ∧ (d < d' ∨ (d = d' ∧ (h < h' ∨ (h = h' ∧ (i < i' ∨ (i = i' ∧ s < s'))))))))))

theorem secs_lt {y m d h i s y' m' d' h' i' s' : Int} (a : Ok y m d h i s) (b : Ok y' m' d' h' i' s') (hl : Lt y m d h i s y' m' d' h' i' s') : secs y m d h i s < secs y' m' d' h' i' s' := by
  obtain ⟨y0, m1, m2, d1, d2, h1, h2, i1, i2, s1, s2⟩ := a
  obtain ⟨y0', m1', m2', d1', d2', h1', h2', i1', i2', s1', s2'⟩ := b
  have c1 := cum_mono y (m + 1) 13 (by omega) (by omega) (by omega)
  rw [cum_end, cum_succ y m m1 m2] at c1
  have c2 := cum_mono y' 1 m' (by omega) m1' (by omega)
  rw [cum_one] at c2
  unfold secs
  rcases hl with hl | ⟨rfl, hl⟩
  · have e1 := ny_mono (show y + 1 ≤ y' by omega)
    rw [ny_succ] at e1
    omega
  · rcases hl with hl | ⟨rfl, hl⟩
    · have e1 := cum_mono y (m + 1) m' (by omega) (by omega) (by omega)
      rw [cum_succ y m m1 m2] at e1
      omega
    · omega

theorem lt_iff {y m d h i s y' m' d' h' i' s' : Int} (a : Ok y m d h i s) (b : Ok y' m' d' h' i' s') : Lt y m d h i s y' m' d' h' i' s' ↔ secs y m d h i s < secs y' m' d' h' i' s' := by
  refine ⟨secs_lt a b, fun hl => ?_⟩
  by_cases h1 : Lt y m d h i s y' m' d' h' i' s'
  · exact h1
  · by_cases h2 : Lt y' m' d' h' i' s' y m d h i s
    · have := secs_lt b a h2; omega
    · have : y = y' ∧ m = m' ∧ d = d' ∧ h = h' ∧ i = i' ∧ s = s' := by unfold Lt at h1 h2; omega
      obtain ⟨rfl, rfl, rfl, rfl, rfl, rfl⟩ := this
      omega
end K

theorem lt_at (y m d h i s y' m' d' h' i' s' : Int) (k : Nat) (hk : k < 6) (he : ∀ j, j < k → [y, m, d, h, i, s].getD j 0 = [y', m', d', h', i', s'].getD j 0) (hn : ¬ [y, m, d, h, i, s].getD k 0 = [y', m', d', h', i', s'].getD k 0) :
    decide ([y, m, d, h, i, s].getD k 0 < [y', m', d', h', i', s'].getD k 0) = K.LtB y m d h i s y' m' d' h' i' s' := by
  unfold K.LtB
  apply decide_eq_decide.2
  have e0 : 0 < k → y = y' := fun h => he 0 h
  have e1 : 1 < k → m = m' := fun h => he 1 h
  have e2 : 2 < k → d = d' := fun h => he 2 h
  have e3 : 3 < k → h = h' := fun h => he 3 h
  have e4 : 4 < k → i = i' := fun h => he 4 h
  obtain rfl | rfl | rfl | rfl | rfl | rfl : k = 0 ∨ k = 1 ∨ k = 2 ∨ k = 3 ∨ k = 4 ∨ k = 5 := by omega
  all_goals (simp at hn ⊢; omega)
theorem lt_end (y m d h i s y' m' d' h' i' s' : Int) (he : ∀ j, j < 6 → [y, m, d, h, i, s].getD j 0 = [y', m', d', h', i', s'].getD j 0) : K.LtB y m d h i s y' m' d' h' i' s' = false := by
  have e0 : y = y' := he 0 (by decide)
  have e1 : m = m' := he 1 (by decide)
  have e2 : d = d' := he 2 (by decide)
  have e3 : h = h' := he 3 (by decide)
  have e4 : i = i' := he 4 (by decide)
  have e5 : s = s' := he 5 (by decide)
  unfold K.LtB
  apply decide_eq_false
  omega
theorem belowDrewN {B : Nat} {a w : World} (h : Below B a w) (n : Nat) : Below B a (w.drewN n) := ⟨h.os, h.tape, h.output, h.size, h.block⟩

/-- Six numbers in memory. -/
theorem six_at (w : World) (a b c d e f : Int) (t : TypeId) : ∀ j : Nat, j < 6 → (w.alloc (.cells #[.int .i64 a, .int .i64 b, .int .i64 c, .int .i64 d, .int .i64 e, .int .i64 f] t)).cell? ⟨w.heap.size, j, none⟩ = some (.int .i64 ([a, b, c, d, e, f].getD j 0)) := by
  intro j hj
  rw [cell_of_row _ _ _ _ t (0, 0) (heap_alloc_new w _)]
  obtain rfl | rfl | rfl | rfl | rfl | rfl : j = 0 ∨ j = 1 ∨ j = 2 ∨ j = 3 ∨ j = 4 ∨ j = 5 := by omega
  all_goals rfl

set_option maxHeartbeats 1000000 in
theorem ahead_any (y m d h i s k y' m' d' h' i' s' k' : Int) (w : World) :
    Calls Tryd.prog 16 #[dat y m d h i s k, dat y' m' d' h' i' s' k'] w fun e w' => e = .returned (.bool (K.LtB y m d h i s y' m' d' h' i' s')) ∧ Below w.heap.size w w' := by
  go_enter Tryd.func16, Tryd.ntmps16
  go_wp2_with fail
  have HX : ∃ W gx gy, W = (((w.alloc (.cells #[.int .i64 y, .int .i64 m, .int .i64 d, .int .i64 h, .int .i64 i, .int .i64 s, .int .i64 k] 23)).alloc (.cells #[.int .i64 y', .int .i64 m', .int .i64 d', .int .i64 h', .int .i64 i', .int .i64 s', .int .i64 k'] 23)).alloc (.cells #[.int .i64 y, .int .i64 m, .int .i64 d, .int .i64 h, .int .i64 i, .int .i64 s] 48)).alloc (.cells #[.int .i64 y', .int .i64 m', .int .i64 d', .int .i64 h', .int .i64 i', .int .i64 s'] 48) ∧
      gx = w.heap.size + 1 + 1 ∧ gy = w.heap.size + 1 + 1 + 1 ∧ Below w.heap.size w W ∧
      (∀ j : Nat, j < 6 → W.cell? ⟨gx, j, none⟩ = some (.int .i64 ([y, m, d, h, i, s].getD j 0))) ∧ (∀ j : Nat, j < 6 → W.cell? ⟨gy, j, none⟩ = some (.int .i64 ([y', m', d', h', i', s'].getD j 0))) := by
    refine ⟨_, _, _, rfl, rfl, rfl, ((((Below.refl _ _).alloc (Nat.le_refl _) _).alloc (by simp) _).alloc (by simp; omega) _).alloc (by simp; omega) _, ?_, ?_⟩
    · intro j hj
      have := six_at ((w.alloc (.cells #[.int .i64 y, .int .i64 m, .int .i64 d, .int .i64 h, .int .i64 i, .int .i64 s, .int .i64 k] 23)).alloc (.cells #[.int .i64 y', .int .i64 m', .int .i64 d', .int .i64 h', .int .i64 i', .int .i64 s', .int .i64 k'] 23)) y m d h i s 48 j hj
      rw [World.cell?_alloc_lt _ _ _ (by simp)]
      simpa using this
    · intro j hj
      have := six_at (((w.alloc (.cells #[.int .i64 y, .int .i64 m, .int .i64 d, .int .i64 h, .int .i64 i, .int .i64 s, .int .i64 k] 23)).alloc (.cells #[.int .i64 y', .int .i64 m', .int .i64 d', .int .i64 h', .int .i64 i', .int .i64 s', .int .i64 k'] 23)).alloc (.cells #[.int .i64 y, .int .i64 m, .int .i64 d, .int .i64 h, .int .i64 i, .int .i64 s] 48)) y' m' d' h' i' s' 48 j hj
      simpa using this
  obtain ⟨W, gx, gy, hW, hgx, hgy, hB, hX, hY⟩ := HX
  rw [← hW, ← hgy, ← hgx]
  have HB := hide hB
  have HXX := hide hX
  have HYY := hide hY
  clear hW hgx hgy hB hX hY
  go_loopw [7] (fun iv wx => ∃ q n : Nat, q ≤ 6 ∧ iv = .int .i64 (q : Nat) ∧ wx = W.drewN n ∧ Hid (∀ j, j < q → [y, m, d, h, i, s].getD j 0 = [y', m', d', h', i', s'].getD j 0)) (fun iv _ => 6 - (intOf iv).toNat)
  case atStart => exact ⟨0, 0, by omega, rfl, rfl, fun j hj => by omega⟩
  case round =>
    obtain ⟨q, n, hq, rfl, rfl, he⟩ := hrel
    by_cases hlt : q < 6
    · have e1 := HXX.out q hlt
      have e2 := HYY.out q hlt
      by_cases hne : [y, m, d, h, i, s].getD q 0 = [y', m', d', h', i', s'].getD q 0
      · have HN := hide hne
        rw [hne] at e1
        clear hne
        generalize [y', m', d', h', i', s'].getD q 0 = v at e1 e2
        go_wp2
        go_region
        all_goals go_wp2
        all_goals exact ⟨⟨q + 1, n + 1, by omega, by go_num, rfl, fun j hj => by
          by_cases hjq : j < q
          · exact he.out j hjq
          · obtain rfl : j = q := by omega
            exact HN.out⟩, by simp [intOf]; omega⟩
      · have HD := hide (lt_at y m d h i s y' m' d' h' i' s' q hlt he.out hne)
        generalize [y, m, d, h, i, s].getD q 0 = a at *
        generalize [y', m', d', h', i', s'].getD q 0 = b at *
        go_wp2
        go_region
        all_goals go_wp2
        all_goals go_region
        all_goals go_wp2
        all_goals go_ret
        all_goals exact ⟨by rw [← HD.out]; rfl, belowDrewN HB.out _⟩
    · have HE := hide (lt_end y m d h i s y' m' d' h' i' s' (fun j hj => he.out j (by omega)))
      go_wp2
      go_ret
      exact ⟨by rw [HE.out]; rfl, belowDrewN HB.out _⟩
end Go.Proofs.YtgnploeobgheaaaDoor
