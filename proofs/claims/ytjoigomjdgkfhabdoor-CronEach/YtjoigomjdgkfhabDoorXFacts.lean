/- What follows of Next and Last. -/
import Derived.Test.YtjoigomjdgkfhabDoorXAwake
namespace Go.Proofs.YtjoigomjdgkfhabDoor
open Go.RowKit

namespace X
theorem years_ok {S : Sets} {p n m : Int} {b c : Bool} (p0 : 0 ≤ p) (p1 : p < 2305843009213693952) (h : IsNext S p n b) (k : IsNext S (p + 12622780800) m c) :
    matB S p = matB S (p + 12622780800) ∧ b = c ∧ (b = true → m = n + 12622780800) := by
  refine ⟨?_, ?_⟩
  · have := mat_age (S := S) p0 (by omega)
    rw [Bool.eq_iff_iff, matB_iff, matB_iff]; exact this.symm
  · rcases h with ⟨rfl, h1, h2, h3⟩ | ⟨rfl, rfl, h3⟩
    · have hle : n ≤ p + 12622780800 := by
        by_cases x : n ≤ p + 12622780800
        · exact x
        · have hm := (mat_age (S := S) (t := n - 12622780800) (by omega) (by have := h2.2.1; omega)).1 (by rw [show n - 12622780800 + 12622780800 = n by omega]; exact h2)
          exact absurd hm (h3 _ (by omega) (by omega))
      have hm : Mat S (n + 12622780800) := (mat_age (by omega) (by omega)).2 h2
      have hk : IsNext S (p + 12622780800) (n + 12622780800) true := .inl ⟨rfl, by omega, hm, fun u u1 u2 ku => h3 (u - 12622780800) (by omega) (by omega) ((mat_age (S := S) (t := u - 12622780800) (by omega) (by have := ku.2.1; omega)).1 (by rw [show u - 12622780800 + 12622780800 = u by omega]; exact ku))⟩
      obtain ⟨e1, e2⟩ := k.uniq hk
      exact ⟨e2.symm, fun _ => e1⟩
    · rcases k with ⟨rfl, k1, k2, k3⟩ | ⟨rfl, rfl, k3⟩
      · exact absurd ((mat_age (S := S) (t := m - 12622780800) (by omega) (by have := k2.2.1; omega)).1 (by rw [show m - 12622780800 + 12622780800 = m by omega]; exact k2)) (h3 _ (by omega))
      · exact ⟨rfl, fun h => by cases h⟩
theorem isNext_bounds {S : Sets} {t n : Int} {b : Bool} (h : IsNext S t n b) : 0 ≤ n ∧ n ≤ 4611686018427387904 := by
  rcases h with ⟨_, _, h2, _⟩ | ⟨_, rfl, _⟩
  · exact ⟨h2.1, h2.2.1⟩
  · decide
theorem isLast_bounds {S : Sets} {t n : Int} {b : Bool} (h : IsLast S t n b) : 0 ≤ n ∧ n ≤ 4611686018427387904 := by
  rcases h with ⟨_, _, h2, _⟩ | ⟨_, rfl, _⟩
  · exact ⟨h2.1, h2.2.1⟩
  · decide
end X
end Go.Proofs.YtjoigomjdgkfhabDoor
