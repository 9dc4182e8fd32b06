/- The document's Next and Last: the mathematics of their searches. -/
import Derived.Test.YtbgioclbjbmicaaDoorXRd5
namespace Go.Proofs.YtbgioclbjbmicaaDoor
namespace X

theorem no_on {S : Sets} {N u : Int} (hO : onR S (rec' N) = false) (hu : u / 86400 = N) : ¬ Mat S u := by
  rintro ⟨_, _, _, k⟩
  rw [fit_rec, hu, hO] at k
  simp at k
/-- A day is through: its minutes are. -/
theorem day_through {S : Sets} {t n : Int} {i : Nat} (h : ∀ u, t < u → u / 86400 < n + i → ¬ Mat S u) (hd : ∀ u, t < u → u / 86400 = n + i → ¬ Mat S u) : ∀ u, t < u → u / 86400 < n + (i + 1 : Nat) → ¬ Mat S u := by
  intro u h1 h2
  by_cases c : u / 86400 < n + i
  · exact h u h1 c
  · exact hd u h1 (by omega)
/-- A minute more of a day. -/
theorem min_through {S : Sets} {t N : Int} {m : Nat} (h : ∀ u, t < u → u / 86400 = N → u % 86400 / 60 < m → ¬ Mat S u) (hn : t < N * 86400 + 60 * m → ¬ Mat S (N * 86400 + 60 * m)) : ∀ u, t < u → u / 86400 = N → u % 86400 / 60 < (m + 1 : Nat) → ¬ Mat S u := by
  intro u h1 h2 h3 hm
  by_cases c : u % 86400 / 60 < m
  · exact h u h1 h2 c hm
  · obtain ⟨_, _, _, e⟩ := mat_min hm
    have e2 : u % 86400 / 60 = m := by omega
    rw [h2, e2] at e
    rw [e] at hm h1
    exact hn h1 hm
theorem not_mat {S : Sets} {N : Int} {m : Nat} (hN : 0 ≤ N) (hm : m < 1440) (h : ¬ (N * 86400 + 60 * (m : Int) ≤ 4611686018427387904 ∧ S (60 + m / 60) = true ∧ S (m % 60) = true)) : ¬ Mat S (N * 86400 + 60 * (m : Int)) := by
  intro k
  have := (mat_at S N m hN (by omega) (by omega)).1 k
  rw [show ((m : Int) / 60).toNat = m / 60 by omega, show ((m : Int) % 60).toNat = m % 60 by omega] at this
  exact h ⟨this.1, this.2.2.1, this.2.2.2⟩
theorem is_mat {S : Sets} {N : Int} {m : Nat} (hN : 0 ≤ N) (hm : m < 1440) (hO : onR S (rec' N) = true) (h1 : N * 86400 + 60 * (m : Int) ≤ 4611686018427387904) (h2 : S (60 + m / 60) = true) (h3 : S (m % 60) = true) : Mat S (N * 86400 + 60 * (m : Int)) := by
  refine (mat_at S N m hN (by omega) (by omega)).2 ⟨h1, hO, ?_, ?_⟩
  · rw [show ((m : Int) / 60).toNat = m / 60 by omega]; exact h2
  · rw [show ((m : Int) % 60).toNat = m % 60 by omega]; exact h3
/-- The first that was found is the next. -/
theorem is_next {S : Sets} {t n : Int} {i m : Nat} (h : ∀ u, t < u → u / 86400 < n + i → ¬ Mat S u) (hd : ∀ u, t < u → u / 86400 = n + i → u % 86400 / 60 < m → ¬ Mat S u) (hm : m < 1440) (ht : t < (n + i) * 86400 + 60 * m) (hk : Mat S ((n + i) * 86400 + 60 * m)) : IsNext S t ((n + i) * 86400 + 60 * m) true := by
  refine .inl ⟨rfl, ht, hk, fun u h1 h2 hu => ?_⟩
  by_cases c : u / 86400 < n + i
  · exact h u h1 c hu
  · have hdu : u / 86400 = n + i := by omega
    obtain ⟨_, _, _, e⟩ := mat_min hu
    exact hd u h1 hdu (by omega) hu
theorem next_neg {S : Sets} {t m : Int} {b : Bool} (ht : t < 0) (h : IsNext S (-1) m b) : IsNext S t m b := by
  rcases h with ⟨rfl, h1, h2, h3⟩ | ⟨rfl, rfl, h3⟩
  · exact .inl ⟨rfl, by omega, h2, fun u _ h5 hu => h3 u (by have := hu.1; omega) h5 hu⟩
  · exact .inr ⟨rfl, rfl, fun u _ hu => h3 u (by have := hu.1; omega) hu⟩
theorem next_hi {S : Sets} {t : Int} (ht : 4611686018427387904 ≤ t) : IsNext S t 0 false := .inr ⟨rfl, rfl, fun u hu k => by have := k.2.1; omega⟩

/-- The same the other way. -/
theorem day_back {S : Sets} {t n : Int} {i : Nat} (h : ∀ u, u ≤ t → n - i < u / 86400 → ¬ Mat S u) (hd : ∀ u, u ≤ t → u / 86400 = n - i → ¬ Mat S u) : ∀ u, u ≤ t → n - (i + 1 : Nat) < u / 86400 → ¬ Mat S u := by
  intro u h1 h2
  by_cases c : n - i < u / 86400
  · exact h u h1 c
  · exact hd u h1 (by omega)
theorem min_back {S : Sets} {t N : Int} {m : Nat} (h : ∀ u, u ≤ t → u / 86400 = N → (m : Int) < u % 86400 / 60 + 0 → ¬ Mat S u) (hn : N * 86400 + 60 * m ≤ t → ¬ Mat S (N * 86400 + 60 * m)) : ∀ u, u ≤ t → u / 86400 = N → (m : Int) - 1 < u % 86400 / 60 + 0 → ¬ Mat S u := by
  intro u h1 h2 h3 hm
  by_cases c : (m : Int) < u % 86400 / 60 + 0
  · exact h u h1 h2 c hm
  · obtain ⟨_, _, _, e⟩ := mat_min hm
    have e2 : u % 86400 / 60 = m := by omega
    rw [h2, e2] at e
    rw [e] at hm h1
    exact hn h1 hm
theorem is_last {S : Sets} {t n : Int} {i m : Nat} (h : ∀ u, u ≤ t → n - i < u / 86400 → ¬ Mat S u) (hd : ∀ u, u ≤ t → u / 86400 = n - i → (m : Int) < u % 86400 / 60 + 0 → ¬ Mat S u) (hm : m < 1440) (ht : (n - i) * 86400 + 60 * m ≤ t) (hk : Mat S ((n - i) * 86400 + 60 * m)) : IsLast S t ((n - i) * 86400 + 60 * m) true := by
  refine .inl ⟨rfl, ht, hk, fun u h1 h2 hu => ?_⟩
  by_cases c : n - i < u / 86400
  · exact h u h2 c hu
  · have hdu : u / 86400 = n - i := by omega
    obtain ⟨_, _, _, e⟩ := mat_min hu
    exact hd u h2 hdu (by omega) hu
theorem last_end {S : Sets} {t n : Int} {i : Nat} (ht : 0 ≤ t) (ht1 : t ≤ 4611686018427387904) (hn : n = t / 86400) (hi : i = 146098 ∨ n < i) (h : ∀ u, u ≤ t → n - i < u / 86400 → ¬ Mat S u) : IsLast S t 0 false := by
  refine .inr ⟨rfl, rfl, ?_⟩
  rcases hi with rfl | hi
  · exact last_none ht ht1 hn h
  · intro u hu k
    exact h u hu (by have := k.1; omega) k
theorem last_top {S : Sets} {t m : Int} {b : Bool} (ht : 4611686018427387904 ≤ t) (h : IsLast S 4611686018427387904 m b) : IsLast S t m b := by
  rcases h with ⟨rfl, h1, h2, h3⟩ | ⟨rfl, rfl, h3⟩
  · exact .inl ⟨rfl, by omega, h2, fun u h4 h5 hu => h3 u h4 (by have := hu.2.1; omega) hu⟩
  · exact .inr ⟨rfl, rfl, fun u h5 hu => h3 u (by have := hu.2.1; omega) hu⟩
theorem last_neg {S : Sets} {t : Int} (ht : t < 0) : IsLast S t 0 false := .inr ⟨rfl, rfl, fun u hu k => by have := k.1; omega⟩
end X
/-- What Next and Last answer. -/
def NlEnd (I : Int → Bool → Prop) (e : Ending) : Prop := ∃ (m : Int) (b : Bool), e = .returned (.tuple #[.int .i64 m, .bool b]) ∧ I m b
end Go.Proofs.YtbgioclbjbmicaaDoor
