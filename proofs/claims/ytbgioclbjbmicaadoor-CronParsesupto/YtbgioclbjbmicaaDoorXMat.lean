/- Times that match, in whole numbers: sets of values, spans of a time, what follows of them. -/
import Derived.Test.YtbgioclbjbmicaaDoorCMath
namespace Go.Proofs.YtbgioclbjbmicaaDoor
namespace X
open K

/-- A set of bools by number: field f, value v at 60 * f + v. -/
abbrev Sets := Nat → Bool
/-- Has a field all its values, and no other? -/
def wholeB (S : Sets) (f lo hi : Nat) : Bool := (List.range 60).all fun v => S (60 * f + v) == (decide (lo ≤ v) && decide (v ≤ hi))
def enough (S : Sets) : Bool := !wholeB S 2 1 31 && !wholeB S 4 0 6
def onDay (S : Sets) (d w : Int) : Bool := if enough S then S (120 + d.toNat) || S (240 + w.toNat) else S (120 + d.toNat) && S (240 + w.toNat)
def fitM (S : Sets) (t : Int) : Bool := S (180 + (M t).toNat)
def fitD (S : Sets) (t : Int) : Bool := onDay S (D t) (W t)
def fitH (S : Sets) (t : Int) : Bool := S (60 + (hh t).toNat)
def fitI (S : Sets) (t : Int) : Bool := S (mm t).toNat
def fit (S : Sets) (t : Int) : Bool := fitM S t && fitD S t && fitH S t && fitI S t
/-- Does a time match? -/
def Mat (S : Sets) (t : Int) : Prop := 0 ≤ t ∧ t ≤ 4611686018427387904 ∧ t % 60 = 0 ∧ fit S t = true
def matB (S : Sets) (t : Int) : Bool := decide (0 ≤ t ∧ t ≤ 4611686018427387904 ∧ t % 60 = 0 ∧ fit S t = true)
theorem matB_iff (S : Sets) (t : Int) : matB S t = true ↔ Mat S t := decide_eq_true_iff
theorem matB_no {S : Sets} {t : Int} (h : ¬ Mat S t) : matB S t = false := decide_eq_false h
theorem matB_yes {S : Sets} {t : Int} (h : Mat S t) : matB S t = true := decide_eq_true h

/-- The beginning of a time's month. -/
def mb (t : Int) : Int := t / 86400 * 86400 - (D t - 1) * 86400
theorem mb_eq (t : Int) (_h : 0 ≤ t) : mb t = (ny (Y t) + cum (Y t) (M t)) * 86400 := by
  unfold mb D
  have : yd (t / 86400) = t / 86400 - ny (Y t) := rfl
  omega
theorem day_bounds (t : Int) (h : 0 ≤ t) : 1 ≤ D t ∧ D t ≤ dim (Y t) (M t) ∧ 1 ≤ M t ∧ M t ≤ 12 ∧ 1970 ≤ Y t := by
  obtain ⟨y0, m1, m2, d1, d2, _⟩ := (forth t h).1
  exact ⟨d1, d2, m1, m2, y0⟩
theorem mb_le (t : Int) (h : 0 ≤ t) : mb t ≤ t ∧ t < mb t + dim (Y t) (M t) * 86400 ∧ 0 ≤ mb t := by
  have hd := day_bounds t h
  have e := mb_eq t h
  have a := ny_le (Y t) hd.2.2.2.2
  have b := cum_mono (Y t) 1 (M t) (by omega) hd.2.2.1 (by omega)
  rw [cum_one] at b
  refine ⟨?_, ?_, by omega⟩ <;> unfold mb <;> omega
/-- One day, one month. -/
theorem same_month (t u : Int) (h : 0 ≤ t) (h1 : mb t ≤ u) (h2 : u < mb t + dim (Y t) (M t) * 86400) : M u = M t := by
  have hd := day_bounds t h
  have e := mb_eq t h
  have q : u / 86400 = ny (Y t) + cum (Y t) (M t) + (u / 86400 - ny (Y t) - cum (Y t) (M t) + 1) - 1 := by omega
  obtain ⟨a, b, c, f⟩ := day_of (Y t) (M t) (u / 86400 - ny (Y t) - cum (Y t) (M t) + 1) hd.2.2.2.2 hd.2.2.1 hd.2.2.2.1 (by omega) (by omega)
  rw [← q] at a b c
  unfold M
  rw [show Y u = Y t from b, c]
  have g : mo (Y t) (yd (t / 86400)) = M t := rfl
  rw [g]; exact f
theorem same_day {S : Sets} (t u : Int) (h : t / 86400 = u / 86400) : fitD S u = fitD S t := by
  unfold fitD D W M Y; rw [h]
theorem same_hour {S : Sets} (t u : Int) (h : t / 3600 = u / 3600) : fitH S u = fitH S t := by
  unfold fitH hh; rw [show u % 86400 / 3600 = t % 86400 / 3600 by omega]
theorem same_minute {S : Sets} (t u : Int) (h : t / 60 = u / 60) : fitI S u = fitI S t := by
  unfold fitI mm; rw [show u % 86400 % 3600 / 60 = t % 86400 % 3600 / 60 by omega]

theorem no_month {S : Sets} {t u : Int} (h : 0 ≤ t) (hf : fitM S t = false) (h1 : mb t ≤ u) (h2 : u < mb t + dim (Y t) (M t) * 86400) : ¬ Mat S u := by
  rintro ⟨_, _, _, k⟩
  have : fitM S u = fitM S t := by unfold fitM; rw [same_month t u h h1 h2]
  simp [fit, this, hf] at k
theorem no_day {S : Sets} {t u : Int} (hf : fitD S t = false) (h1 : t / 86400 * 86400 ≤ u) (h2 : u < t / 86400 * 86400 + 86400) : ¬ Mat S u := by
  rintro ⟨_, _, _, k⟩
  have := same_day (S := S) t u (by omega)
  simp [fit, this, hf] at k
theorem no_hour {S : Sets} {t u : Int} (hf : fitH S t = false) (h1 : t / 3600 * 3600 ≤ u) (h2 : u < t / 3600 * 3600 + 3600) : ¬ Mat S u := by
  rintro ⟨_, _, _, k⟩
  have := same_hour (S := S) t u (by omega)
  simp [fit, this, hf] at k
theorem no_minute {S : Sets} {t u : Int} (hf : fitI S t = false) (h1 : t / 60 * 60 ≤ u) (h2 : u < t / 60 * 60 + 60) : ¬ Mat S u := by
  rintro ⟨_, _, _, k⟩
  have := same_minute (S := S) t u (by omega)
  simp [fit, this, hf] at k
/-- Within a minute only its first second matches. -/
theorem no_second {S : Sets} {u : Int} (h : u % 60 ≠ 0) : ¬ Mat S u := fun k => h k.2.2.1
theorem fit_floor (S : Sets) (t : Int) : fit S (t / 60 * 60) = fit S t := by
  unfold fit fitM M
  rw [same_day (S := S) t (t / 60 * 60) (by omega), same_hour (S := S) t (t / 60 * 60) (by omega), same_minute (S := S) t (t / 60 * 60) (by omega)]
  unfold Y
  rw [show t / 60 * 60 / 86400 = t / 86400 by omega]

/-- That no date matches. -/
def never (S : Sets) : Prop := ∀ m d : Nat, 1 ≤ m → m ≤ 12 → 1 ≤ d → (d : Int) ≤ dim 2000 m → S (180 + m) = true → enough S = false ∧ S (120 + d) = false
theorem dim_leap (y m : Int) : dim y m ≤ dim 2000 m := by
  have a := len_cases y
  have b : len 2000 = 366 := by decide
  unfold dim
  split
  · rw [b]; omega
  · omega
theorem never_no {S : Sets} (h : never S) (t : Int) : ¬ Mat S t := by
  rintro ⟨h0, _, _, k⟩
  have hd := day_bounds t h0
  have e1 : ((M t).toNat : Int) = M t := by omega
  have e2 : ((D t).toNat : Int) = D t := by omega
  have hl := dim_leap (Y t) (M t)
  have := h (M t).toNat (D t).toNat (by omega) (by omega) (by omega) (by rw [e1, e2]; omega)
  simp only [fit, fitM, fitD, onDay, Bool.and_eq_true] at k
  obtain ⟨⟨⟨k1, k2⟩, k3⟩, k4⟩ := k
  obtain ⟨c1, c2⟩ := this k1
  simp [c1, c2] at k2

/-- 400 years later the same. -/
theorem len_age (y : Int) : len (y + 400) = len y := by
  have : lp (y + 400) ↔ lp y := by unfold lp; omega
  by_cases h : lp y
  · rw [len_pos h, len_pos (this.2 h)]
  · rw [len_neg h, len_neg (fun k => h (this.1 k))]
theorem ny_age (y : Int) : ny (y + 400) = ny y + 146097 := by unfold ny; omega
theorem dim_age (y m : Int) : dim (y + 400) m = dim y m := by unfold dim; rw [len_age]
theorem cum_age (y m : Int) : cum (y + 400) m = cum y m := by unfold cum; rw [len_age]
theorem ages (t : Int) (h : 0 ≤ t) : M (t + 12622780800) = M t ∧ D (t + 12622780800) = D t ∧ W (t + 12622780800) = W t ∧ Y (t + 12622780800) = Y t + 400 := by
  obtain ⟨k, hs⟩ := forth t h
  have hw : W (t + 12622780800) = W t := by unfold W; omega
  generalize Y t = y at *
  generalize M t = m at *
  generalize D t = d at *
  generalize hh t = a at *
  generalize mm t = b at *
  generalize ss t = c at *
  obtain ⟨y0, m1, m2, d1, d2, h1, h2, i1, i2, s1, s2⟩ := k
  obtain ⟨_, a1, a2, a3, _⟩ := back (y := y + 400) (m := m) (d := d) (h := a) (i := b) (s := c) ⟨by omega, m1, m2, d1, by rw [dim_age]; exact d2, h1, h2, i1, i2, s1, s2⟩
  have q : secs (y + 400) m d a b c = t + 12622780800 := by rw [← hs]; unfold secs; rw [ny_age, cum_age]; omega
  rw [q] at a1 a2 a3
  exact ⟨a2, a3, hw, a1⟩
theorem fit_age (S : Sets) (t : Int) (h : 0 ≤ t) : fit S (t + 12622780800) = fit S t := by
  obtain ⟨a, b, c, _⟩ := ages t h
  unfold fit fitM fitD fitH fitI
  rw [a, b, c]
  have e1 : hh (t + 12622780800) = hh t := by unfold hh; omega
  have e2 : mm (t + 12622780800) = mm t := by unfold mm; omega
  rw [e1, e2]
theorem mat_age {S : Sets} {t : Int} (h : 0 ≤ t) (h1 : t + 12622780800 ≤ 4611686018427387904) : Mat S (t + 12622780800) ↔ Mat S t := by
  unfold Mat
  rw [fit_age S t h]
  constructor
  · rintro ⟨a, b, c, d⟩; exact ⟨h, by omega, by omega, d⟩
  · rintro ⟨a, b, c, d⟩; exact ⟨by omega, h1, by omega, d⟩

/-- What Next tells of a time, and Last. -/
def IsNext (S : Sets) (t : Int) (n : Int) (b : Bool) : Prop := (b = true ∧ t < n ∧ Mat S n ∧ ∀ u, t < u → u < n → ¬ Mat S u) ∨ (b = false ∧ n = 0 ∧ ∀ u, t < u → ¬ Mat S u)
def IsLast (S : Sets) (t : Int) (n : Int) (b : Bool) : Prop := (b = true ∧ n ≤ t ∧ Mat S n ∧ ∀ u, n < u → u ≤ t → ¬ Mat S u) ∨ (b = false ∧ n = 0 ∧ ∀ u, u ≤ t → ¬ Mat S u)
theorem IsNext.uniq {S : Sets} {t n m : Int} {b c : Bool} (h : IsNext S t n b) (k : IsNext S t m c) : n = m ∧ b = c := by
  rcases h with ⟨rfl, h1, h2, h3⟩ | ⟨rfl, rfl, h3⟩ <;> rcases k with ⟨rfl, k1, k2, k3⟩ | ⟨rfl, rfl, k3⟩
  · refine ⟨?_, rfl⟩
    by_cases x : n < m
    · exact absurd h2 (k3 n h1 x)
    · by_cases y : m < n
      · exact absurd k2 (h3 m k1 y)
      · omega
  · exact absurd h2 (k3 n h1)
  · exact absurd k2 (h3 m k1)
  · exact ⟨rfl, rfl⟩
theorem IsLast.uniq {S : Sets} {t n m : Int} {b c : Bool} (h : IsLast S t n b) (k : IsLast S t m c) : n = m ∧ b = c := by
  rcases h with ⟨rfl, h1, h2, h3⟩ | ⟨rfl, rfl, h3⟩ <;> rcases k with ⟨rfl, k1, k2, k3⟩ | ⟨rfl, rfl, k3⟩
  · refine ⟨?_, rfl⟩
    by_cases x : n < m
    · exact absurd k2 (h3 m x k1)
    · by_cases y : m < n
      · exact absurd h2 (k3 n y h1)
      · omega
  · exact absurd h2 (k3 n h1)
  · exact absurd k2 (h3 m k1)
  · exact ⟨rfl, rfl⟩
end X
end Go.Proofs.YtbgioclbjbmicaaDoor
