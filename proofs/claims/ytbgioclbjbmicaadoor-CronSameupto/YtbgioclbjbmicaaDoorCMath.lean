/- The calendar in whole numbers: leap years, months, days, and their laws. -/
import Derived.Test.YtbgioclbjbmicaaDoorChecked
namespace Go.Proofs.YtbgioclbjbmicaaDoor
namespace K

/-- Is a year leap? (years from 0 on) -/
def lp (y : Int) : Prop := y % 400 = 0 ∨ (y % 4 = 0 ∧ y % 100 ≠ 0)
def lpB (y : Int) : Bool := decide (y % 400 = 0 ∨ (y % 4 = 0 ∧ y % 100 ≠ 0))
theorem lpB_true {y : Int} (h : lp y) : lpB y = true := decide_eq_true h
theorem lpB_false {y : Int} (h : ¬ lp y) : lpB y = false := decide_eq_false h

/-- How many days a year has. -/
def len (y : Int) : Int := if y % 400 = 0 ∨ (y % 4 = 0 ∧ y % 100 ≠ 0) then 366 else 365
theorem len_pos {y : Int} (h : lp y) : len y = 366 := if_pos h
theorem len_neg {y : Int} (h : ¬ lp y) : len y = 365 := if_neg h
/-- The days from time 0 to a year's beginning. -/
def ny (y : Int) : Int := (y - 1970) * 365 + ((y - 1) / 4 - (y - 1) / 100 + (y - 1) / 400) - 477
/-- The days of a month. -/
def dim (y m : Int) : Int := if m = 2 then len y - 337 else if m = 4 ∨ m = 6 ∨ m = 9 ∨ m = 11 then 30 else 31
/-- The days of a year ahead of a month. -/
def cum (y m : Int) : Int :=
  if m ≤ 1 then 0 else if m = 2 then 31 else
    (if m = 3 then 59 else if m = 4 then 90 else if m = 5 then 120 else if m = 6 then 151 else if m = 7 then 181 else if m = 8 then 212 else if m = 9 then 243 else if m = 10 then 273 else if m = 11 then 304 else if m = 12 then 334 else 365) + (len y - 365)

theorem len_cases (y : Int) : len y = 365 ∨ len y = 366 := by unfold len; split <;> simp
theorem ny_succ (y : Int) : ny (y + 1) = ny y + len y := by
  by_cases h : lp y
  · rw [len_pos h]; unfold lp at h; unfold ny; omega
  · rw [len_neg h]; unfold lp at h; unfold ny; omega
theorem ny_cycle (c k : Int) : ny (1970 + 400 * c + k) = 146097 * c + ny (1970 + k) := by
  unfold ny; omega
theorem cum_succ (y m : Int) (h1 : 1 ≤ m) (h2 : m ≤ 12) : cum y (m + 1) = cum y m + dim y m := by
  have h : m = 1 ∨ m = 2 ∨ m = 3 ∨ m = 4 ∨ m = 5 ∨ m = 6 ∨ m = 7 ∨ m = 8 ∨ m = 9 ∨ m = 10 ∨ m = 11 ∨ m = 12 := by omega
  rcases h with rfl | rfl | rfl | rfl | rfl | rfl | rfl | rfl | rfl | rfl | rfl | rfl <;> simp [cum, dim] <;> omega
theorem cum_one (y : Int) : cum y 1 = 0 := rfl
theorem cum_end (y : Int) : cum y 13 = len y := by simp [cum]; omega
theorem dim_pos (y m : Int) : 28 ≤ dim y m ∧ dim y m ≤ 31 := by
  have := len_cases y
  unfold dim; split
  · omega
  · split <;> omega
theorem ny_zero : ny 1970 = 0 := by decide
theorem ny_le (y : Int) (h : 1970 ≤ y) : 0 ≤ ny y ∧ 365 * (y - 1970) ≤ ny y ∧ ny y ≤ 366 * (y - 1970) := by
  unfold ny; omega

/-- The first guess of a year is right, or one too early. -/
def guess (n : Int) : Int := 1970 + n / 146097 * 400 + n % 146097 / 366
theorem guess_lo (n : Int) (_h : 0 ≤ n) : ny (guess n) ≤ n := by
  have e : guess n = 1970 + 400 * (n / 146097) + n % 146097 / 366 := by unfold guess; omega
  rw [e, ny_cycle]
  have := ny_le (1970 + n % 146097 / 366) (by omega)
  omega
theorem guess_hi (n : Int) (_h : 0 ≤ n) : n < ny (guess n + 2) := by
  have e : guess n + 2 = 1970 + 400 * (n / 146097) + (n % 146097 / 366 + 2) := by unfold guess; omega
  rw [e, ny_cycle]
  have h1 : n % 146097 < 146097 := by omega
  have h0 : 0 ≤ n % 146097 := by omega
  have h2 : n = 146097 * (n / 146097) + n % 146097 := by omega
  generalize n % 146097 = r at *
  have : r < ny (1970 + (r / 366 + 2)) := by unfold ny; omega
  omega
/-- The year of a day. -/
def yr (n : Int) : Int := if ny (guess n + 1) ≤ n then guess n + 1 else guess n
theorem yr_lo (n : Int) (h : 0 ≤ n) : ny (yr n) ≤ n := by
  unfold yr; split
  · assumption
  · exact guess_lo n h
theorem yr_hi (n : Int) (h : 0 ≤ n) : n < ny (yr n + 1) := by
  unfold yr; split
  · have := guess_hi n h; rw [show guess n + 1 + 1 = guess n + 2 by omega]; exact this
  · omega
theorem guess_ge (n : Int) (h : 0 ≤ n) : 1970 ≤ guess n := by unfold guess; omega
theorem yr_ge (n : Int) (h : 0 ≤ n) : 1970 ≤ yr n := by
  have := guess_ge n h
  unfold yr; split <;> omega

theorem ny_add (y : Int) (k : Nat) : ny y + 365 * k ≤ ny (y + k) := by
  induction k with
  | zero => simp
  | succ k ih =>
    have := ny_succ (y + k)
    have := len_cases (y + k)
    rw [show y + ((k + 1 : Nat) : Int) = y + k + 1 by omega]; omega
theorem ny_mono {a b : Int} (h : a ≤ b) : ny a ≤ ny b := by
  have := ny_add a (b - a).toNat
  rw [show a + ((b - a).toNat : Int) = b by omega] at this; omega
theorem yr_uniq (n y : Int) (h : 0 ≤ n) (h1 : ny y ≤ n) (h2 : n < ny (y + 1)) : y = yr n := by
  have a := yr_lo n h
  have b := yr_hi n h
  by_cases h3 : y < yr n
  · have := ny_mono (show y + 1 ≤ yr n by omega); omega
  · by_cases h4 : yr n < y
    · have := ny_mono (show yr n + 1 ≤ y by omega); omega
    · omega

/-- The day within its year. -/
def yd (n : Int) : Int := n - ny (yr n)
theorem yd_ge (n : Int) (h : 0 ≤ n) : 0 ≤ yd n := by have := yr_lo n h; unfold yd; omega
theorem yd_lt (n : Int) (h : 0 ≤ n) : yd n < len (yr n) := by
  have := yr_hi n h; rw [ny_succ] at this; unfold yd; omega

/-- The month of a day of a year. -/
def mo (y d : Int) : Int :=
  if d < cum y 2 then 1 else if d < cum y 3 then 2 else if d < cum y 4 then 3 else if d < cum y 5 then 4 else if d < cum y 6 then 5 else if d < cum y 7 then 6 else if d < cum y 8 then 7 else if d < cum y 9 then 8 else if d < cum y 10 then 9 else if d < cum y 11 then 10 else if d < cum y 12 then 11 else 12
theorem mo_ge (y d : Int) : 1 ≤ mo y d ∧ mo y d ≤ 12 := by
  unfold mo; repeat' split
  all_goals decide
theorem mo_lo (y d : Int) (h : 0 ≤ d) : cum y (mo y d) ≤ d := by
  unfold mo; repeat' split
  all_goals (first | (rw [cum_one]; exact h) | omega)
theorem mo_hi (y d : Int) (h : d < len y) : d < cum y (mo y d + 1) := by
  unfold mo; repeat' split
  all_goals (first | assumption | (show d < cum y 13; rw [cum_end]; exact h))
theorem cum_mono (y m k : Int) (h1 : 1 ≤ m) (h2 : m ≤ k) (h3 : k ≤ 13) : cum y m ≤ cum y k := by
  obtain ⟨j, rfl⟩ : ∃ j : Nat, k = m + j := ⟨(k - m).toNat, by omega⟩
  clear h2
  induction j with
  | zero => simp
  | succ j ih =>
    have e := cum_succ y (m + j) (by omega) (by omega)
    have := dim_pos y (m + j)
    have := ih (by omega)
    rw [show m + ((j + 1 : Nat) : Int) = m + j + 1 by omega]; omega
theorem mo_uniq (y d m : Int) (h : 0 ≤ d) (h' : d < len y) (hm : 1 ≤ m) (hm' : m ≤ 12) (h1 : cum y m ≤ d) (h2 : d < cum y (m + 1)) : m = mo y d := by
  have a := mo_lo y d h
  have b := mo_hi y d h'
  have c := mo_ge y d
  by_cases h3 : m < mo y d
  · have := cum_mono y (m + 1) (mo y d) (by omega) (by omega) (by omega); omega
  · by_cases h4 : mo y d < m
    · have := cum_mono y (mo y d + 1) m (by omega) (by omega) (by omega); omega
    · omega


/-- The parts of a time's date. -/
def Y (t : Int) : Int := yr (t / 86400)
def M (t : Int) : Int := mo (Y t) (yd (t / 86400))
def D (t : Int) : Int := yd (t / 86400) - cum (Y t) (M t) + 1
def hh (t : Int) : Int := t % 86400 / 3600
def mm (t : Int) : Int := t % 86400 % 3600 / 60
def ss (t : Int) : Int := t % 86400 % 60
def W (t : Int) : Int := (4 + t / 86400) % 7

/-- May a date's parts be? (whatever its year is at most) -/
structure Ok (y m d h i s : Int) : Prop where
  y0 : 1970 ≤ y
  m1 : 1 ≤ m
  m2 : m ≤ 12
  d1 : 1 ≤ d
  d2 : d ≤ dim y m
  h1 : 0 ≤ h
  h2 : h ≤ 23
  i1 : 0 ≤ i
  i2 : i ≤ 59
  s1 : 0 ≤ s
  s2 : s ≤ 59
/-- The seconds to a date. -/
def secs (y m d h i s : Int) : Int := (ny y + cum y m + d - 1) * 86400 + h * 3600 + i * 60 + s

theorem day_of (y m d : Int) (hy : 1970 ≤ y) (m1 : 1 ≤ m) (m2 : m ≤ 12) (d1 : 1 ≤ d) (d2 : d ≤ dim y m) :
    0 ≤ ny y + cum y m + d - 1 ∧ yr (ny y + cum y m + d - 1) = y ∧ yd (ny y + cum y m + d - 1) = cum y m + d - 1 ∧ mo y (cum y m + d - 1) = m := by
  have a := ny_le y hy
  have b := cum_mono y 1 m (by omega) m1 (by omega)
  rw [cum_one] at b
  have c := cum_succ y m m1 m2
  have e := cum_mono y (m + 1) 13 (by omega) (by omega) (by omega)
  rw [cum_end] at e
  have f : yr (ny y + cum y m + d - 1) = y := (yr_uniq _ y (by omega) (by omega) (by rw [ny_succ]; omega)).symm
  refine ⟨by omega, f, ?_, (mo_uniq y _ m (by omega) (by omega) m1 m2 (by omega) (by omega)).symm⟩
  unfold yd; rw [f]; omega

theorem back {y m d h i s : Int} (k : Ok y m d h i s) : 0 ≤ secs y m d h i s ∧ Y (secs y m d h i s) = y ∧ M (secs y m d h i s) = m ∧ D (secs y m d h i s) = d ∧ hh (secs y m d h i s) = h ∧ mm (secs y m d h i s) = i ∧ ss (secs y m d h i s) = s := by
  obtain ⟨y0, m1, m2, d1, d2, h1, h2, i1, i2, s1, s2⟩ := k
  obtain ⟨a, b, c, e⟩ := day_of y m d y0 m1 m2 d1 d2
  have q : secs y m d h i s / 86400 = ny y + cum y m + d - 1 := by unfold secs; omega
  have r : secs y m d h i s % 86400 = h * 3600 + i * 60 + s := by unfold secs; omega
  have fy : Y (secs y m d h i s) = y := by unfold Y; rw [q, b]
  have fm : M (secs y m d h i s) = m := by unfold M; rw [fy, q, c, e]
  refine ⟨by unfold secs; omega, fy, fm, ?_, ?_, ?_, ?_⟩
  · unfold D; rw [fy, fm, q, c]; omega
  · unfold hh; rw [r]; omega
  · unfold mm; rw [r]; omega
  · unfold ss; rw [r]; omega

theorem forth (t : Int) (h : 0 ≤ t) : Ok (Y t) (M t) (D t) (hh t) (mm t) (ss t) ∧ secs (Y t) (M t) (D t) (hh t) (mm t) (ss t) = t := by
  have n0 : 0 ≤ t / 86400 := by omega
  have a := yr_ge _ n0
  have b := mo_ge (Y t) (yd (t / 86400))
  have c := mo_lo (Y t) (yd (t / 86400)) (yd_ge _ n0)
  have e := mo_hi (Y t) (yd (t / 86400)) (yd_lt _ n0)
  rw [cum_succ _ _ b.1 b.2] at e
  constructor
  · constructor <;> (try (unfold hh; omega)) <;> (try (unfold mm; omega)) <;> (try (unfold ss; omega))
    · exact a
    · exact b.1
    · exact b.2
    · unfold D M; omega
    · unfold D M; omega
  · unfold secs D hh mm ss
    have : yd (t / 86400) = t / 86400 - ny (Y t) := rfl
    omega

def lastT : Int := 4611686018427387904
def lastY : Int := 146138514283
theorem y_of_le {t : Int} (h0 : 0 ≤ t) (h : t ≤ 4611686018427387904) : Y t ≤ 146138514283 := by
  have a := yr_lo (t / 86400) (by omega)
  have b : (53375995583650 : Int) < ny 146138514284 := by decide
  have c : Y t = yr (t / 86400) := rfl
  by_cases k : Y t ≤ 146138514283
  · exact k
  · have := ny_mono (show 146138514284 ≤ yr (t / 86400) by omega); omega
theorem y_of_last : Y 4611686018427387904 = 146138514283 := by decide

end K
end Go.Proofs.YtbgioclbjbmicaaDoor
