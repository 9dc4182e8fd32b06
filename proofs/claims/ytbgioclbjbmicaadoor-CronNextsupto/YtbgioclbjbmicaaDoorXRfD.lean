/- The document's days: the mathematics. -/
import Derived.Test.YtbgioclbjbmicaaDoorXMat
namespace Go.Proofs.YtbgioclbjbmicaaDoor
namespace X
open K

def Mo (n : Int) : Int := mo (yr n) (yd n)
def Dy (n : Int) : Int := yd n - cum (yr n) (Mo n) + 1
theorem M_eq (t : Int) : M t = Mo (t / 86400) := rfl
theorem D_eq (t : Int) : D t = Dy (t / 86400) := rfl
/-- A day as the document has it: year (behind 1970, within 400), month, day, weekday. -/
structure Rc where
  y : Int
  m : Int
  d : Int
  k : Int
def rec' (n : Int) : Rc := ⟨(yr n - 1970) % 400, Mo n, Dy n, (4 + n) % 7⟩
def longR (y m : Int) : Int := dim (1970 + y) m
def afterR (r : Rc) : Rc :=
  if r.d + 1 ≤ longR r.y r.m then ⟨r.y, r.m, r.d + 1, (r.k + 1) % 7⟩
  else if r.m + 1 ≤ 12 then ⟨r.y, r.m + 1, 1, (r.k + 1) % 7⟩
  else ⟨(r.y + 1) % 400, 1, 1, (r.k + 1) % 7⟩
def aheadR (r : Rc) : Rc :=
  if 0 < r.d - 1 then ⟨r.y, r.m, r.d - 1, (r.k + 6) % 7⟩
  else if r.m - 1 = 0 then ⟨(r.y + 399) % 400, 12, longR ((r.y + 399) % 400) 12, (r.k + 6) % 7⟩
  else ⟨r.y, r.m - 1, longR r.y (r.m - 1), (r.k + 6) % 7⟩
theorem after_a {y m d k : Int} (h : d + 1 ≤ longR y m) : afterR ⟨y, m, d, k⟩ = ⟨y, m, d + 1, (k + 1) % 7⟩ := if_pos h
theorem after_b {y m d k : Int} (h : ¬ d + 1 ≤ longR y m) (h2 : m + 1 ≤ 12) : afterR ⟨y, m, d, k⟩ = ⟨y, m + 1, 1, (k + 1) % 7⟩ := (if_neg h).trans (if_pos h2)
theorem after_c {y m d k : Int} (h : ¬ d + 1 ≤ longR y m) (h2 : ¬ m + 1 ≤ 12) : afterR ⟨y, m, d, k⟩ = ⟨(y + 1) % 400, 1, 1, (k + 1) % 7⟩ := (if_neg h).trans (if_neg h2)
theorem ahead_a {y m d k : Int} (h : 0 < d - 1) : aheadR ⟨y, m, d, k⟩ = ⟨y, m, d - 1, (k + 6) % 7⟩ := if_pos h
theorem ahead_b {y m d k : Int} (h : ¬ 0 < d - 1) (h2 : m - 1 = 0) : aheadR ⟨y, m, d, k⟩ = ⟨(y + 399) % 400, 12, longR ((y + 399) % 400) 12, (k + 6) % 7⟩ := (if_neg h).trans (if_pos h2)
theorem ahead_c {y m d k : Int} (h : ¬ 0 < d - 1) (h2 : ¬ m - 1 = 0) : aheadR ⟨y, m, d, k⟩ = ⟨y, m - 1, longR y (m - 1), (k + 6) % 7⟩ := (if_neg h).trans (if_neg h2)
theorem len_mod (y : Int) : len (1970 + (y - 1970) % 400) = len y := by
  have : lp (1970 + (y - 1970) % 400) ↔ lp y := by unfold lp; omega
  by_cases h : lp y
  · rw [len_pos h, len_pos (this.2 h)]
  · rw [len_neg h, len_neg (fun k => h (this.1 k))]
theorem dim_mod (y m : Int) : dim (1970 + (y - 1970) % 400) m = dim y m := by unfold dim; rw [len_mod]
theorem len_mod' (y : Int) : len (1970 + y % 400) = len (1970 + y) := by
  have := len_mod (1970 + y)
  rw [show 1970 + y - 1970 = y by omega] at this; exact this
theorem dim_mod' (y m : Int) : dim (1970 + y % 400) m = dim (1970 + y) m := by unfold dim; rw [len_mod']
theorem day_bd (n : Int) (h : 0 ≤ n) : 1 ≤ Dy n ∧ Dy n ≤ dim (yr n) (Mo n) ∧ 1 ≤ Mo n ∧ Mo n ≤ 12 ∧ 1970 ≤ yr n ∧ n = ny (yr n) + cum (yr n) (Mo n) + Dy n - 1 := by
  have b := mo_ge (yr n) (yd n)
  have c := mo_lo (yr n) (yd n) (yd_ge _ h)
  have e := mo_hi (yr n) (yd n) (yd_lt _ h)
  rw [cum_succ _ _ b.1 b.2] at e
  have f := yr_ge n h
  have g : yd n = n - ny (yr n) := rfl
  refine ⟨by unfold Dy Mo; omega, by unfold Dy Mo; omega, b.1, b.2, f, by unfold Dy Mo; omega⟩
/-- A day by its parts. -/
theorem day_is {n y m d : Int} (hy : 1970 ≤ y) (m1 : 1 ≤ m) (m2 : m ≤ 12) (d1 : 1 ≤ d) (d2 : d ≤ dim y m) (hn : n = ny y + cum y m + d - 1) : yr n = y ∧ Mo n = m ∧ Dy n = d := by
  obtain ⟨a, b, c, e⟩ := day_of y m d hy m1 m2 d1 d2
  rw [← hn] at a b c
  have hm : Mo n = m := by unfold Mo; rw [b, c, e]
  refine ⟨b, hm, ?_⟩
  unfold Dy; rw [hm, b, c]; omega
theorem rec_next (n : Int) (h : 0 ≤ n) : rec' (n + 1) = afterR (rec' n) := by
  obtain ⟨h1, h2, h3, h4, h5, h6⟩ := day_bd n h
  have hl : longR ((yr n - 1970) % 400) (Mo n) = dim (yr n) (Mo n) := dim_mod _ _
  have hk : (4 + (n + 1)) % 7 = ((4 + n) % 7 + 1) % 7 := by omega
  unfold afterR rec'
  simp only [hl]
  by_cases e : Dy n + 1 ≤ dim (yr n) (Mo n)
  · obtain ⟨a, b, c⟩ := day_is (n := n + 1) (y := yr n) (m := Mo n) (d := Dy n + 1) h5 h3 h4 (by omega) e (by omega)
    rw [if_pos e, a, b, c, hk]
  · have p3 := cum_succ (yr n) (Mo n) h3 h4
    rw [if_neg e]
    by_cases e2 : Mo n + 1 ≤ 12
    · have := dim_pos (yr n) (Mo n + 1)
      obtain ⟨a, b, c⟩ := day_is (n := n + 1) (y := yr n) (m := Mo n + 1) (d := 1) h5 (by omega) (by omega) (by omega) (by omega) (by omega)
      rw [if_pos e2, a, b, c, hk]
    · have p4 := ny_succ (yr n)
      have p5 := cum_one (yr n + 1)
      have p6 := cum_end (yr n)
      have e3 : Mo n = 12 := by omega
      rw [e3] at p3
      rw [show (12 : Int) + 1 = 13 from rfl] at p3
      have := dim_pos (yr n + 1) 1
      rw [e3] at e h2 h6
      obtain ⟨a, b, c⟩ := day_is (n := n + 1) (y := yr n + 1) (m := 1) (d := 1) (by omega) (by omega) (by omega) (by omega) (by omega) (by omega)
      rw [if_neg e2, a, b, c, hk, show (yr n + 1 - 1970) % 400 = ((yr n - 1970) % 400 + 1) % 400 by omega]
theorem rec_prev (n : Int) (h : 1 ≤ n) : rec' (n - 1) = aheadR (rec' n) := by
  obtain ⟨h1, h2, h3, h4, h5, h6⟩ := day_bd (n - 1) (by omega)
  have hn := rec_next (n - 1) (by omega)
  rw [show n - 1 + 1 = n by omega] at hn
  rw [hn]
  have hl : longR ((yr (n - 1) - 1970) % 400) (Mo (n - 1)) = dim (yr (n - 1)) (Mo (n - 1)) := dim_mod _ _
  have hk : (4 + (n - 1)) % 7 = (((4 + (n - 1)) % 7 + 1) % 7 + 6) % 7 := by omega
  generalize n - 1 = p at *
  unfold rec'
  by_cases e : Dy p + 1 ≤ dim (yr p) (Mo p)
  · rw [after_a (by rw [hl]; exact e), ahead_a (by omega), ← hk, show Dy p + 1 - 1 = Dy p by omega]
  · have e' : Dy p = dim (yr p) (Mo p) := by omega
    by_cases e2 : Mo p + 1 ≤ 12
    · rw [after_b (by rw [hl]; exact e) e2, ahead_c (by omega) (by omega), show Mo p + 1 - 1 = Mo p by omega, hl, ← hk, ← e']
    · have e3 : Mo p = 12 := by omega
      rw [after_c (by rw [hl]; exact e) e2, ahead_b (by omega) (by omega), ← hk, show (((yr p - 1970) % 400 + 1) % 400 + 399) % 400 = (yr p - 1970) % 400 by omega]
      rw [e3] at hl e'
      rw [hl, e3, e']
theorem rec_bd (n : Int) (h : 0 ≤ n) : 0 ≤ (rec' n).y ∧ (rec' n).y < 400 ∧ 1 ≤ (rec' n).m ∧ (rec' n).m ≤ 12 ∧ 1 ≤ (rec' n).d ∧ (rec' n).d ≤ 31 ∧ 0 ≤ (rec' n).k ∧ (rec' n).k ≤ 6 := by
  obtain ⟨h1, h2, h3, h4, h5, h6⟩ := day_bd n h
  have := dim_pos (yr n) (Mo n)
  simp only [rec']
  omega
theorem ahead_bd {r : Rc} (h : 0 ≤ r.y ∧ r.y < 400 ∧ 1 ≤ r.m ∧ r.m ≤ 12 ∧ 1 ≤ r.d ∧ r.d ≤ 31 ∧ 0 ≤ r.k ∧ r.k ≤ 6) : 0 ≤ (aheadR r).y ∧ (aheadR r).y < 400 ∧ 1 ≤ (aheadR r).m ∧ (aheadR r).m ≤ 12 ∧ 1 ≤ (aheadR r).d ∧ (aheadR r).d ≤ 31 ∧ 0 ≤ (aheadR r).k ∧ (aheadR r).k ≤ 6 := by
  unfold aheadR
  split
  · simp only; omega
  · split
    · have := dim_pos (1970 + (r.y + 399) % 400) 12
      simp only [longR]; omega
    · have := dim_pos (1970 + r.y) (r.m - 1)
      simp only [longR]; omega
/-- 400 years later the same. -/
theorem rec_age (n : Int) (h : 0 ≤ n) : rec' (n + 146097) = rec' n := by
  obtain ⟨h1, h2, h3, h4, h5, h6⟩ := day_bd n h
  obtain ⟨a, b, c⟩ := day_is (n := n + 146097) (y := yr n + 400) (m := Mo n) (d := Dy n) (by omega) h3 h4 h1 (by rw [dim_age]; exact h2) (by rw [ny_age, cum_age]; omega)
  unfold rec'
  rw [a, b, c, show (yr n + 400 - 1970) % 400 = (yr n - 1970) % 400 by omega, show (4 + (n + 146097)) % 7 = (4 + n) % 7 by omega]
theorem rec_ages (n : Int) (h : 0 ≤ n) : ∀ c : Nat, rec' (n + 146097 * c) = rec' n
  | 0 => by simp
  | c + 1 => by
    have := rec_ages n h c
    rw [show n + 146097 * ((c + 1 : Nat) : Int) = n + 146097 * c + 146097 by omega, rec_age _ (by omega), this]
theorem rec_mod (n : Int) (h : 0 ≤ n) : rec' (n % 146097) = rec' n := by
  have := rec_ages (n % 146097) (by omega) (n / 146097).toNat
  rw [← this]
  congr 1
  omega
/-- A year's first day. -/
theorem rec_year (y : Int) (h0 : 0 ≤ y) (h : y < 400) : rec' (ny (1970 + y)) = ⟨y, 1, 1, (4 + ny (1970 + y)) % 7⟩ := by
  have := dim_pos (1970 + y) 1
  obtain ⟨a, b, c⟩ := day_is (n := ny (1970 + y)) (y := 1970 + y) (m := 1) (d := 1) (by omega) (by omega) (by omega) (by omega) (by omega) (by rw [cum_one]; omega)
  unfold rec'
  rw [a, b, c, show (1970 + y - 1970) % 400 = y by omega]
theorem ny_400 : ny 2370 = 146097 := by decide

/-- Does a day match? -/
def onR (S : Sets) (r : Rc) : Bool := S (180 + r.m.toNat) && onDay S r.d r.k
theorem fit_rec (S : Sets) (t : Int) : fit S t = (onR S (rec' (t / 86400)) && S (60 + (hh t).toNat) && S (mm t).toNat) := by
  unfold fit onR fitM fitD fitH fitI
  rfl
theorem hm (n m : Int) (h0 : 0 ≤ m) (h : m < 1440) : hh (n * 86400 + 60 * m) = m / 60 ∧ mm (n * 86400 + 60 * m) = m % 60 ∧ (n * 86400 + 60 * m) / 86400 = n := by
  unfold hh mm
  have a : (n * 86400 + 60 * m) % 86400 = 60 * m := by omega
  refine ⟨by rw [a]; omega, by rw [a]; omega, by omega⟩
/-- The m-th minute of a day matches. -/
theorem mat_at (S : Sets) (n m : Int) (hn : 0 ≤ n) (h0 : 0 ≤ m) (h : m < 1440) : Mat S (n * 86400 + 60 * m) ↔ n * 86400 + 60 * m ≤ 4611686018427387904 ∧ onR S (rec' n) = true ∧ S (60 + (m / 60).toNat) = true ∧ S (m % 60).toNat = true := by
  obtain ⟨a, b, c⟩ := hm n m h0 h
  unfold Mat
  rw [fit_rec, a, b, c]
  simp only [Bool.and_eq_true]
  constructor
  · rintro ⟨_, h1, _, ⟨h2, h3⟩, h4⟩; exact ⟨h1, h2, h3, h4⟩
  · rintro ⟨h1, h2, h3, h4⟩; exact ⟨by omega, h1, by omega, ⟨h2, h3⟩, h4⟩
/-- Every time that matches is a minute of its day. -/
theorem mat_min {S : Sets} {u : Int} (h : Mat S u) : 0 ≤ u / 86400 ∧ 0 ≤ u % 86400 / 60 ∧ u % 86400 / 60 < 1440 ∧ u = u / 86400 * 86400 + 60 * (u % 86400 / 60) := by
  obtain ⟨h0, _, h2, _⟩ := h
  omega
theorem mat_ages {S : Sets} : ∀ (c : Nat) {t : Int}, 0 ≤ t → t + 12622780800 * c ≤ 4611686018427387904 → (Mat S (t + 12622780800 * c) ↔ Mat S t)
  | 0, t, _, _ => by simp
  | c + 1, t, h, h1 => by
    rw [show t + 12622780800 * ((c + 1 : Nat) : Int) = t + 12622780800 * c + 12622780800 by omega, mat_age (by omega) (by omega), mat_ages c h (by omega)]
/-- Where 146098 days on end have no match behind t, there is none. -/
theorem next_none {S : Sets} {t n : Int} (ht : -1 ≤ t) (hn : n = (t + 1) / 86400) (h : ∀ u, t < u → u / 86400 < n + 146098 → ¬ Mat S u) : ∀ u, t < u → ¬ Mat S u := by
  intro u hu hm
  by_cases hd : u / 86400 < n + 146098
  · exact h u hu hd hm
  · obtain ⟨h0, h1, h2, h3⟩ := hm
    have hm' : Mat S u := ⟨h0, h1, h2, h3⟩
    have e : u = u - 12622780800 * ((u / 86400 - (n + 1)) / 146097).toNat + 12622780800 * ((u / 86400 - (n + 1)) / 146097).toNat := by omega
    generalize hc : ((u / 86400 - (n + 1)) / 146097).toNat = c at *
    have hlo : (n + 1) * 86400 ≤ u - 12622780800 * c := by omega
    have hhi : (u - 12622780800 * c) / 86400 < n + 146098 := by omega
    rw [e] at hm'
    rw [mat_ages c (by omega) (by omega)] at hm'
    exact h _ (by omega) hhi hm'
theorem last_none {S : Sets} {t n : Int} (ht : 0 ≤ t) (ht1 : t ≤ 4611686018427387904) (hn : n = t / 86400) (h : ∀ u, u ≤ t → n - 146098 < u / 86400 → ¬ Mat S u) : ∀ u, u ≤ t → ¬ Mat S u := by
  intro u hu hm
  by_cases hd : n - 146098 < u / 86400
  · exact h u hu hd hm
  · have h0 := hm.1
    generalize hc : ((n - 1 - u / 86400) / 146097).toNat = c at *
    have hhi : u + 12622780800 * c < n * 86400 := by omega
    have hlo : n - 146098 < (u + 12622780800 * c) / 86400 := by omega
    exact h _ (by omega) hlo ((mat_ages c h0 (by omega)).2 hm)
end X
end Go.Proofs.YtbgioclbjbmicaaDoor
