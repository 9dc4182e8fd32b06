/- CronFields: whole fields of listed values. -/
import Derived.Test.YtbflmgiheccgdaaDoorXFld
namespace Go.Proofs.YtbflmgiheccgdaaDoor

theorem whole_full (L : Nat → List (Nat × Nat)) (f : Nat) (hf : f < 5) : X.wholeB (X.lsets L) f (X.loF f) (X.hiF f) = fullB (X.lhas f (L f)) (X.loF f) (X.hiF f + 1) := by
  have hh := X.loF_le f
  rw [Bool.eq_iff_iff]
  unfold X.wholeB fullB
  rw [List.all_eq_true, List.all_eq_true]
  constructor
  · intro h v hv
    have hv' : v < X.hiF f + 1 := by simpa using hv
    have := h v (by simp; omega)
    rw [X.lsets_at L f v hf (by omega)] at this
    by_cases e : v < X.loF f
    · simp [e]
    · have e1 : X.loF f ≤ v := by omega
      have e2 : v ≤ X.hiF f := by omega
      simp only [e1, e2, decide_true, Bool.and_true, beq_iff_eq] at this
      simp [this]
  · intro h v hv
    have hv' : v < 60 := by simpa using hv
    rw [X.lsets_at L f v hf hv']
    by_cases e : X.loF f ≤ v ∧ v ≤ X.hiF f
    · have := h v (by simp; omega)
      have e1 : ¬ v < X.loF f := by omega
      simp only [e1, decide_false, Bool.false_or] at this
      simp [this, e.1, e.2]
    · have e1 : (decide (X.loF f ≤ v) && decide (v ≤ X.hiF f)) = false := by
        rw [Bool.eq_false_iff]; intro e'; simp at e'; exact e e'
      unfold X.lhas
      rw [e1]
      simp
/-- On which days, by what is listed. -/
def onL (L : Nat → List (Nat × Nat)) (d k : Nat) : Bool :=
  if (!fullB (X.lhas 2 (L 2)) 1 32 && !fullB (X.lhas 4 (L 4)) 0 7) = true then X.lhas 2 (L 2) d || X.lhas 4 (L 4) k else X.lhas 2 (L 2) d && X.lhas 4 (L 4) k
/-- A time's parts as numbers. -/
theorem parts_of (t : Int) (h0 : 0 ≤ t) : ∃ m d h i k : Nat, K.M t = m ∧ K.D t = d ∧ K.hh t = h ∧ K.mm t = i ∧ K.W t = k ∧ 1 ≤ m ∧ m ≤ 12 ∧ 1 ≤ d ∧ d ≤ 31 ∧ h < 24 ∧ i < 60 ∧ k < 7 := by
  have hd := X.day_bounds t h0
  have hdp := K.dim_pos (K.Y t) (K.M t)
  have hk := (K.forth t h0).1
  refine ⟨(K.M t).toNat, (K.D t).toNat, (K.hh t).toNat, (K.mm t).toNat, (K.W t).toNat, by omega, by omega, by have := hk.h1; omega, by have := hk.i1; omega, by unfold K.W; omega, by omega, by omega, by omega, by omega, by have := hk.h2; have := hk.h1; omega, by have := hk.i2; have := hk.i1; omega, by unfold K.W; omega⟩
theorem fields_ok (L : Nat → List (Nat × Nat)) (t : Int) (h0 : 0 ≤ t) (h1 : t ≤ 4611686018427387904) (m d h i k : Nat) (em : K.M t = m) (ed : K.D t = d) (eh : K.hh t = h) (ei : K.mm t = i) (ek : K.W t = k) (m2 : m ≤ 12) (d2 : d ≤ 31) (h2 : h < 24) (i2 : i < 60) (k2 : k < 7) :
    X.matB (X.lsets L) t = (onL L d k && decide (K.ss t = 0) && X.lhas 0 (L 0) i && X.lhas 1 (L 1) h && X.lhas 3 (L 3) m) := by
  have w2 : X.wholeB (X.lsets L) 2 1 31 = fullB (X.lhas 2 (L 2)) 1 32 := whole_full L 2 (by decide)
  have w4 : X.wholeB (X.lsets L) 4 0 6 = fullB (X.lhas 4 (L 4)) 0 7 := whole_full L 4 (by decide)
  have a0 : X.lsets L i = X.lhas 0 (L 0) i := by have := X.lsets_at L 0 i (by decide) i2; simpa using this
  have a1 : X.lsets L (60 + h) = X.lhas 1 (L 1) h := X.lsets_at L 1 h (by decide) (by omega)
  have a2 : X.lsets L (120 + d) = X.lhas 2 (L 2) d := X.lsets_at L 2 d (by decide) (by omega)
  have a3 : X.lsets L (180 + m) = X.lhas 3 (L 3) m := X.lsets_at L 3 m (by decide) (by omega)
  have a4 : X.lsets L (240 + k) = X.lhas 4 (L 4) k := X.lsets_at L 4 k (by decide) (by omega)
  have hss : K.ss t = t % 60 := by unfold K.ss; omega
  have hon : X.onDay (X.lsets L) d k = onL L d k := by
    unfold X.onDay X.enough onL
    rw [w2, w4, Int.toNat_natCast, Int.toNat_natCast, a2, a4]
  have hfit : X.fit (X.lsets L) t = (X.lhas 3 (L 3) m && onL L d k && X.lhas 1 (L 1) h && X.lhas 0 (L 0) i) := by
    unfold X.fit X.fitM X.fitD X.fitH X.fitI
    rw [em, ed, eh, ei, ek, hon, Int.toNat_natCast, Int.toNat_natCast, Int.toNat_natCast, a0, a1, a3]
  unfold X.matB
  rw [hfit, hss, Bool.eq_iff_iff]
  simp only [decide_eq_true_eq, Bool.and_eq_true]
  constructor
  · rintro ⟨_, _, c, ⟨⟨x, y⟩, u⟩, v⟩
    exact ⟨⟨⟨⟨y, c⟩, v⟩, u⟩, x⟩
  · rintro ⟨⟨⟨⟨y, c⟩, v⟩, u⟩, x⟩
    exact ⟨h0, h1, c, ⟨⟨x, y⟩, u⟩, v⟩
end Go.Proofs.YtbflmgiheccgdaaDoor
