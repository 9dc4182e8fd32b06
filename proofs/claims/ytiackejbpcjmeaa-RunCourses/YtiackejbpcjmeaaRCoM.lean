/- RunCourses: its mathematics: how far a run has come, and that its end hangs on what is missed alone. -/
import Derived.Test.YtiackejbpcjmeaaRRuA
import Derived.Test.YtiackejbpcjmeaaGOrM
import Derived.Test.YtiackejbpcjmeaaRTrn
namespace Go.Proofs.Ytiackejbpcjmeaa
namespace Rn
open Go.RowKit Gr

/-- how many steps a node has had -/
def lev (p : Pt) : Int := if p.st = 2 then 3 * p.tr else if p.st = 3 then 3 * p.tr - 2 else if p.st = 4 ∨ p.st = 5 ∨ p.st = 6 then 3 * p.tr - 1 else 0
/-- a node in the midst of a course: b its budget, m how many attempts are missed, nb its result -/
def Cv (b m : Int) (nb : List Nat) (p : Pt) : Prop :=
  (p.st = 1 ∧ p.tr = 0 ∧ p.rs = []) ∨ (p.st = 2 ∧ 0 ≤ p.tr ∧ p.tr ≤ m ∧ p.tr < b ∧ p.rs = []) ∨ (p.st = 3 ∧ 1 ≤ p.tr ∧ p.tr ≤ m + 1 ∧ p.tr ≤ b ∧ p.rs = []) ∨ (p.st = 4 ∧ 1 ≤ p.tr ∧ p.tr ≤ m ∧ p.tr < b ∧ p.rs = []) ∨
    (p.st = 5 ∧ p.tr = m + 1 ∧ p.tr ≤ b ∧ p.rs = nb) ∨ (p.st = 6 ∧ p.tr = b ∧ m = b ∧ p.rs = []) ∨ (p.st = 7 ∧ p.tr = 0 ∧ p.rs = [])
def CvL (B M : Nat → Int) (N : Nat → List Nat) (ps : List Pt) : Prop := ∀ (i : Nat) (p : Pt), ps[i]? = some p → Cv (B i) (M i) (N i) p
def sumI (f : Pt → Int) (ps : List Pt) : Int := (ps.map f).sum
theorem sumI_set (f : Pt → Int) : ∀ (ps : List Pt) (i : Nat) (p q : Pt), ps[i]? = some p → sumI f (ps.set i q) = sumI f ps - f p + f q
  | [], i, p, q, h => by simp at h
  | a :: l, 0, p, q, h => by
    simp at h
    subst h
    simp [sumI]
    omega
  | a :: l, i + 1, p, q, h => by
    have := sumI_set f l i p q (by simpa using h)
    simp [sumI] at this ⊢
    omega
theorem sumI_congr {f : Pt → Int} {ps qs : List Pt} (hl : qs.length = ps.length) (h : ∀ (i : Nat) (p q : Pt), ps[i]? = some p → qs[i]? = some q → f q = f p) : sumI f qs = sumI f ps := by
  unfold sumI
  congr 1
  apply List.ext_getElem?
  intro i
  rw [List.getElem?_map, List.getElem?_map]
  by_cases hi : i < ps.length
  · rw [List.getElem?_eq_getElem hi, List.getElem?_eq_getElem (by omega : i < qs.length)]
    exact congrArg some (h i _ _ (List.getElem?_eq_getElem hi) (List.getElem?_eq_getElem (by omega)))
  · rw [List.getElem?_eq_none (by omega), List.getElem?_eq_none (by omega)]
theorem sumI_le {f g : Pt → Int} : ∀ {ps : List Pt}, (∀ p ∈ ps, f p ≤ g p) → sumI f ps ≤ sumI g ps
  | [], _ => by simp [sumI]
  | a :: l, h => by
    have h1 := h a (by simp)
    have h2 := sumI_le (ps := l) (f := f) (g := g) fun p hp => h p (by simp [hp])
    simp [sumI] at h2 ⊢
    omega
theorem sumI_mul (f : Pt → Int) : ∀ ps : List Pt, sumI (fun p => 3 * f p) ps = 3 * sumI f ps
  | [] => by simp [sumI]
  | a :: l => by
    have := sumI_mul f l
    simp [sumI] at this ⊢
    omega
theorem modify_set {ps : List Pt} {i : Nat} {p : Pt} (h : ps[i]? = some p) (f : Pt → Pt) : ps.modify i f = ps.set i (f p) := by
  apply List.ext_getElem?
  intro j
  rw [List.getElem?_modify, List.getElem?_set]
  by_cases e : i = j
  · subst e
    rw [if_pos rfl, h]
    simp [(List.getElem?_eq_some_iff.1 h).1]
  · simp [e]
/-- what settling leaves of a node -/
theorem settle_pt {xs : List Nx} {R : Rs} (hl : R.ps.length = xs.length) : (settleR xs R).2.ps.length = R.ps.length ∧ ∀ (i : Nat) (p : Pt), R.ps[i]? = some p → ∃ s, (settleR xs R).2.ps[i]? = some { p with st := s } ∧ (s = p.st ∨ p.st = 1 ∧ (s = 2 ∨ s = 7)) := by
  have ha := settle_adv xs (sts R.ps)
  have hlen : (settle xs (sts R.ps)).2.2.length = R.ps.length := by rw [ha.1, sts_length]
  have _ := hl
  refine ⟨by show (withS R.ps _).length = _; exact withS_length _ _ hlen, fun i p hp => ?_⟩
  have hi := (List.getElem?_eq_some_iff.1 hp).1
  have hs : (settle xs (sts R.ps)).2.2[i]? = some ((settle xs (sts R.ps)).2.2[i]'(by omega)) := List.getElem?_eq_getElem _
  refine ⟨_, by show (withS R.ps _)[i]? = _; exact withS_at hp hs, ?_⟩
  have := ha.2 (i : Nat)
  rw [sAt_lt hs, sAt_sts hp] at this
  exact this
theorem settle_stt {xs : List Nx} {R : Rs} : (settleR xs R).2.stt = 2 ∨ (settleR xs R).2.stt = 3 ∨ (settleR xs R).2.stt = R.stt := by
  show (if _ then (if _ then (2 : Int) else 3) else R.stt) = 2 ∨ (if _ then (if _ then (2 : Int) else 3) else R.stt) = 3 ∨ (if _ then (if _ then (2 : Int) else 3) else R.stt) = R.stt
  split
  · split
    · exact .inl rfl
    · exact .inr (.inl rfl)
  · exact .inr (.inr rfl)
/-- a course, in its midst -/
structure Cs (xs : List Nx) (B M : Nat → Int) (N : Nat → List Nat) (step lea : Int) (R : Rs) : Prop where
  may : May xs R
  rsb : RsB R.ps
  stt : R.stt = 1 ∨ R.stt = 2 ∨ R.stt = 3
  cv : CvL B M N R.ps
  lev : sumI lev R.ps = step
  tr : sumI Pt.tr R.ps = lea
section
variable {xs : List Nx} {B M : Nat → Int} {N : Nat → List Nat} {step lea : Int} {R : Rs}
theorem settle_cs (hl : R.ps.length = xs.length) (hB : ∀ i, i < xs.length → 1 ≤ B i ∧ 0 ≤ M i) (h : CvL B M N R.ps) : CvL B M N (settleR xs R).2.ps ∧ sumI lev (settleR xs R).2.ps = sumI lev R.ps ∧ sumI Pt.tr (settleR xs R).2.ps = sumI Pt.tr R.ps := by
  obtain ⟨h1, h2⟩ := settle_pt (xs := xs) hl
  have key : ∀ (i : Nat) (p q : Pt), R.ps[i]? = some p → (settleR xs R).2.ps[i]? = some q → Cv (B i) (M i) (N i) p ∧ q.tr = p.tr ∧ q.rs = p.rs ∧ (q.st = p.st ∨ p.st = 1 ∧ (q.st = 2 ∨ q.st = 7)) := fun i p q hp hq => by
    obtain ⟨s, h3, h4⟩ := h2 i p hp
    obtain rfl := Option.some.inj (h3.symm.trans hq)
    exact ⟨h i p hp, rfl, rfl, h4⟩
  refine ⟨fun i q hq => ?_, sumI_congr h1 fun i p q hp hq => ?_, sumI_congr h1 fun i p q hp hq => (key i p q hp hq).2.1⟩
  · have hi := (List.getElem?_eq_some_iff.1 hq).1
    have hp : R.ps[i]? = some (R.ps[i]'(by omega)) := List.getElem?_eq_getElem _
    obtain ⟨k1, k2, k3, k4⟩ := key i _ q hp hq
    have hb := hB i (by omega)
    unfold Cv at k1 ⊢
    rw [k2, k3]
    rcases k4 with k4 | ⟨k4, k5 | k5⟩
    · rw [k4]; exact k1
    · rcases k1 with ⟨_, t, r⟩ | k | k | k | k | k | k
      · exact .inr (.inl ⟨k5, by omega, by omega, by omega, r⟩)
      all_goals (exfalso; have := k.1; omega)
    · rcases k1 with ⟨_, t, r⟩ | k | k | k | k | k | k
      · exact .inr (.inr (.inr (.inr (.inr (.inr ⟨k5, t, r⟩)))))
      all_goals (exfalso; have := k.1; omega)
  · obtain ⟨k1, k2, _, k4⟩ := key i p q hp hq
    unfold Rn.lev
    rw [k2]
    rcases k4 with k4 | ⟨k4, k5⟩
    · rw [k4]
    · have ht : p.tr = 0 := by
        unfold Cv at k1
        rcases k1 with k | k | k | k | k | k | k
        · exact k.2.1
        all_goals (exfalso; have := k.1; omega)
      rw [k4, ht]
      rcases k5 with k5 | k5 <;> rw [k5] <;> decide
/-- one node is turned -/
theorem set_cs {R : Rs} (h : CvL B M N R.ps) {i : Nat} {q : Pt} (hq : Cv (B i) (M i) (N i) q) : CvL B M N (R.ps.set i q) := fun j x hj => by
  rw [List.getElem?_set] at hj
  split at hj
  · rename_i e
    subst e
    split at hj
    · obtain rfl := Option.some.inj hj; exact hq
    · cases hj
  · exact h j x hj
end
theorem ref_ok {R : Rs} {i : Nat} {p : Pt} (hp : R.ps[i]? = some p) : refI R (i : Int) [p.st] = 0 := by
  unfold refI
  rw [show hasI R.ps.length (i : Int) = true by unfold hasI; have := (List.getElem?_eq_some_iff.1 hp).1; simp; omega, if_pos rfl, sAt_sts hp]
  simp
theorem trAt_at {ps : List Pt} {i : Nat} {p : Pt} (hp : ps[i]? = some p) : trAt ps (i : Int) = p.tr := by unfold trAt; simp [hp]
theorem buAt_at {xs : List Nx} {i : Nat} {x : Nx} (hx : xs[i]? = some x) : buAt xs (i : Int) = x.bu := by unfold buAt; simp [hx]
section
variable {xs : List Nx} {B M : Nat → Int} {N : Nat → List Nat} {step lea : Int} {R : Rs}
/-- what is common to the steps that settle -/
theorem co_core (hb : ∀ x ∈ xs, 1 ≤ x.bu) (hB : ∀ i, i < xs.length → 1 ≤ B i ∧ 0 ≤ M i) (h : Cs xs B M N step lea R) {i : Nat} {p q : Pt} (hp : R.ps[i]? = some p) (hq : Cv (B i) (M i) (N i) q) (hl : Rn.lev q = Rn.lev p + 1) (ht : q.tr = p.tr) {R' : Rs} (hR : R' = (settleR xs ⟨R.stt, R.ps.set i q⟩).2) (hm : May xs R') (hs : RsB R'.ps) : Cs xs B M N (step + 1) lea R' := by
  have _ := hb
  have hll : (R.ps.set i q).length = xs.length := by simp; exact h.may.1.1
  obtain ⟨k1, k2, k3⟩ := settle_cs (R := ⟨R.stt, R.ps.set i q⟩) hll hB (set_cs h.cv hq)
  subst hR
  refine ⟨hm, hs, ?_, k1, ?_, ?_⟩
  · rcases settle_stt (xs := xs) (R := ⟨R.stt, R.ps.set i q⟩) with e | e | e
    · exact .inr (.inl e)
    · exact .inr (.inr e)
    · rw [e]; exact h.stt
  · rw [k2, sumI_set _ _ _ _ _ hp, h.lev]; omega
  · rw [k3, sumI_set _ _ _ _ _ hp, h.tr]; omega
theorem co_lease (h : Cs xs B M N step lea R) {i : Nat} {p : Pt} (hp : R.ps[i]? = some p) (h2 : p.st = 2) : (leaseR R (i : Int)).1.2 = 0 ∧ Cs xs B M N (step + 1) (lea + 1) (leaseR R (i : Int)).2 := by
  have hr := ref_ok hp
  rw [h2] at hr
  have hm := lease_may h.may (i : Int)
  have hs : RsB (doR xs R 1 (i : Int) []).2.ps := do_rsb h.rsb (by simp)
  have hs : RsB (leaseR R (i : Int)).2.ps := hs
  unfold leaseR at hm hs ⊢
  rw [if_neg (by rw [hr]; decide)] at hm hs ⊢
  simp only [Int.toNat_natCast] at hm hs ⊢
  rw [modify_set hp] at hm hs ⊢
  have hc := h.cv i p hp
  have hc' : 0 ≤ p.tr ∧ p.tr ≤ M i ∧ p.tr < B i ∧ p.rs = [] := by
    unfold Cv at hc
    rcases hc with k | k | k | k | k | k | k
    · exfalso; have := k.1; omega
    · exact k.2
    all_goals (exfalso; have := k.1; omega)
  refine ⟨by trivial, hm, hs, h.stt, set_cs h.cv (.inr (.inr (.inl ⟨rfl, by show 1 ≤ p.tr + 1; omega, by show p.tr + 1 ≤ _; omega, by show p.tr + 1 ≤ _; omega, hc'.2.2.2⟩))), ?_, ?_⟩
  · rw [sumI_set _ _ _ _ _ hp, h.lev]
    have e1 : Rn.lev p = 3 * p.tr := by unfold Rn.lev; rw [if_pos h2]
    have e2 : Rn.lev ⟨3, p.tr + 1, p.rs⟩ = 3 * (p.tr + 1) - 2 := by unfold Rn.lev; rfl
    rw [e1, e2]; omega
  · rw [sumI_set _ _ _ _ _ hp, h.tr]
    show lea - p.tr + (p.tr + 1) = lea + 1
    omega
theorem co_wake (hb : ∀ x ∈ xs, 1 ≤ x.bu) (hB : ∀ i, i < xs.length → 1 ≤ B i ∧ 0 ≤ M i) (h : Cs xs B M N step lea R) {i : Nat} {p : Pt} (hp : R.ps[i]? = some p) (h4 : p.st = 4) : (wakeR xs R (i : Int)).1.2 = 0 ∧ Cs xs B M N (step + 1) lea (wakeR xs R (i : Int)).2 := by
  have hr := ref_ok hp
  rw [h4] at hr
  have hm := wake_may hb h.may (i : Int)
  have hs : RsB (doR xs R 4 (i : Int) []).2.ps := do_rsb h.rsb (by simp)
  have hs : RsB (wakeR xs R (i : Int)).2.ps := hs
  have hc := h.cv i p hp
  have hc' : 1 ≤ p.tr ∧ p.tr ≤ M i ∧ p.tr < B i ∧ p.rs = [] := by
    unfold Cv at hc
    rcases hc with k | k | k | k | k | k | k
    · exfalso; have := k.1; omega
    · exfalso; have := k.1; omega
    · exfalso; have := k.1; omega
    · exact k.2
    all_goals (exfalso; have := k.1; omega)
  unfold wakeR settled at hm hs ⊢
  rw [if_neg (by rw [hr]; decide)] at hm hs ⊢
  unfold putS at hm hs ⊢
  simp only [Int.toNat_natCast] at hm hs ⊢
  rw [modify_set hp] at hm hs ⊢
  refine ⟨by trivial, co_core hb hB h hp (q := { p with st := 2 }) (.inr (.inl ⟨rfl, by show 0 ≤ p.tr; omega, hc'.2.1, hc'.2.2.1, hc'.2.2.2⟩)) ?_ rfl rfl hm hs⟩
  have e1 : Rn.lev p = 3 * p.tr - 1 := by unfold Rn.lev; rw [h4]; rfl
  have e2 : Rn.lev { p with st := 2 } = 3 * p.tr := by unfold Rn.lev; rfl
  rw [e1, e2]; omega
theorem co_miss (hb : ∀ x ∈ xs, 1 ≤ x.bu) (hB : ∀ i, i < xs.length → 1 ≤ B i ∧ 0 ≤ M i) (hM : ∀ i x, xs[i]? = some x → x.bu = B i ∧ M i ≤ B i) (h : Cs xs B M N step lea R) {i : Nat} {p : Pt} (hp : R.ps[i]? = some p) (h3 : p.st = 3) (ht : p.tr ≤ M i) : (missR xs R (i : Int)).1.2 = 0 ∧ Cs xs B M N (step + 1) lea (missR xs R (i : Int)).2 := by
  have hr := ref_ok hp
  rw [h3] at hr
  have hm := miss_may hb h.may (i : Int)
  have hs : RsB (doR xs R 3 (i : Int) []).2.ps := do_rsb h.rsb (by simp)
  have hs : RsB (missR xs R (i : Int)).2.ps := hs
  have hi : i < xs.length := by rw [← h.may.1.1]; exact (List.getElem?_eq_some_iff.1 hp).1
  have hx : xs[i]? = some (xs[i]'hi) := List.getElem?_eq_getElem _
  have hbx := hM i _ hx
  have hc := h.cv i p hp
  have hc' : 1 ≤ p.tr ∧ p.tr ≤ M i + 1 ∧ p.tr ≤ B i ∧ p.rs = [] := by
    unfold Cv at hc
    rcases hc with k | k | k | k | k | k | k
    · exfalso; have := k.1; omega
    · exfalso; have := k.1; omega
    · exact k.2
    all_goals (exfalso; have := k.1; omega)
  have e1 : Rn.lev p = 3 * p.tr - 2 := by unfold Rn.lev; rw [h3]; rfl
  unfold missR settled at hm hs ⊢
  rw [if_neg (by rw [hr]; decide), trAt_at hp, buAt_at hx, hbx.1] at hm hs ⊢
  by_cases hbd : p.tr = B i
  · rw [if_pos hbd] at hm hs ⊢
    unfold putS at hm hs ⊢
    simp only [Int.toNat_natCast] at hm hs ⊢
    rw [modify_set hp] at hm hs ⊢
    refine ⟨by trivial, co_core hb hB h hp (q := { p with st := 6 }) (.inr (.inr (.inr (.inr (.inr (.inl ⟨rfl, hbd, by omega, hc'.2.2.2⟩)))))) ?_ rfl rfl hm hs⟩
    have e2 : Rn.lev { p with st := 6 } = 3 * p.tr - 1 := by unfold Rn.lev; rfl
    rw [e1, e2]; omega
  · rw [if_neg hbd] at hm hs ⊢
    unfold putS at hm hs ⊢
    simp only [Int.toNat_natCast] at hm hs ⊢
    rw [modify_set hp] at hm hs ⊢
    refine ⟨by trivial, co_core hb hB h hp (q := { p with st := 4 }) (.inr (.inr (.inr (.inl ⟨rfl, hc'.1, ht, by show p.tr < _; omega, hc'.2.2.2⟩)))) ?_ rfl rfl hm hs⟩
    have e2 : Rn.lev { p with st := 4 } = 3 * p.tr - 1 := by unfold Rn.lev; rfl
    rw [e1, e2]; omega
theorem co_fin (hb : ∀ x ∈ xs, 1 ≤ x.bu) (hB : ∀ i, i < xs.length → 1 ≤ B i ∧ 0 ≤ M i) (h : Cs xs B M N step lea R) {i : Nat} {p : Pt} (hp : R.ps[i]? = some p) (h3 : p.st = 3) (ht : ¬ p.tr ≤ M i) (hN : (N i).length ≤ 64 ∧ ∀ d ∈ N i, d < 256) : (finishR xs R (i : Int) (N i)).1.2 = 0 ∧ Cs xs B M N (step + 1) lea (finishR xs R (i : Int) (N i)).2 := by
  have hr := ref_ok hp
  rw [h3] at hr
  have hm := finish_may hb h.may (i : Int) (N i)
  have hs : RsB (doR xs R 2 (i : Int) (N i)).2.ps := do_rsb h.rsb hN.2
  have hs : RsB (finishR xs R (i : Int) (N i)).2.ps := hs
  have hc := h.cv i p hp
  have hc' : 1 ≤ p.tr ∧ p.tr ≤ M i + 1 ∧ p.tr ≤ B i ∧ p.rs = [] := by
    unfold Cv at hc
    rcases hc with k | k | k | k | k | k | k
    · exfalso; have := k.1; omega
    · exfalso; have := k.1; omega
    · exact k.2
    all_goals (exfalso; have := k.1; omega)
  unfold finishR settled at hm hs ⊢
  rw [if_neg (by simp; intro _; omega), if_neg (by rw [hr]; decide)] at hm hs ⊢
  simp only [Int.toNat_natCast] at hm hs ⊢
  rw [modify_set hp] at hm hs ⊢
  refine ⟨by trivial, co_core hb hB h hp (q := ⟨5, p.tr, N i⟩) (.inr (.inr (.inr (.inr (.inl ⟨rfl, by show p.tr = _; omega, by show p.tr ≤ _; omega, rfl⟩))))) ?_ rfl rfl hm hs⟩
  have e1 : Rn.lev p = 3 * p.tr - 2 := by unfold Rn.lev; rw [h3]; rfl
  have e2 : Rn.lev ⟨5, p.tr, N i⟩ = 3 * p.tr - 1 := by unfold Rn.lev; rfl
  rw [e1, e2]; omega
/-- how many steps there are at most -/
theorem Cs.most (hB : ∀ i, i < xs.length → 1 ≤ B i ∧ 0 ≤ M i) (h : Cs xs B M N step lea R) {all : Int} (ha : sumI Pt.tr R.ps ≤ all) : step ≤ 3 * all ∧ lea ≤ all := by
  refine ⟨?_, by rw [← h.tr]; exact ha⟩
  have h1 : sumI Rn.lev R.ps ≤ sumI (fun p => 3 * p.tr) R.ps := sumI_le fun p hp => by
    obtain ⟨i, hi⟩ := List.getElem?_of_mem hp
    have hc := h.cv i p hi
    have hb := hB i (by rw [← h.may.1.1]; exact (List.getElem?_eq_some_iff.1 hi).1)
    have : 0 ≤ p.tr := by
      unfold Cv at hc
      rcases hc with k | k | k | k | k | k | k <;> omega
    unfold Rn.lev
    split
    · omega
    · split
      · omega
      · split <;> omega
  have h2 := sumI_mul Pt.tr R.ps
  rw [← h.lev]
  omega
theorem Cs.nneg (hB : ∀ i, i < xs.length → 1 ≤ B i ∧ 0 ≤ M i) (h : Cs xs B M N step lea R) : 0 ≤ lea := by
  rw [← h.tr]
  have h1 : sumI (fun _ => 0) R.ps ≤ sumI Pt.tr R.ps := sumI_le fun p hp => by
    obtain ⟨i, hi⟩ := List.getElem?_of_mem hp
    have hc := h.cv i p hi
    have hb := hB i (by rw [← h.may.1.1]; exact (List.getElem?_eq_some_iff.1 hi).1)
    unfold Cv at hc
    rcases hc with k | k | k | k | k | k | k <;> omega
  have h2 : ∀ ps : List Pt, sumI (fun _ => 0) ps = 0 := fun ps => by
    induction ps with
    | nil => rfl
    | cons a l ih => simp [sumI] at ih ⊢; try exact ih
  rw [h2] at h1
  exact h1
def sumB (xs : List Nx) : Int := (xs.map Nx.bu).sum
theorem sum_le2 : ∀ (ps : List Pt) (xs : List Nx), ps.length = xs.length → (∀ (i : Nat) (p : Pt) (x : Nx), ps[i]? = some p → xs[i]? = some x → p.tr ≤ x.bu) → sumI Pt.tr ps ≤ sumB xs
  | [], [], _, _ => by simp [sumI, sumB]
  | p :: ps, x :: xs, hl, h => by
    have h1 := h 0 p x rfl rfl
    have h2 := sum_le2 ps xs (by simpa using hl) fun i p x hp hx => h (i + 1) p x (by simpa using hp) (by simpa using hx)
    simp [sumI, sumB] at h2 ⊢
    omega
theorem Cs.all (hB : ∀ i, i < xs.length → 1 ≤ B i ∧ 0 ≤ M i) (hM : ∀ (i : Nat) (x : Nx), xs[i]? = some x → x.bu = B i ∧ M i ≤ B i) (h : Cs xs B M N step lea R) : sumI Pt.tr R.ps ≤ sumB xs := by
  refine sum_le2 _ _ h.may.1.1 fun i p x hp hx => ?_
  have hc := h.cv i p hp
  have h1 := hM i x hx
  have h2 := hB i (List.getElem?_eq_some_iff.1 hx).1
  unfold Cv at hc
  rcases hc with k | k | k | k | k | k | k <;> omega
end
theorem sAt_eq {ps : List Pt} {e : Int} {q : Pt} (h : ps[e.toNat]? = some q) : sAt (sts ps) e = q.st := by
  unfold sAt
  rw [sts_at h]
  rfl
/-- as long as a run is live some node can go on -/
theorem live_some {xs : List No} (hv : Val xs) (hc : ∀ x, ¬ Waits (eg xs) x x) {R : Rs} (h : May (xs.map nx) R) (h1 : R.stt = 1) : ∃ (i : Nat) (p : Pt), R.ps[i]? = some p ∧ (p.st = 2 ∨ p.st = 3 ∨ p.st = 4) := by
  have hl : R.ps.length = xs.length := by have := h.1.1; simpa using this
  have ha : allSet R.ps = false ∧ OH (xs.map nx) (sts R.ps) := by
    rcases h.2 with k | k | k | k
    · exact k.2
    · exfalso; have := k.1; omega
    · exfalso; have := k.1; omega
    · exfalso; have := k.1; rw [h1] at this; exact absurd this (by decide)
  have h0 : ∃ (i : Nat) (p : Pt), R.ps[i]? = some p ∧ setS p.st = false := by
    have := ha.1
    unfold allSet at this
    rw [List.all_eq_false] at this
    obtain ⟨p, hp, hs⟩ := this
    obtain ⟨i, hi⟩ := List.getElem?_of_mem hp
    exact ⟨i, p, hi, by simpa using hs⟩
  obtain ⟨i0, p0, hi0, hs0⟩ := h0
  obtain ⟨d, _, ⟨i, p, hp, hs, hd⟩, hmin⟩ := least (P := fun d => ∃ (i : Nat) (p : Pt), R.ps[i]? = some p ∧ setS p.st = false ∧ deep (eg xs) xs.length i = d) ⟨i0, p0, hi0, hs0, rfl⟩
  refine ⟨i, p, hp, ?_⟩
  have h7 := h.2 |> fun _ => (show 1 ≤ p.st ∧ p.st ≤ 7 from by
    have hi : i < (xs.map nx).length := by rw [List.length_map, ← hl]; exact (List.getElem?_eq_some_iff.1 hp).1
    exact attOk_st (h.1.2 i _ p (List.getElem?_eq_getElem hi) hp).2)
  have hns : p.st ≠ 5 ∧ p.st ≠ 6 ∧ p.st ≠ 7 := by
    unfold setS doneS lostS at hs
    simp at hs
    omega
  by_cases h11 : p.st = 1
  · exfalso
    have hi : i < xs.length := by rw [← hl]; exact (List.getElem?_eq_some_iff.1 hp).1
    have hx : xs[i]? = some (xs[i]'hi) := List.getElem?_eq_getElem _
    generalize xs[i]'hi = x at hx
    have ho := (ha.2 i (nx x) (nx_at hx)).2.1 (by rw [sAt_sts hp]; exact h11)
    have hex : ∃ e ∈ x.nl ++ x.al, setS (sAt (sts R.ps) e) = false := Classical.byContradiction fun hn => by
      have hall : ∀ e ∈ x.nl ++ x.al, setS (sAt (sts R.ps) e) = true := fun e he => by
        cases hh : setS (sAt (sts R.ps) e)
        · exact absurd ⟨e, he, hh⟩ hn
        · rfl
      have h2 : ¬ ∃ e ∈ (nx x).nl, lostS (sAt (sts R.ps) e) = true := fun hh => by
        have := outl_two.2 hh
        rw [ho] at this
        exact absurd this (by decide)
      have h3 : outl (sts R.ps) (nx x) = 1 := outl_one.2 ⟨fun e he => by
        have h4 := hall e (List.mem_append.2 (.inl he))
        have h5 : lostS (sAt (sts R.ps) e) = false := by
          cases hh : lostS (sAt (sts R.ps) e)
          · rfl
          · exact absurd ⟨e, he, hh⟩ h2
        unfold setS at h4
        rw [h5, Bool.or_false] at h4
        exact h4, fun e he => hall e (List.mem_append.2 (.inr he))⟩
      rw [ho] at h3
      exact absurd h3 (by decide)
    obtain ⟨e, he, hse⟩ := hex
    obtain ⟨e0, e1⟩ := hv.2 x (List.mem_of_getElem? hx) e he
    have hel : e.toNat < R.ps.length := by rw [hl]; omega
    have hq : R.ps[e.toNat]? = some (R.ps[e.toNat]'hel) := List.getElem?_eq_getElem _
    rw [sAt_eq hq] at hse
    have hin : e.toNat ∈ eg xs i := by
      rw [eg_at hx, ← List.map_append]
      exact List.mem_map_of_mem he
    have hlt := deep_lt (n := xs.length) hin (by omega) (hc _)
    have := hmin _ ⟨e.toNat, _, hq, hse, rfl⟩
    omega
  · omega
/-- two ends of courses are alike -/
theorem fin_uniq {xs : List No} (hv : Val xs) (hc : ∀ x, ¬ Waits (eg xs) x x) {B M : Nat → Int} {N : Nat → List Nat} {s l s' l' : Int} {R R' : Rs} (h : Cs (xs.map nx) B M N s l R) (h' : Cs (xs.map nx) B M N s' l' R') (h1 : R.stt ≠ 1) (h1' : R'.stt ≠ 1) : R = R' := by
  have ended : ∀ {s l : Int} {R : Rs}, Cs (xs.map nx) B M N s l R → R.stt ≠ 1 → R.ps.length = xs.length ∧ allSet R.ps = true ∧ (R.stt = if allDone R.ps then 2 else 3) ∧ ∀ (i : Nat) (x : No) (p : Pt), xs[i]? = some x → R.ps[i]? = some p → (p.st = 7 ↔ ∃ e ∈ x.nl, lostS (sAt (sts R.ps) e) = true) := fun {s l R} h h1 => by
    have hl : R.ps.length = xs.length := by have := h.may.1.1; simpa using this
    refine ⟨hl, ?_⟩
    rcases h.may.2 with k | ⟨k1, k2⟩ | ⟨k1, k2, k3, k4⟩ | ⟨k1, _⟩
    · exact absurd k.1 h1
    · refine ⟨allDone_set k2, by rw [k2, k1]; rfl, fun i x p hx hp => ?_⟩
      have hd : ∀ (j : Nat) (q : Pt), R.ps[j]? = some q → q.st = 5 := fun j q hq => by
        unfold allDone at k2
        have := List.all_eq_true.1 k2 q (List.mem_of_getElem? hq)
        simpa [doneS] using this
      refine ⟨fun e => absurd (hd i p hp) (by omega), fun ⟨e, he, hle⟩ => ?_⟩
      obtain ⟨e0, e1⟩ := hv.2 x (List.mem_of_getElem? hx) e (List.mem_append.2 (.inl he))
      have hq : R.ps[e.toNat]? = some (R.ps[e.toNat]'(by omega)) := List.getElem?_eq_getElem _
      rw [sAt_eq hq, hd _ _ hq] at hle
      exact absurd hle (by decide)
    · refine ⟨k2, by rw [k3, k1]; rfl, fun i x p hx hp => ?_⟩
      have := (k4 i (nx x) (nx_at hx)).1
      rw [sAt_sts hp] at this
      rw [this]
      exact outl_two
    · exfalso
      rcases h.stt with e | e | e
      · exact h1 e
      · rw [e] at k1; exact absurd k1 (by decide)
      · rw [e] at k1; exact absurd k1 (by decide)
  obtain ⟨hl, hs, ht, h7⟩ := ended h h1
  obtain ⟨hl', hs', ht', h7'⟩ := ended h' h1'
  have key : ∀ (d i : Nat) (p p' : Pt), deep (eg xs) xs.length i = d → R.ps[i]? = some p → R'.ps[i]? = some p' → p = p' := by
    intro d
    induction d using Nat.strongRecOn with
    | _ d ih =>
      intro i p p' hd hp hp'
      have hi : i < xs.length := by rw [← hl]; exact (List.getElem?_eq_some_iff.1 hp).1
      have hx : xs[i]? = some (xs[i]'hi) := List.getElem?_eq_getElem _
      generalize xs[i]'hi = x at hx
      have hsame : ∀ e ∈ x.nl, sAt (sts R.ps) e = sAt (sts R'.ps) e := fun e he => by
        have he' : e ∈ x.nl ++ x.al := List.mem_append.2 (.inl he)
        obtain ⟨e0, e1⟩ := hv.2 x (List.mem_of_getElem? hx) e he'
        have hq : R.ps[e.toNat]? = some (R.ps[e.toNat]'(by omega)) := List.getElem?_eq_getElem _
        have hq' : R'.ps[e.toNat]? = some (R'.ps[e.toNat]'(by omega)) := List.getElem?_eq_getElem _
        have hin : e.toNat ∈ eg xs i := by
          rw [eg_at hx, ← List.map_append]
          exact List.mem_map_of_mem he'
        have hlt := deep_lt (n := xs.length) hin (by omega) (hc _)
        rw [sAt_eq hq, sAt_eq hq', ih _ (by omega) e.toNat _ _ rfl hq hq']
      have hiff : p.st = 7 ↔ p'.st = 7 := by
        rw [h7 i x p hx hp, h7' i x p' hx hp']
        exact ⟨fun ⟨e, he, hh⟩ => ⟨e, he, by rw [← hsame e he]; exact hh⟩, fun ⟨e, he, hh⟩ => ⟨e, he, by rw [hsame e he]; exact hh⟩⟩
      have set5 : ∀ {ps : List Pt} {q : Pt}, allSet ps = true → ps[i]? = some q → q.st = 5 ∨ q.st = 6 ∨ q.st = 7 := fun ha hq => by
        unfold allSet at ha
        have := List.all_eq_true.1 ha _ (List.mem_of_getElem? hq)
        unfold setS doneS lostS at this
        simp at this
        exact this
      have a1 := set5 hs hp
      have a2 := set5 hs' hp'
      have c1 := h.cv i p hp
      have c2 := h'.cv i p' hp'
      obtain ⟨st, tr, rs⟩ := p
      obtain ⟨st', tr', rs'⟩ := p'
      unfold Cv at c1 c2
      simp only at *
      rcases c1 with k | k | k | k | k | k | k <;> rcases c2 with k' | k' | k' | k' | k' | k' | k' <;> first
        | (exfalso; omega)
        | (obtain ⟨q1, q2, q3, q4⟩ := k; obtain ⟨q1', q2', q3', q4'⟩ := k'; rw [q1, q1', q2, q2', q4, q4'])
        | (obtain ⟨q1, q2, q3⟩ := k; obtain ⟨q1', q2', q3'⟩ := k'; rw [q1, q1', q2, q2', q3, q3'])
  have hps : R.ps = R'.ps := by
    apply List.ext_getElem?
    intro i
    by_cases hi : i < xs.length
    · have hp : R.ps[i]? = some (R.ps[i]'(by omega)) := List.getElem?_eq_getElem _
      have hp' : R'.ps[i]? = some (R'.ps[i]'(by omega)) := List.getElem?_eq_getElem _
      rw [hp, hp', key _ i _ _ rfl hp hp']
    · rw [List.getElem?_eq_none (by omega), List.getElem?_eq_none (by omega)]
  obtain ⟨st, ps⟩ := R
  obtain ⟨st', ps'⟩ := R'
  simp only at hps ht ht'
  subst hps
  rw [ht, ht']
/-- what the law asks of each node at the end -/
theorem fin_node {xs : List No} {B M : Nat → Int} {N : Nat → List Nat} {s l : Int} {R : Rs} (hB : ∀ i, i < xs.length → 1 ≤ B i ∧ 0 ≤ M i) (h : Cs (xs.map nx) B M N s l R) (hs : allSet R.ps = true) {i : Nat} {p : Pt} (hp : R.ps[i]? = some p) : p.st = 7 ∨ p.st = 5 ∧ p.tr = M i + 1 ∧ M i + 1 ≤ B i ∨ p.st = 6 ∧ p.tr = B i ∧ M i = B i := by
  have _ := hB
  have a1 : p.st = 5 ∨ p.st = 6 ∨ p.st = 7 := by
    unfold allSet at hs
    have := List.all_eq_true.1 hs _ (List.mem_of_getElem? hp)
    unfold setS doneS lostS at this
    simp at this
    exact this
  have c1 := h.cv i p hp
  unfold Cv at c1
  rcases c1 with k | k | k | k | k | k | k
  · exfalso; omega
  · exfalso; omega
  · exfalso; omega
  · exfalso; omega
  · exact .inr (.inl ⟨k.1, k.2.1, by omega⟩)
  · exact .inr (.inr ⟨k.1, k.2.1, k.2.2.1⟩)
  · exact .inl k.1
theorem fin_set {xs : List Nx} {B M : Nat → Int} {N : Nat → List Nat} {s l : Int} {R : Rs} (h : Cs xs B M N s l R) (h1 : R.stt ≠ 1) : allSet R.ps = true := by
  rcases h.may.2 with k | ⟨k1, k2⟩ | ⟨k1, k2, k3, k4⟩ | ⟨k1, k2, _⟩
  · exact absurd k.1 h1
  · exact allDone_set k2
  · exact k2
  · exact k2
/-- the course's beginning -/
theorem cs_new {xs : List Nx} {B M : Nat → Int} {N : Nat → List Nat} (hb : ∀ x ∈ xs, 1 ≤ x.bu) (hB : ∀ i, i < xs.length → 1 ≤ B i ∧ 0 ≤ M i) : Cs xs B M N 0 0 (newR xs).2 := by
  have hl : (⟨1, List.replicate xs.length ⟨1, 0, []⟩⟩ : Rs).ps.length = xs.length := by simp
  have hcv : CvL B M N (⟨1, List.replicate xs.length ⟨1, 0, []⟩⟩ : Rs).ps := fun i p hp => by
    have := List.eq_of_mem_replicate (List.mem_of_getElem? hp)
    subst this
    exact .inl ⟨rfl, rfl, rfl⟩
  obtain ⟨k1, k2, k3⟩ := settle_cs hl hB hcv
  have z : ∀ f : Pt → Int, f ⟨1, 0, []⟩ = 0 → sumI f (List.replicate xs.length ⟨1, 0, []⟩) = 0 := fun f hf => by
    unfold sumI
    rw [List.map_replicate, hf]
    generalize xs.length = n
    induction n with
    | zero => rfl
    | succ n ih => rw [List.replicate_succ, List.sum_cons, ih]; rfl
  refine ⟨new_may hb, new_rsb xs, ?_, k1, k2.trans (z _ (by unfold Rn.lev; rfl)), k3.trans (z _ rfl)⟩
  rcases settle_stt (xs := xs) (R := ⟨1, List.replicate xs.length ⟨1, 0, []⟩⟩) with e | e | e
  · exact .inr (.inl e)
  · exact .inr (.inr e)
  · exact .inl e
end Rn
end Go.Proofs.Ytiackejbpcjmeaa
