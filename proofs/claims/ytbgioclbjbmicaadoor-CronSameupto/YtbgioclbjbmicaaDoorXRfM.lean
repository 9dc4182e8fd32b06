/- The document's words, numbers, items, sets: the mathematics. -/
import Derived.Test.YtbgioclbjbmicaaDoorXPar
namespace Go.Proofs.YtbgioclbjbmicaaDoor
namespace X

/-- The document's number of digits. -/
def rnum : List UInt8 → Option Nat
  | [a] => if digB a = true then some (a.toNat - 48) else none
  | [a, b] => if a ≠ 48 ∧ digB a = true ∧ digB b = true then some (10 * (a.toNat - 48) + (b.toNat - 48)) else none
  | _ => none
/-- As an int: -1 where there is none. -/
def rnI (l : List UInt8) : Int := match rnum l with | some n => (n : Int) | none => -1
theorem digB_iff (b : UInt8) : digB b = true ↔ 48 ≤ b.toNat ∧ b.toNat ≤ 57 := by simp [digB]
theorem ne48 (a : UInt8) : a ≠ 48 ↔ a.toNat ≠ 48 := by
  constructor
  · intro h e; exact h (UInt8.toNat_inj.1 e)
  · intro h e; subst e; exact h rfl
theorem numL_three (hi : Nat) (hh : hi ≤ 99) (a b c : UInt8) (r : List UInt8) : numL hi true 0 (a :: b :: c :: r) = none := by
  rw [numL]
  split
  · rename_i h1
    rw [numL]
    split
    · rename_i h2
      rw [numL]
      split
      · rename_i h3
        have d1 := (digB_iff a).1 h1.1
        have d2 := (digB_iff b).1 h2.1
        have d3 := (digB_iff c).1 h3.1
        have := h2.2.1
        have := h3.2.1
        have := h3.2.2
        simp at *
        omega
      · rfl
    · rfl
  · rfl
theorem num_eq (l : List UInt8) (lo hi : Nat) (hh : hi ≤ 99) : num l lo hi = match rnum l with | some n => if lo ≤ n ∧ n ≤ hi then some n else none | none => none := by
  match l with
  | [] => simp [num, numL, rnum]
  | [a] =>
    simp only [num, numL, rnum]
    by_cases ha : digB a = true
    · by_cases hn : a.toNat - 48 ≤ hi
      · simp [ha, hn]
      · simp [ha, hn]
    · simp [ha]
  | [a, b] =>
    simp only [num, numL, rnum]
    by_cases ha : digB a = true
    · have d1 := (digB_iff a).1 ha
      by_cases hb : digB b = true
      · have d2 := (digB_iff b).1 hb
        by_cases h0 : a = 48
        · subst h0
          simp
        · have h0' := (ne48 a).1 h0
          have e4 : ¬ a.toNat - 48 = 0 := by omega
          rw [if_pos (show a ≠ 48 ∧ digB a = true ∧ digB b = true from ⟨h0, ha, hb⟩)]
          by_cases hn : 10 * (a.toNat - 48) + (b.toNat - 48) ≤ hi
          · have e1 : a.toNat - 48 ≤ hi := by omega
            rw [if_pos (⟨ha, .inl (by simp), by omega⟩), if_pos ⟨hb, .inr (by omega), by omega⟩]
            simp only
            rw [show (0 * 10 + (a.toNat - 48)) * 10 + (b.toNat - 48) = 10 * (a.toNat - 48) + (b.toNat - 48) by omega]
            simp [hn]
          · have hz : ¬ (lo ≤ 10 * (a.toNat - 48) + (b.toNat - 48) ∧ 10 * (a.toNat - 48) + (b.toNat - 48) ≤ hi) := fun h => hn h.2
            simp only
            rw [if_neg hz, if_neg (show ¬ (digB b = true ∧ (false = true ∨ 0 * 10 + (a.toNat - 48) ≠ 0) ∧ (0 * 10 + (a.toNat - 48)) * 10 + (b.toNat - 48) ≤ hi) from fun h => by have := h.2.2; omega)]
            split
            · rfl
            · rename_i q hq; split at hq <;> cases hq
      · by_cases e1 : a.toNat - 48 ≤ hi <;> simp [ha, hb, e1]
    · simp [ha]
  | a :: b :: c :: r =>
    unfold num
    rw [numL_three hi hh]
    simp [rnum]
theorem rnum_le {l : List UInt8} {n : Nat} (h : rnum l = some n) : n ≤ 99 := by
  match l with
  | [] => simp [rnum] at h
  | [a] =>
    simp only [rnum] at h
    split at h
    · rename_i ha; have := (digB_iff a).1 ha; injection h with h; omega
    · cases h
  | [a, b] =>
    simp only [rnum] at h
    split at h
    · rename_i ha; have := (digB_iff a).1 ha.2.1; have := (digB_iff b).1 ha.2.2; injection h with h; omega
    · cases h
  | a :: b :: c :: r => simp [rnum] at h
theorem rnI_bd (l : List UInt8) : -1 ≤ rnI l ∧ rnI l ≤ 99 := by
  unfold rnI
  cases h : rnum l with
  | none => simp
  | some n => have := rnum_le h; simp only; omega
/-- A number within bounds, by the document's. -/
theorem num_rnI (l : List UInt8) (lo hi : Nat) (hh : hi ≤ 99) : num l lo hi = if (lo : Int) ≤ rnI l ∧ rnI l ≤ hi then some (rnI l).toNat else none := by
  rw [num_eq l lo hi hh]
  unfold rnI
  cases h : rnum l with
  | none => simp only; rw [if_neg (by omega)]
  | some n =>
    simp only
    by_cases k : lo ≤ n ∧ n ≤ hi
    · rw [if_pos k, if_pos (by omega)]; simp
    · rw [if_neg k, if_neg (by omega)]
/-- What holds a sign that is no digit is no number. -/
theorem rnI_sign {l : List UInt8} {c : UInt8} (hc : digB c = false) (h : c ∈ l) : rnI l = -1 := by
  unfold rnI
  have : rnum l = none := by
    match l with
    | [] => cases h
    | [a] => simp at h; subst h; simp [rnum, hc]
    | [a, b] =>
      simp at h
      rcases h with rfl | rfl <;> simp [rnum, hc]
    | a :: b :: c :: r => rfl
  rw [this]
theorem num_sign {l : List UInt8} {c : UInt8} (hc : digB c = false) (h : c ∈ l) (lo hi : Nat) (hh : hi ≤ 99) : num l lo hi = none := by
  rw [num_rnI l lo hi hh, rnI_sign hc h, if_neg (by omega)]

theorem span_star (lo hi : Nat) : spanM [42] lo hi = some (lo, hi, false) := by simp [spanM]
theorem span_one {p : List UInt8} (lo hi : Nat) (hh : hi ≤ 99) (hs : p ≠ [42]) (h : (45 : UInt8) ∉ p) : spanM p lo hi = if (lo : Int) ≤ rnI p ∧ rnI p ≤ hi then some ((rnI p).toNat, (rnI p).toNat, true) else none := by
  unfold spanM
  rw [if_neg hs, cutAt_none h, num_rnI p lo hi hh]
  by_cases k : (lo : Int) ≤ rnI p ∧ rnI p ≤ hi
  · rw [if_pos k, if_pos k]; simp
  · rw [if_neg k, if_neg k]
theorem span_two {x y : List UInt8} (lo hi : Nat) (hh : hi ≤ 99) (h : (45 : UInt8) ∉ x) : spanM (x ++ 45 :: y) lo hi = if (lo : Int) ≤ rnI x ∧ rnI x ≤ rnI y ∧ rnI y ≤ hi then some ((rnI x).toNat, (rnI y).toNat, false) else none := by
  unfold spanM
  have hs : x ++ 45 :: y ≠ [42] := by
    intro e
    have : (45 : UInt8) ∈ [(42 : UInt8)] := by rw [← e]; simp
    simp at this
  rw [if_neg hs, cutAt_hit y h]
  simp only
  rw [num_rnI x lo hi hh]
  by_cases k1 : (lo : Int) ≤ rnI x ∧ rnI x ≤ hi
  · rw [if_pos k1]
    simp only
    rw [num_rnI y _ hi hh]
    by_cases k2 : rnI x ≤ rnI y ∧ rnI y ≤ hi
    · rw [if_pos (show ((rnI x).toNat : Int) ≤ rnI y ∧ rnI y ≤ hi by omega), if_pos (show (lo : Int) ≤ rnI x ∧ rnI x ≤ rnI y ∧ rnI y ≤ hi by omega)]; simp
    · rw [if_neg (show ¬ (((rnI x).toNat : Int) ≤ rnI y ∧ rnI y ≤ hi) by omega), if_neg (show ¬ ((lo : Int) ≤ rnI x ∧ rnI x ≤ rnI y ∧ rnI y ≤ hi) by omega)]; simp
  · rw [if_neg k1, if_neg (show ¬ ((lo : Int) ≤ rnI x ∧ rnI x ≤ rnI y ∧ rnI y ≤ hi) by omega)]
theorem item_none {l : List UInt8} (lo hi : Nat) (h : (47 : UInt8) ∉ l) : itemM l lo hi = match spanM l lo hi with | some (a, b, _) => some (a, b, 1) | none => none := by
  unfold itemM stepM
  rw [cutAt_none h]
  simp only [Bool.false_eq_true, if_false, and_false]
  cases spanM l lo hi with
  | none => rfl
  | some q => rfl
theorem item_hit {a r : List UInt8} (lo hi : Nat) (hh : hi ≤ 99) (h : (47 : UInt8) ∉ a) : itemM (a ++ 47 :: r) lo hi = if 1 ≤ rnI r ∧ rnI r ≤ hi then (match spanM a lo hi with | some (x, y, s) => if s = true then none else some (x, y, (rnI r).toNat) | none => none) else none := by
  unfold itemM stepM
  rw [cutAt_hit r h]
  simp only [if_true, and_true]
  rw [num_rnI r 1 hi hh]
  by_cases k : 1 ≤ rnI r ∧ rnI r ≤ hi
  · rw [if_pos (by omega), if_pos k]
    cases spanM a lo hi with
    | none => rfl
    | some q => rfl
  · rw [if_neg (by omega), if_neg k]
    cases spanM a lo hi with
    | none => rfl
    | some q => rfl
theorem item_many {a r : List UInt8} (lo hi : Nat) (hh : hi ≤ 99) (h : (47 : UInt8) ∉ a) (hr : (47 : UInt8) ∈ r) : itemM (a ++ 47 :: r) lo hi = none := by
  rw [item_hit lo hi hh h, rnI_sign (by decide) hr, if_neg (by omega)]
/-- The shapes of a text at a sign: the parts that split makes of it. -/
def Shape (c : UInt8) (l : List UInt8) : Prop :=
  (c ∉ l ∧ splitOn c l = [l]) ∨ (∃ a r, l = a ++ c :: r ∧ c ∉ a ∧ c ∉ r ∧ splitOn c l = [a, r]) ∨ (∃ a r, l = a ++ c :: r ∧ c ∉ a ∧ c ∈ r ∧ 2 < (splitOn c l).length)
theorem shape (c : UInt8) (l : List UInt8) : Shape c l := by
  rcases first_of c l with h | ⟨a, r, rfl, h⟩
  · exact .inl ⟨h, splitOn_none h⟩
  · rcases first_of c r with k | ⟨b, q, rfl, k⟩
    · exact .inr (.inl ⟨a, r, rfl, h, k, by rw [splitOn_hit r h, splitOn_none k]⟩)
    · refine .inr (.inr ⟨a, _, rfl, h, by simp, ?_⟩)
      rw [splitOn_hit _ h, splitOn_hit _ k]
      have := splitOn_ne c q
      cases e : splitOn c q with
      | nil => exact absurd e this
      | cons x t => simp

theorem addV_at (S : Sets) (o a b k v : Nat) : addV S o a b k (o + v) = (S (o + v) || (decide (a ≤ v) && decide (v ≤ b) && decide ((v - a) % k = 0))) := by
  unfold addV
  rw [show o + v - (o + a) = v - a by omega, show decide (o + a ≤ o + v) = decide (a ≤ v) from decide_eq_decide.2 (by omega), show decide (o + v ≤ o + b) = decide (v ≤ b) from decide_eq_decide.2 (by omega)]
end X
end Go.Proofs.YtbgioclbjbmicaaDoor
