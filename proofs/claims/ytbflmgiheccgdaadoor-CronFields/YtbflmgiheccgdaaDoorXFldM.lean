/- CronFields: words of listed values, read: the mathematics. -/
import Derived.Test.YtbflmgiheccgdaaDoorXTextM
namespace Go.Proofs.YtbflmgiheccgdaaDoor
namespace X
/-- A value as an item, in one of three ways. -/
def lw (hi : Nat) (r : Nat × Nat) : List UInt8 :=
  if r.1 = 1 then Lib.decDigits r.2 ++ 45 :: Lib.decDigits r.2 else if r.1 = 2 then Lib.decDigits r.2 ++ 45 :: (Lib.decDigits r.2 ++ 47 :: Lib.decDigits hi) else Lib.decDigits r.2
theorem item_lw (f k v : Nat) (hf : f < 5) (hk : k < 3) (h1 : loF f ≤ v) (h2 : v ≤ hiF f) : (itemM (lw (hiF f) (k, v)) (loF f) (hiF f) = some (v, v, if k = 2 then hiF f else 1)) ∧ (∀ x ∈ lw (hiF f) (k, v), isBl x = false ∧ x ≠ 44) ∧ 1 ≤ (lw (hiF f) (k, v)).length ∧ (lw (hiF f) (k, v)).length ≤ 8 := by
  have hh := loF_le f
  have key : (List.range 5).all (fun f => (List.range 3).all fun k => (List.range 60).all fun v => !(decide (loF f ≤ v) && decide (v ≤ hiF f)) || (decide (itemM (lw (hiF f) (k, v)) (loF f) (hiF f) = some (v, v, if k = 2 then hiF f else 1)) && ((lw (hiF f) (k, v)).all fun x => !(isBl x) && decide (x ≠ 44)) && (decide (1 ≤ (lw (hiF f) (k, v)).length) && decide ((lw (hiF f) (k, v)).length ≤ 8)))) = true := by decide +kernel
  have k1 := List.all_eq_true.1 (List.all_eq_true.1 (List.all_eq_true.1 key f (by simpa using hf)) k (by simpa using hk)) v (by simp; omega)
  simp only [h1, h2, decide_true, Bool.and_true, Bool.not_true, Bool.false_or, Bool.and_eq_true, decide_eq_true_eq, List.all_eq_true, Bool.not_eq_true'] at k1
  exact ⟨k1.1.1, k1.1.2, k1.2.1, k1.2.2⟩
theorem addV_one (S : Sets) (o v m : Nat) (i : Nat) : addV S o v v m i = (S i || decide (i = o + v)) := by
  unfold addV
  congr 1
  by_cases e : i = o + v
  · subst e; simp
  · have : ¬ (o + v ≤ i ∧ i ≤ o + v) := by omega
    rw [show decide (i = o + v) = false by simp [e], show (decide (o + v ≤ i) && decide (i ≤ o + v)) = false by rw [Bool.eq_false_iff]; intro h; simp at h; exact this h]
    rfl
theorem addItems_lw (f o : Nat) (hf : f < 5) : ∀ (L : List (Nat × Nat)) (S : Sets), (∀ r ∈ L, r.1 < 3 ∧ loF f ≤ r.2 ∧ r.2 ≤ hiF f) →
    addItems o (loF f) (hiF f) (L.map (lw (hiF f))) S = some (fun i => S i || L.any fun r => decide (i = o + r.2))
  | [], S, _ => by simp [addItems]
  | (k, v) :: L, S, h => by
    have h1 := h (k, v) (by simp)
    rw [List.map_cons, addItems, (item_lw f k v hf h1.1 h1.2.1 h1.2.2).1]
    show addItems o (loF f) (hiF f) (L.map (lw (hiF f))) (addV S o v v _) = _
    rw [addItems_lw f o hf L _ (fun x hx => h x (by simp [hx]))]
    congr 1
    funext i
    rw [addV_one, List.any_cons, Bool.or_assoc]
/-- The word of listed values. -/
def lword (f : Nat) (L : List (Nat × Nat)) : List UInt8 := if L = [] then [42] else Lib.join (L.map (lw (hiF f))) [44]
/-- Which values it has. -/
def lhas (f : Nat) (L : List (Nat × Nat)) (v : Nat) : Bool := decide (loF f ≤ v) && decide (v ≤ hiF f) && (L.isEmpty || L.any fun r => decide (r.2 = v))
def LOk (f : Nat) (L : List (Nat × Nat)) : Prop := L.length ≤ 20 ∧ ∀ r ∈ L, r.1 < 3 ∧ loF f ≤ r.2 ∧ r.2 ≤ hiF f
theorem join_blank (xs : List (List UInt8)) : (∀ x ∈ xs, ∀ b ∈ x, isBl b = false) → ∀ b ∈ Lib.join xs [44], isBl b = false := by
  induction xs with
  | nil => intro _ b hb; simp [Lib.join, List.intercalate] at hb
  | cons x xs ih =>
    intro hx b hb
    cases xs with
    | nil =>
      have e' : Lib.join [x] [44] = x := by simp [Lib.join, List.intercalate, List.intersperse]
      rw [e'] at hb
      exact hx x (by simp) b hb
    | cons y r =>
      rw [join_two] at hb
      rcases List.mem_append.1 hb with hb | hb
      · exact hx x (by simp) b hb
      · rcases List.mem_cons.1 hb with rfl | hb
        · decide
        · exact ih (fun z hz => hx z (by simp at hz ⊢; right; exact hz)) b hb
theorem join_ne (x : List UInt8) (xs : List (List UInt8)) (h : x ≠ []) : Lib.join (x :: xs) [44] ≠ [] := by
  cases xs with
  | nil =>
    have e' : Lib.join [x] [44] = x := by simp [Lib.join, List.intercalate, List.intersperse]
    rw [e']; exact h
  | cons y r => rw [join_two]; simp
theorem lword_facts {f : Nat} {L : List (Nat × Nat)} (hf : f < 5) (h : LOk f L) : lword f L ≠ [] ∧ (∀ b ∈ lword f L, isBl b = false) ∧ (lword f L).length ≤ 180 := by
  unfold lword
  by_cases e : L = []
  · rw [if_pos e]; exact ⟨by simp, by decide, by decide⟩
  · rw [if_neg e]
    have hit := fun (r : Nat × Nat) (hr : r ∈ L) => item_lw f r.1 r.2 hf (h.2 r hr).1 (h.2 r hr).2.1 (h.2 r hr).2.2
    refine ⟨?_, join_blank _ ?_, ?_⟩
    · cases L with
      | nil => exact absurd rfl e
      | cons r L =>
        rw [List.map_cons]
        refine join_ne _ _ ?_
        have := (hit r (by simp)).2.2.1
        intro e'
        have e2 : lw (hiF f) (r.1, r.2) = [] := e'
        rw [e2] at this
        simp at this
    · intro x hx b hb
      obtain ⟨r, hr, rfl⟩ := List.mem_map.1 hx
      exact ((hit r hr).2.1 b hb).1
    · have := join_len 44 8 (L.map (lw (hiF f))) (fun x hx => by
        obtain ⟨r, hr, rfl⟩ := List.mem_map.1 hx
        exact (hit r hr).2.2.2)
      rw [List.length_map] at this
      have := h.1
      omega
/-- The sets of five lists. -/
def lsets (L : Nat → List (Nat × Nat)) : Sets := fun i => decide (i / 60 < 5) && lhas (i / 60) (L (i / 60)) (i % 60)
theorem lsets_at (L : Nat → List (Nat × Nat)) (f v : Nat) (hf : f < 5) (hv : v < 60) : lsets L (60 * f + v) = lhas f (L f) v := by
  unfold lsets
  rw [show (60 * f + v) / 60 = f by omega, show (60 * f + v) % 60 = v by omega]
  simp [hf]
theorem lword_back (L : Nat → List (Nat × Nat)) (f : Nat) (hf : f < 5) (h : LOk f (L f)) : addWord (60 * f) (loF f) (hiF f) (lword f (L f)) (upto (lsets L) f) = some (upto (lsets L) (f + 1)) := by
  have hh := loF_le f
  have fin : ∀ (T : Sets), (∀ i, T i = (upto (lsets L) f i || (decide (60 * f ≤ i) && decide (i < 60 * f + 60) && lhas f (L f) (i - 60 * f)))) → T = upto (lsets L) (f + 1) := by
    intro T hT
    funext i
    rw [hT i]
    unfold upto
    by_cases e : i < 60 * f
    · have e1 : i < 60 * (f + 1) := by omega
      have e2 : ¬ 60 * f ≤ i := by omega
      simp [e, e1, e2]
    · by_cases e' : i < 60 * f + 60
      · have e1 : i < 60 * (f + 1) := by omega
        have e2 : 60 * f ≤ i := by omega
        have := lsets_at L f (i - 60 * f) hf (by omega)
        rw [show 60 * f + (i - 60 * f) = i by omega] at this
        simp [e, e1, e2, e', this]
      · have e1 : ¬ i < 60 * (f + 1) := by omega
        simp [e, e1, e']
  unfold addWord lword
  by_cases e : L f = []
  · rw [if_pos e, splitOn_none (by decide), addItems, item_star f hf]
    show some (addV (upto (lsets L) f) (60 * f) (loF f) (hiF f) 1) = _
    congr 1
    apply fin
    intro i
    unfold addV lhas
    rw [e]
    congr 1
    simp only [Nat.mod_one, decide_true, Bool.and_true, List.isEmpty_nil, Bool.true_or]
    rw [Bool.eq_iff_iff]
    simp only [Bool.and_eq_true, decide_eq_true_eq]
    omega
  · rw [if_neg e, split_join _ (by simpa using e) (fun x hx => by
      obtain ⟨r, hr, rfl⟩ := List.mem_map.1 hx
      have h1 := h.2 r hr
      intro h44
      exact ((item_lw f r.1 r.2 hf h1.1 h1.2.1 h1.2.2).2.1 _ h44).2 rfl), addItems_lw f (60 * f) hf _ _ h.2]
    congr 1
    apply fin
    intro i
    congr 1
    unfold lhas
    rw [show (L f).isEmpty = false by simp [e], Bool.false_or]
    rw [Bool.eq_iff_iff]
    simp only [Bool.and_eq_true, decide_eq_true_eq, List.any_eq_true]
    constructor
    · rintro ⟨r, hr, rfl⟩
      have h1 := h.2 r hr
      exact ⟨by omega, by omega, r, hr, by omega⟩
    · rintro ⟨⟨a, b⟩, _, r, hr, hv⟩
      exact ⟨r, hr, by omega⟩
def ltexts (L : Nat → List (Nat × Nat)) : List (List UInt8) := [lword 0 (L 0), lword 1 (L 1), lword 2 (L 2), lword 3 (L 3), lword 4 (L 4)]
theorem parse_listed (L : Nat → List (Nat × Nat)) (h : ∀ f, f < 5 → LOk f (L f)) : parse (Lib.join (ltexts L) [32]) = .inr (lsets L) ∧ (Lib.join (ltexts L) [32]).length ≤ 905 := by
  have hfa := fun f hf => lword_facts (f := f) (L := L f) hf (h f hf)
  have hw : words (Lib.join (ltexts L) [32]) = ltexts L := words_join _ (fun x hx => by
    simp only [ltexts, List.mem_cons, List.not_mem_nil, or_false] at hx
    rcases hx with rfl | rfl | rfl | rfl | rfl <;> exact ⟨(hfa _ (by decide)).1, (hfa _ (by decide)).2.1⟩)
  have hl := join_len 32 180 (ltexts L) (fun x hx => by
    simp only [ltexts, List.mem_cons, List.not_mem_nil, or_false] at hx
    rcases hx with rfl | rfl | rfl | rfl | rfl <;> exact (hfa _ (by decide)).2.2)
  have hl5 : (ltexts L).length = 5 := rfl
  rw [hl5] at hl
  refine ⟨?_, hl⟩
  unfold parse
  rw [hw, if_neg (by rintro (h' | h'); · omega
                     · exact h' hl5)]
  have h0 : (fun _ => false : Sets) = upto (lsets L) 0 := by funext i; simp [upto]
  have h5 : upto (lsets L) 5 = lsets L := by
    funext i
    unfold upto lsets
    by_cases e : i / 60 < 5
    · have e' : i < 60 * 5 := by omega
      simp [e, e']
    · simp [e]
  have hadd : addWords 0 (ltexts L) (fun _ => false) = some (lsets L) := by
    rw [h0, ltexts]
    have s0 := lword_back L 0 (by decide) (h 0 (by decide))
    have s1 := lword_back L 1 (by decide) (h 1 (by decide))
    have s2 := lword_back L 2 (by decide) (h 2 (by decide))
    have s3 := lword_back L 3 (by decide) (h 3 (by decide))
    have s4 := lword_back L 4 (by decide) (h 4 (by decide))
    rw [addWords, s0]
    show addWords 1 _ (upto _ 1) = _
    rw [addWords, s1]
    show addWords 2 _ (upto _ 2) = _
    rw [addWords, s2]
    show addWords 3 _ (upto _ 3) = _
    rw [addWords, s3]
    show addWords 4 _ (upto _ 4) = _
    rw [addWords, s4]
    show some (upto _ 5) = _
    rw [h5]
  rw [hadd]
end X
end Go.Proofs.YtbflmgiheccgdaaDoor
