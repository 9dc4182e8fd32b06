/- The text of an expression, read again: the mathematics. -/
import Derived.Test.YtbgioclbjbmicaaDoorXTextF
namespace Go.Proofs.YtbgioclbjbmicaaDoor
namespace X

theorem runEnd_true {F : Nat → Bool} {hi : Nat} : ∀ (k v : Nat), F v = true → ∀ u, v ≤ u → u ≤ runEnd F hi k v → F u = true
  | 0, v, h, u, h1, h2 => by
    rw [runEnd] at h2
    obtain rfl : u = v := by omega
    exact h
  | k + 1, v, h, u, h1, h2 => by
    rw [runEnd] at h2
    split at h2
    · rename_i hc
      by_cases e : u = v
      · subst e; exact h
      · exact runEnd_true k (v + 1) hc.2 u (by omega) h2
    · obtain rfl : u = v := by omega
      exact h
theorem runEnd_end {F : Nat → Bool} {hi : Nat} : ∀ (k v : Nat), hi ≤ v + k → runEnd F hi k v < hi → F (runEnd F hi k v + 1) = false
  | 0, v, h, h2 => by rw [runEnd] at h2; omega
  | k + 1, v, h, h2 => by
    rw [runEnd] at h2 ⊢
    split
    · rename_i hc
      rw [if_pos hc] at h2
      exact runEnd_end k (v + 1) (by omega) h2
    · rename_i hc
      rw [if_neg hc] at h2
      cases hF : F (v + 1)
      · rfl
      · exact absurd ⟨h2, hF⟩ hc
theorem runs_any {F : Nat → Bool} {hi : Nat} : ∀ (k v : Nat), hi < v + k → ∀ u, v ≤ u → u ≤ hi → (runs F hi k v).any (fun r => decide (r.1 ≤ u) && decide (u ≤ r.2)) = F u
  | 0, v, h, u, h1, h2 => by omega
  | k + 1, v, h, u, h1, h2 => by
    rw [runs, if_pos (by omega)]
    have hre := runEnd_le F hi 60 v (by omega)
    split
    · rename_i hv
      rw [List.any_cons]
      by_cases hu : u ≤ runEnd F hi 60 v
      · rw [runEnd_true 60 v hv u h1 hu]
        simp [h1, hu]
      · rw [runs_any k _ (by omega) u (by omega) h2]
        simp [hu]
    · rename_i hv
      by_cases e : u = v
      · subst e
        have hF : F u = false := by simpa using hv
        rw [hF, List.any_eq_false]
        intro r hr
        have := runs_in F hi k _ r hr
        simp; omega
      · exact runs_any k (v + 1) (by omega) u (by omega) h2
theorem runs_len {F : Nat → Bool} {hi : Nat} (h60 : hi < 60) : ∀ (k v : Nat), (runs F hi k v).length * 2 ≤ hi + 2 - v ∧ (F v = false → (runs F hi k v).length * 2 ≤ hi + 1 - v)
  | 0, v => by simp [runs]
  | k + 1, v => by
    rw [runs]
    split
    · rename_i hv
      have hre := runEnd_le F hi 60 v hv
      split
      · rename_i hF
        refine ⟨?_, fun h => by rw [hF] at h; cases h⟩
        rw [List.length_cons]
        have ih := runs_len h60 k (runEnd F hi 60 v + 1) (F := F)
        by_cases he : runEnd F hi 60 v < hi
        · have := ih.2 (runEnd_end 60 v (by omega) he)
          omega
        · have := ih.1
          have h0 : (runs F hi k (runEnd F hi 60 v + 1)) = [] := by
            cases k with
            | zero => rfl
            | succ k => rw [runs, if_neg (by omega)]
          rw [h0]
          simp; omega
      · have ih := (runs_len h60 k (v + 1) (F := F)).1
        omega
    · simp
theorem split_join : ∀ (xs : List (List UInt8)), xs ≠ [] → (∀ x ∈ xs, (44 : UInt8) ∉ x) → splitOn 44 (Lib.join xs [44]) = xs
  | [], h, _ => absurd rfl h
  | [x], _, h => by
    have e : Lib.join [x] [44] = x := by simp [Lib.join, List.intercalate, List.intersperse]
    rw [e, splitOn_none (h x (by simp))]
  | x :: y :: r, _, h => by
    rw [join_two, splitOn_hit _ (h x (by simp)), split_join (y :: r) (by simp) (fun z hz => h z (by simp at hz ⊢; right; exact hz))]
theorem wordsA_take : ∀ (a cur r : List UInt8), (∀ b ∈ a, isBl b = false) → wordsA cur (a ++ r) = wordsA (cur ++ a) r
  | [], cur, r, _ => by simp
  | b :: a, cur, r, h => by
    rw [List.cons_append, wordsA, h b (by simp)]
    simp only [Bool.false_eq_true, if_false]
    rw [wordsA_take a _ r (fun x hx => h x (by simp [hx])), List.append_assoc]
    rfl
theorem words_join : ∀ (xs : List (List UInt8)), (∀ x ∈ xs, x ≠ [] ∧ ∀ b ∈ x, isBl b = false) → words (Lib.join xs [32]) = xs
  | [], _ => by simp [Lib.join, List.intercalate, words, wordsA]
  | [x], h => by
    have e : Lib.join [x] [32] = x := by simp [Lib.join, List.intercalate, List.intersperse]
    have h1 := h x (by simp)
    unfold words
    rw [e, ← List.append_nil x, wordsA_take x [] [] h1.2]
    simp [wordsA, h1.1]
  | x :: y :: r, h => by
    have h1 := h x (by simp)
    have ih := words_join (y :: r) (fun z hz => h z (by simp at hz ⊢; right; exact hz))
    unfold words at ih ⊢
    rw [join_two, wordsA_take x [] _ h1.2, List.nil_append, wordsA, if_pos (by decide), if_neg (by simp [h1.1]), ih]

/-- an item that a run makes is read as the run -/
theorem item_run (f a b : Nat) (hf : f < 5) (h1 : loF f ≤ a) (h2 : a ≤ b) (h3 : b ≤ hiF f) : itemM (runT a b) (loF f) (hiF f) = some (a, b, 1) ∧ (∀ x ∈ runT a b, isBl x = false ∧ x ≠ 44) := by
  have hh := loF_le f
  have key : (List.range 5).all (fun f => (List.range 60).all fun a => (List.range 60).all fun b => !(decide (loF f ≤ a) && decide (a ≤ b) && decide (b ≤ hiF f)) || (decide (itemM (runT a b) (loF f) (hiF f) = some (a, b, 1)) && (runT a b).all fun x => !(isBl x) && decide (x ≠ 44))) = true := by decide +kernel
  have k1 := List.all_eq_true.1 (List.all_eq_true.1 (List.all_eq_true.1 key f (by simpa using hf)) a (by simp; omega)) b (by simp; omega)
  simp only [h1, h2, h3, decide_true, Bool.and_true, Bool.not_true, Bool.false_or, Bool.and_eq_true, decide_eq_true_eq, List.all_eq_true, Bool.not_eq_true'] at k1
  exact k1
theorem item_star (f : Nat) (hf : f < 5) : itemM [42] (loF f) (hiF f) = some (loF f, hiF f, 1) := by
  have key : (List.range 5).all (fun f => decide (itemM [42] (loF f) (hiF f) = some (loF f, hiF f, 1))) = true := by decide +kernel
  simpa using List.all_eq_true.1 key f (by simpa using hf)
theorem addItems_runs (f o : Nat) (hf : f < 5) : ∀ (rs : List (Nat × Nat)) (S : Sets), (∀ r ∈ rs, loF f ≤ r.1 ∧ r.1 ≤ r.2 ∧ r.2 ≤ hiF f) →
    addItems o (loF f) (hiF f) (rs.map fun r => runT r.1 r.2) S = some (fun i => S i || rs.any fun r => decide (o + r.1 ≤ i) && decide (i ≤ o + r.2))
  | [], S, _ => by simp [addItems]
  | r :: rs, S, h => by
    have h1 := h r (by simp)
    rw [List.map_cons, addItems, (item_run f r.1 r.2 hf h1.1 h1.2.1 h1.2.2).1]
    show addItems o (loF f) (hiF f) (rs.map fun r => runT r.1 r.2) (addV S o r.1 r.2 1) = _
    rw [addItems_runs f o hf rs _ (fun x hx => h x (by simp [hx]))]
    congr 1
    funext i
    simp [addV, Nat.mod_one, Bool.or_assoc]

/-- What every expression keeps: nothing out of bounds, something in each field. -/
structure Good (S : Sets) : Prop where
  inn : ∀ i, S i = true → ∃ f v, f < 5 ∧ loF f ≤ v ∧ v ≤ hiF f ∧ i = 60 * f + v
  some' : ∀ f, f < 5 → ∃ v, loF f ≤ v ∧ v ≤ hiF f ∧ S (60 * f + v) = true
theorem addV_own (S : Sets) (o a b k : Nat) (h : a ≤ b) : addV S o a b k (o + a) = true := by simp [addV]; right; omega
theorem addItems_facts (o lo hi : Nat) (hl : lo ≤ hi) : ∀ (l : List (List UInt8)) (S T : Sets), addItems o lo hi l S = some T →
    (∀ i, S i = true → T i = true) ∧ (∀ i, T i = true → S i = true ∨ ∃ v, lo ≤ v ∧ v ≤ hi ∧ i = o + v) ∧ (l ≠ [] → ∃ v, lo ≤ v ∧ v ≤ hi ∧ T (o + v) = true)
  | [], S, T, h => by
    rw [addItems] at h
    injection h with h; subst h
    exact ⟨fun _ h => h, fun _ h => .inl h, fun h => absurd rfl h⟩
  | x :: r, S, T, h => by
    rw [addItems] at h
    cases e : itemM x lo hi with
    | none => rw [e] at h; cases h
    | some q =>
      obtain ⟨a, b, k⟩ := q
      rw [e] at h
      have hb := itemM_bounds e hl
      obtain ⟨i1, i2, _⟩ := addItems_facts o lo hi hl r _ T h
      refine ⟨fun i hi' => i1 i (by simp [addV, hi']), fun i hT => ?_, fun _ => ⟨a, hb.1, by omega, i1 _ (addV_own S o a b k hb.2.1)⟩⟩
      rcases i2 i hT with hv | hv
      · simp only [addV, Bool.or_eq_true, Bool.and_eq_true, decide_eq_true_eq] at hv
        rcases hv with hv | hv
        · exact .inl hv
        · exact .inr ⟨i - o, by omega, by omega, by omega⟩
      · exact .inr hv
theorem addWords_facts : ∀ (ws : List (List UInt8)) (f : Nat) (S T : Sets), addWords f ws S = some T →
    (∀ i, S i = true → T i = true) ∧ (∀ i, T i = true → S i = true ∨ ∃ g v, f ≤ g ∧ g < f + ws.length ∧ loF g ≤ v ∧ v ≤ hiF g ∧ i = 60 * g + v) ∧ (∀ g, f ≤ g → g < f + ws.length → ∃ v, loF g ≤ v ∧ v ≤ hiF g ∧ T (60 * g + v) = true)
  | [], f, S, T, h => by
    rw [addWords] at h
    injection h with h; subst h
    exact ⟨fun _ h => h, fun _ h => .inl h, fun g h1 h2 => by simp at h2; omega⟩
  | x :: r, f, S, T, h => by
    rw [addWords] at h
    cases e : addWord (60 * f) (loF f) (hiF f) x S with
    | none => rw [e] at h; cases h
    | some U =>
      rw [e] at h
      obtain ⟨j1, j2, j3⟩ := addItems_facts _ _ _ (loF_le f).1 _ _ _ e
      obtain ⟨i1, i2, i3⟩ := addWords_facts r (f + 1) U T h
      refine ⟨fun i hi => i1 i (j1 i hi), fun i hT => ?_, fun g h1 h2 => ?_⟩
      · rcases i2 i hT with hU | ⟨g, v, h1, h2, h3⟩
        · rcases j2 i hU with hS | ⟨v, h1, h2, h3⟩
          · exact .inl hS
          · exact .inr ⟨f, v, Nat.le_refl _, by simp, h1, h2, h3⟩
        · exact .inr ⟨g, v, by omega, by simp; omega, h3⟩
      · by_cases eg : g = f
        · subst eg
          obtain ⟨v, h1, h2, h3⟩ := j3 (splitOn_ne _ _)
          exact ⟨v, h1, h2, i1 _ h3⟩
        · exact i3 g (by omega) (by simp at h2; omega)
theorem parse_good {s : List UInt8} {S : Sets} (h : parse s = .inr S) : Good S := by
  unfold parse at h
  split at h
  · cases h
  · rename_i hc
    have h5 : (words s).length = 5 := by
      by_cases e : (words s).length = 5
      · exact e
      · exact absurd (.inr e) hc
    cases e : addWords 0 (words s) (fun _ => false) with
    | none => rw [e] at h; cases h
    | some T =>
      rw [e] at h
      injection h with h; subst h
      obtain ⟨_, i2, i3⟩ := addWords_facts _ _ _ _ e
      refine ⟨fun i hi => ?_, fun f hf => i3 f (Nat.zero_le _) (by omega)⟩
      rcases i2 i hi with h0 | ⟨g, v, _, h2, h3⟩
      · cases h0
      · exact ⟨g, v, by omega, h3⟩

def fieldF (S : Sets) (f : Nat) : Nat → Bool := fun v => S (60 * f + v)
def textF (S : Sets) (f : Nat) : List UInt8 := textW (fieldF S f) (loF f) (hiF f)
def texts (S : Sets) : List (List UInt8) := [textF S 0, textF S 1, textF S 2, textF S 3, textF S 4]
/-- The text of an expression. -/
def text (S : Sets) : List UInt8 := Lib.join (texts S) [32]
def upto (S : Sets) (f : Nat) : Sets := fun i => S i && decide (i < 60 * f)
theorem runs_ne {S : Sets} (h : Good S) (f : Nat) (hf : f < 5) : runs (fieldF S f) (hiF f) 61 (loF f) ≠ [] := by
  obtain ⟨v, h1, h2, h3⟩ := h.some' f hf
  have hh := loF_le f
  have := runs_any (F := fieldF S f) (hi := hiF f) 61 (loF f) (by omega) v h1 h2
  intro e
  rw [e] at this
  rw [show fieldF S f v = true from h3] at this
  cases this
theorem word_back {S : Sets} (h : Good S) (f : Nat) (hf : f < 5) : addWord (60 * f) (loF f) (hiF f) (textF S f) (upto S f) = some (upto S (f + 1)) := by
  have hh := loF_le f
  have fin : ∀ (T : Sets), (∀ i, T i = (upto S f i || (decide (60 * f + loF f ≤ i) && decide (i ≤ 60 * f + hiF f) && S i))) → T = upto S (f + 1) := by
    intro T hT
    funext i
    rw [hT i]
    unfold upto
    cases hS : S i
    · simp
    · obtain ⟨g, v, hg, h1, h2, rfl⟩ := h.inn i hS
      have hg' := loF_le g
      simp only [Bool.true_and, Bool.and_true]
      by_cases e : g < f
      · have e1 : 60 * g + v < 60 * f := by omega
        have e2 : 60 * g + v < 60 * (f + 1) := by omega
        simp [e1, e2]
      · by_cases e' : g = f
        · subst e'
          have e2 : 60 * g + v < 60 * (g + 1) := by omega
          simp [e2, h1, h2]
        · have e1 : ¬ 60 * g + v < 60 * f := by omega
          have e2 : ¬ 60 * g + v < 60 * (f + 1) := by omega
          have e3 : ¬ 60 * g + v ≤ 60 * f + hiF f := by omega
          simp [e1, e2, e3]
  unfold addWord textF textW
  by_cases ha : isAll (fieldF S f) (loF f) (hiF f) = true
  · rw [if_pos ha, splitOn_none (by decide), addItems, item_star f hf]
    show some (addV (upto S f) (60 * f) (loF f) (hiF f) 1) = _
    congr 1
    apply fin
    intro i
    unfold addV
    congr 1
    by_cases hi : 60 * f + loF f ≤ i ∧ i ≤ 60 * f + hiF f
    · have hS : S i = true := by
        have := List.all_eq_true.1 ha (i - 60 * f) (by simp; omega)
        simp only [fieldF, beq_iff_eq] at this
        rw [show 60 * f + (i - 60 * f) = i by omega] at this
        rw [this]
        simp [allF]; omega
      simp [hi.1, hi.2, hS, Nat.mod_one]
    · have : (decide (60 * f + loF f ≤ i) && decide (i ≤ 60 * f + hiF f)) = false := by
        rw [Bool.eq_false_iff]; intro e; simp at e; exact hi e
      rw [this]; simp
  · have hin := runs_in (fieldF S f) (hiF f) 61 (loF f)
    rw [if_neg ha, split_join _ (by simpa using runs_ne h f hf) (fun x hx => by
      obtain ⟨r, hr, rfl⟩ := List.mem_map.1 hx
      have h1 := hin r hr
      intro h44
      exact ((item_run f r.1 r.2 hf h1.1 h1.2.1 h1.2.2).2 _ h44).2 rfl), addItems_runs f (60 * f) hf _ _ hin]
    congr 1
    apply fin
    intro i
    congr 1
    by_cases hi : 60 * f + loF f ≤ i ∧ i ≤ 60 * f + hiF f
    · have := runs_any (F := fieldF S f) (hi := hiF f) 61 (loF f) (by omega) (i - 60 * f) (by omega) (by omega)
      rw [show fieldF S f (i - 60 * f) = S i by unfold fieldF; rw [show 60 * f + (i - 60 * f) = i by omega]] at this
      rw [show (decide (60 * f + loF f ≤ i) && decide (i ≤ 60 * f + hiF f)) = true by simp [hi], Bool.true_and, ← this]
      congr 1
      funext r
      congr 1
      · exact decide_eq_decide.2 (by omega)
      · exact decide_eq_decide.2 (by omega)
    · have e : (decide (60 * f + loF f ≤ i) && decide (i ≤ 60 * f + hiF f)) = false := by
        rw [Bool.eq_false_iff]; intro e; simp at e; exact hi e
      rw [e, Bool.false_and, List.any_eq_false]
      intro r hr
      have := hin r hr
      simp; omega
theorem textF_facts {S : Sets} (h : Good S) (f : Nat) (hf : f < 5) : textF S f ≠ [] ∧ (∀ b ∈ textF S f, isBl b = false) ∧ (textF S f).length ≤ 186 := by
  have hh := loF_le f
  unfold textF textW
  by_cases ha : isAll (fieldF S f) (loF f) (hiF f) = true
  · rw [if_pos ha]
    exact ⟨by simp, by decide, by decide⟩
  · rw [if_neg ha]
    have hin := runs_in (fieldF S f) (hiF f) 61 (loF f)
    have hne := runs_ne h f hf
    have hl := (runs_len (F := fieldF S f) (hi := hiF f) (by omega) 61 (loF f)).1
    generalize runs (fieldF S f) (hiF f) 61 (loF f) = rs at *
    have hit := fun (r : Nat × Nat) (hr : r ∈ rs) => item_run f r.1 r.2 hf (hin r hr).1 (hin r hr).2.1 (hin r hr).2.2
    have hlen := fun (r : Nat × Nat) (hr : r ∈ rs) => runT_len r.1 r.2 (by have := hin r hr; omega) (by have := hin r hr; omega)
    refine ⟨?_, ?_, ?_⟩
    · cases rs with
      | nil => exact absurd rfl hne
      | cons r rs =>
        have h1 := (hlen r (by simp)).2
        cases rs with
        | nil =>
          intro e
          have e' : (Lib.join [runT r.1 r.2] [44]) = runT r.1 r.2 := by simp [Lib.join, List.intercalate, List.intersperse]
          rw [List.map_cons, List.map_nil, e'] at e
          rw [e] at h1; simp at h1
        | cons q rs =>
          rw [List.map_cons, List.map_cons, join_two]
          simp
    · clear hne hl
      have key : ∀ (xs : List (List UInt8)), (∀ x ∈ xs, ∀ b ∈ x, isBl b = false) → ∀ b ∈ Lib.join xs [44], isBl b = false := by
        intro xs
        induction xs with
        | nil => intro _ b hb; simp [Lib.join, List.intercalate] at hb
        | cons x xs ih =>
          intro hx b hb
          cases xs with
          | nil =>
            have e' : Lib.join [x] [44] = x := by simp [Lib.join, List.intercalate, List.intersperse]
            rw [e'] at hb
            exact hx x (by simp) b hb
          | cons y r =>
            rw [join_two] at hb
            rcases List.mem_append.1 hb with hb | hb
            · exact hx x (by simp) b hb
            · rcases List.mem_cons.1 hb with rfl | hb
              · decide
              · exact ih (fun z hz => hx z (by simp at hz ⊢; right; exact hz)) b hb
      refine key _ ?_
      intro x hx b hb
      obtain ⟨r, hr, rfl⟩ := List.mem_map.1 hx
      exact ((hit r hr).2 b hb).1
    · have := join_len 44 5 (rs.map fun r => runT r.1 r.2) (fun x hx => by
        obtain ⟨r, hr, rfl⟩ := List.mem_map.1 hx
        exact (hlen r hr).1)
      rw [List.length_map] at this
      omega
theorem text_len {S : Sets} (h : Good S) : (text S).length ≤ 935 := by
  have := join_len 32 186 (texts S) (fun x hx => by
    simp only [texts, List.mem_cons, List.not_mem_nil, or_false] at hx
    rcases hx with rfl | rfl | rfl | rfl | rfl <;> exact (textF_facts h _ (by decide)).2.2)
  have h5 : (texts S).length = 5 := rfl
  rw [h5] at this
  exact this
theorem parse_text {S : Sets} (h : Good S) : parse (text S) = .inr S := by
  have hw : words (text S) = texts S := words_join _ (fun x hx => by
    simp only [texts, List.mem_cons, List.not_mem_nil, or_false] at hx
    rcases hx with rfl | rfl | rfl | rfl | rfl <;> exact ⟨(textF_facts h _ (by decide)).1, (textF_facts h _ (by decide)).2.1⟩)
  have hl := text_len h
  unfold parse
  rw [hw, if_neg (by simp [texts]; omega)]
  have h0 : (fun _ => false : Sets) = upto S 0 := by funext i; simp [upto]
  have h5 : upto S 5 = S := by
    funext i
    unfold upto
    cases hS : S i
    · rfl
    · obtain ⟨g, v, hg, h1, h2, rfl⟩ := h.inn i hS
      have := loF_le g
      simp; omega
  have hadd : addWords 0 (texts S) (fun _ => false) = some S := by
    rw [h0, texts]
    have s0 := word_back h 0 (by decide)
    have s1 := word_back h 1 (by decide)
    have s2 := word_back h 2 (by decide)
    have s3 := word_back h 3 (by decide)
    have s4 := word_back h 4 (by decide)
    rw [addWords, s0]
    show addWords 1 _ (upto S 1) = _
    rw [addWords, s1]
    show addWords 2 _ (upto S 2) = _
    rw [addWords, s2]
    show addWords 3 _ (upto S 3) = _
    rw [addWords, s3]
    show addWords 4 _ (upto S 4) = _
    rw [addWords, s4]
    show some (upto S 5) = _
    rw [h5]
  rw [hadd]
end X
end Go.Proofs.YtbgioclbjbmicaaDoor
