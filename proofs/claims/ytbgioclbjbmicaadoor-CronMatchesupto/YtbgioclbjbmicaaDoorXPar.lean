/- Texts of expressions, as lists of bytes: words, numbers, items, sets. -/
import Derived.Test.YtbgioclbjbmicaaDoorXMat
namespace Go.Proofs.YtbgioclbjbmicaaDoor
namespace X

def isBl (b : UInt8) : Bool := b == 32 || b == 9
/-- The words of a text behind what is gathered of one. -/
def wordsA : List UInt8 → List UInt8 → List (List UInt8)
  | cur, [] => if cur.isEmpty then [] else [cur]
  | cur, b :: r => if isBl b then (if cur.isEmpty then wordsA [] r else cur :: wordsA [] r) else wordsA (cur ++ [b]) r
def words (s : List UInt8) : List (List UInt8) := wordsA [] s
/-- A text cut at the first of a sign. -/
def cutAt (c : UInt8) : List UInt8 → List UInt8 × List UInt8 × Bool
  | [] => ([], [], false)
  | b :: r => if b = c then ([], r, true) else (b :: (cutAt c r).1, (cutAt c r).2.1, (cutAt c r).2.2)
/-- A text cut at all of a sign. -/
def splitOn (c : UInt8) : List UInt8 → List (List UInt8)
  | [] => [[]]
  | b :: r => if b = c then [] :: splitOn c r else match splitOn c r with
    | h :: t => (b :: h) :: t
    | [] => [[b]]
theorem splitOn_ne (c : UInt8) : ∀ l, splitOn c l ≠ []
  | [] => by simp [splitOn]
  | b :: r => by
    unfold splitOn
    split
    · simp
    · split <;> simp
theorem splitOn_none {c : UInt8} : ∀ {l : List UInt8}, c ∉ l → splitOn c l = [l]
  | [], _ => rfl
  | b :: r, h => by
    simp only [List.mem_cons, not_or] at h
    rw [splitOn, if_neg (fun e => h.1 e.symm), splitOn_none h.2]
theorem splitOn_hit {c : UInt8} : ∀ {a : List UInt8} (r : List UInt8), c ∉ a → splitOn c (a ++ c :: r) = a :: splitOn c r
  | [], r, _ => by simp [splitOn]
  | b :: a, r, h => by
    simp only [List.mem_cons, not_or] at h
    rw [List.cons_append, splitOn, if_neg (fun e => h.1 e.symm), splitOn_hit r h.2]
theorem cutAt_none {c : UInt8} : ∀ {l : List UInt8}, c ∉ l → cutAt c l = (l, [], false)
  | [], _ => rfl
  | b :: r, h => by
    simp only [List.mem_cons, not_or] at h
    rw [cutAt, if_neg (fun e => h.1 e.symm), cutAt_none h.2]
theorem cutAt_hit {c : UInt8} : ∀ {a : List UInt8} (r : List UInt8), c ∉ a → cutAt c (a ++ c :: r) = (a, r, true)
  | [], r, _ => by simp [cutAt]
  | b :: a, r, h => by
    simp only [List.mem_cons, not_or] at h
    rw [List.cons_append, cutAt, if_neg (fun e => h.1 e.symm), cutAt_hit r h.2]
/-- every list has the sign nowhere, or a first place for it -/
theorem first_of (c : UInt8) : ∀ l : List UInt8, c ∉ l ∨ ∃ a r, l = a ++ c :: r ∧ c ∉ a
  | [] => .inl (by simp)
  | b :: l => by
    by_cases h : b = c
    · exact .inr ⟨[], l, by simp [h], by simp⟩
    · rcases first_of c l with k | ⟨a, r, rfl, k⟩
      · exact .inl (by simp [k, Ne.symm h])
      · exact .inr ⟨b :: a, r, rfl, by simp [k, Ne.symm h]⟩

def digB (b : UInt8) : Bool := decide (48 ≤ b.toNat) && decide (b.toNat ≤ 57)
/-- The number that digits make, none if it is above hi or opens with a 0 that it may not. -/
def numL (hi : Nat) : Bool → Nat → List UInt8 → Option Nat
  | _, n, [] => some n
  | f, n, b :: r => if digB b = true ∧ (f = true ∨ n ≠ 0) ∧ n * 10 + (b.toNat - 48) ≤ hi then numL hi false (n * 10 + (b.toNat - 48)) r else none
def num (l : List UInt8) (lo hi : Nat) : Option Nat :=
  match numL hi true 0 l with
  | none => none
  | some n => if l ≠ [] ∧ lo ≤ n then some n else none
theorem numL_le (hi : Nat) : ∀ (l : List UInt8) (f : Bool) (n m : Nat), n ≤ hi → numL hi f n l = some m → m ≤ hi
  | [], _, _, _, h, e => by simp only [numL, Option.some.injEq] at e; omega
  | b :: r, f, n, m, h, e => by
    rw [numL] at e
    split at e
    · rename_i k; exact numL_le hi r _ _ _ k.2.2 e
    · cases e
theorem num_bounds {l : List UInt8} {lo hi n : Nat} (h : num l lo hi = some n) : lo ≤ n ∧ n ≤ hi := by
  unfold num at h
  split at h
  · cases h
  · rename_i m e
    split at h
    · rename_i k
      injection h with h; subst h
      exact ⟨k.2, numL_le hi l _ _ _ (Nat.zero_le _) e⟩
    · cases h

/-- The first and the last value of an item without its step, and whether it is a single number. -/
def spanM (l : List UInt8) (lo hi : Nat) : Option (Nat × Nat × Bool) :=
  if l = [42] then some (lo, hi, false) else
    match num (cutAt 45 l).1 lo hi with
    | none => none
    | some a => if (cutAt 45 l).2.2 = false then some (a, a, true) else
        match num (cutAt 45 l).2.1 a hi with
        | none => none
        | some b => some (a, b, false)
theorem spanM_bounds {l : List UInt8} {lo hi a b : Nat} {s : Bool} (h : spanM l lo hi = some (a, b, s)) (hl : lo ≤ hi) : lo ≤ a ∧ a ≤ b ∧ b ≤ hi := by
  unfold spanM at h
  split at h
  · simp only [Option.some.injEq, Prod.mk.injEq] at h
    obtain ⟨rfl, rfl, _⟩ := h
    exact ⟨Nat.le_refl _, hl, Nat.le_refl _⟩
  · split at h
    · cases h
    · rename_i a' e
      have := num_bounds e
      split at h
      · simp only [Option.some.injEq, Prod.mk.injEq] at h
        obtain ⟨rfl, rfl, _⟩ := h
        exact ⟨this.1, Nat.le_refl _, this.2⟩
      · split at h
        · cases h
        · rename_i b' e'
          have := num_bounds e'
          simp only [Option.some.injEq, Prod.mk.injEq] at h
          obtain ⟨rfl, rfl, _⟩ := h
          omega
def stepM (l : List UInt8) (hi : Nat) : Option Nat := if (cutAt 47 l).2.2 = true then num (cutAt 47 l).2.1 1 hi else some 1
/-- An item: its first value, its last, its step. -/
def itemM (l : List UInt8) (lo hi : Nat) : Option (Nat × Nat × Nat) :=
  match spanM (cutAt 47 l).1 lo hi, stepM l hi with
  | some (a, b, s), some k => if s = true ∧ (cutAt 47 l).2.2 = true then none else some (a, b, k)
  | _, _ => none
theorem stepM_pos {l : List UInt8} {hi k : Nat} (h : stepM l hi = some k) : 1 ≤ k ∧ (k ≤ hi ∨ k = 1) := by
  unfold stepM at h
  split at h
  · have := num_bounds h; omega
  · injection h with h; omega
theorem itemM_bounds {l : List UInt8} {lo hi a b k : Nat} (h : itemM l lo hi = some (a, b, k)) (hl : lo ≤ hi) : lo ≤ a ∧ a ≤ b ∧ b ≤ hi ∧ 1 ≤ k ∧ (k ≤ hi ∨ k = 1) := by
  unfold itemM at h
  split at h
  · rename_i a' b' s k' e1 e2
    split at h
    · cases h
    · simp only [Option.some.injEq, Prod.mk.injEq] at h
      obtain ⟨rfl, rfl, rfl⟩ := h
      have h1 := spanM_bounds e1 hl
      have h2 := stepM_pos e2
      exact ⟨h1.1, h1.2.1, h1.2.2, h2.1, h2.2⟩
  · cases h
/-- The values from a on to b by k, laid into a field's set. -/
def addV (S : Sets) (o a b k : Nat) : Sets := fun i => S i || (decide (o + a ≤ i) && decide (i ≤ o + b) && decide ((i - (o + a)) % k = 0))
def addItems (o lo hi : Nat) : List (List UInt8) → Sets → Option Sets
  | [], S => some S
  | x :: r, S => match itemM x lo hi with
    | none => none
    | some (a, b, k) => addItems o lo hi r (addV S o a b k)
def addWord (o lo hi : Nat) (w : List UInt8) (S : Sets) : Option Sets := addItems o lo hi (splitOn 44 w) S
def loF : Nat → Nat | 2 => 1 | 3 => 1 | _ => 0
def hiF : Nat → Nat | 0 => 59 | 1 => 23 | 2 => 31 | 3 => 12 | _ => 6
theorem loF_le (f : Nat) : loF f ≤ hiF f ∧ hiF f ≤ 59 ∧ 1 ≤ hiF f := by
  match f with
  | 0 => decide
  | 1 => decide
  | 2 => decide
  | 3 => decide
  | f + 4 => exact ⟨Nat.zero_le _, by show (6 : Nat) ≤ 59; decide, by show (1 : Nat) ≤ 6; decide⟩
/-- Words from field f on. -/
def addWords : Nat → List (List UInt8) → Sets → Option Sets
  | _, [], S => some S
  | f, x :: r, S => match addWord (60 * f) (loF f) (hiF f) x S with
    | none => none
    | some T => addWords (f + 1) r T
/-- A text read: its sets, or the error's number. -/
def parse (s : List UInt8) : Nat ⊕ Sets :=
  if 1024 < s.length ∨ (words s).length ≠ 5 then .inl 40 else
    match addWords 0 (words s) (fun _ => false) with
    | none => .inl 41
    | some S => .inr S
end X
end Go.Proofs.YtbgioclbjbmicaaDoor
