/- Package journal: what the document says of bytes, segments and pieces, as mathematics. -/
import Derived.Test.YthfnpbkclmkkeaaDMod
import Derived.Test.YthfnpbkclmkkeaaMath
namespace Go.Proofs.Ythfnpbkclmkkeaa
namespace J

/-- a number in so many bytes, the lowest one first -/
def le : Nat → Nat → List Nat
  | 0, _ => []
  | k + 1, n => n % 256 :: le k (n / 256)
/-- the number that bytes say -/
def rd : List Nat → Nat
  | [] => 0
  | d :: l => d + 256 * rd l

theorem le_length (k n : Nat) : (le k n).length = k := by
  induction k generalizing n with
  | zero => rfl
  | succ k ih => simp [le, ih]
theorem le_lt (k n : Nat) : ∀ d ∈ le k n, d < 256 := by
  induction k generalizing n with
  | zero => intro d h; cases h
  | succ k ih =>
    intro d h
    rcases List.mem_cons.1 h with rfl | h
    · omega
    · exact ih _ d h
theorem le_at (k n i : Nat) (h : i < k) : (le k n)[i]? = some (n / 256 ^ i % 256) := by
  induction k generalizing n i with
  | zero => omega
  | succ k ih =>
    cases i with
    | zero => simp [le]
    | succ i =>
      simp only [le, List.getElem?_cons_succ]
      rw [ih (n / 256) i (by omega), Nat.div_div_eq_div_mul, ← Nat.pow_succ']
theorem le_snoc (k n : Nat) : le (k + 1) n = le k n ++ [n / 256 ^ k % 256] := by
  induction k generalizing n with
  | zero => simp [le]
  | succ k ih =>
    rw [le, ih (n / 256), le, List.cons_append, Nat.div_div_eq_div_mul, ← Nat.pow_succ']
theorem rd_le (k n : Nat) : rd (le k n) = n % 256 ^ k := by
  induction k generalizing n with
  | zero => simp [le, rd, Nat.mod_one]
  | succ k ih =>
    simp only [le, rd, ih]
    rw [Nat.pow_succ', Nat.mod_mul]
theorem rd_snoc (l : List Nat) (d : Nat) : rd (l ++ [d]) = rd l + 256 ^ l.length * d := by
  induction l with
  | nil => simp [rd]
  | cons a l ih =>
    simp only [List.cons_append, rd, ih, List.length_cons, Nat.pow_succ']
    rw [Nat.mul_add, Nat.mul_assoc]; omega
theorem rd_lt (l : List Nat) (h : ∀ d ∈ l, d < 256) : rd l < 256 ^ l.length := by
  induction l with
  | nil => simp [rd]
  | cons a l ih =>
    have h1 := h a (by simp)
    have h2 := ih fun d hd => h d (by simp [hd])
    simp only [rd, List.length_cons, Nat.pow_succ']
    omega
theorem le_rd (l : List Nat) (h : ∀ d ∈ l, d < 256) : le l.length (rd l) = l := by
  induction l with
  | nil => rfl
  | cons a l ih =>
    have h1 := h a (by simp)
    have h2 := ih fun d hd => h d (by simp [hd])
    simp only [rd, List.length_cons, le]
    rw [show (a + 256 * rd l) % 256 = a by omega, show (a + 256 * rd l) / 256 = rd l by omega, h2]

/-- a segment's head -/
def head20 (seg base : Nat) : List Nat := [69, 83, 67, 49] ++ le 8 seg ++ le 8 base
def headOf (seg base : Nat) : List Nat := head20 seg base ++ le 4 (M.more 0 (head20 seg base))
/-- the base that a right head tells -/
def baseOf (seg : Nat) (text : List Nat) : Option Nat :=
  if 24 ≤ text.length ∧ 1 ≤ rd ((text.drop 12).take 8) ∧ rd ((text.drop 12).take 8) ≤ 1099511627777 ∧ text.take 24 = headOf seg (rd ((text.drop 12).take 8)) then some (rd ((text.drop 12).take 8)) else none
/-- what stands ahead of a payload -/
def lead13 (kind number size : Nat) : List Nat := le 4 size ++ [kind] ++ le 8 number
def leadOf (kind number : Nat) (b : List Nat) : List Nat := lead13 kind number b.length ++ le 4 (M.more 0 (lead13 kind number b.length ++ b))
def pieceOf (kind number : Nat) (b : List Nat) : List Nat := leadOf kind number b ++ b
def most (kind : Nat) : Int := if kind = 1 then 1048576 else if kind = 2 then 8388608 else -1
/-- the piece that a text begins with -/
def firstPiece (text : List Nat) (number : Nat) : Option (Nat × List Nat) :=
  if 17 ≤ text.length ∧ ¬ most (text.getD 4 0) < (rd (text.take 4) : Nat) ∧ rd (text.take 4) ≤ text.length - 17 ∧ text.take 17 = leadOf (text.getD 4 0) number ((text.drop 17).take (rd (text.take 4))) then some (text.getD 4 0, (text.drop 17).take (rd (text.take 4))) else none

theorem head20_length (a b : Nat) : (head20 a b).length = 20 := by simp [head20, le_length]
theorem headOf_length (a b : Nat) : (headOf a b).length = 24 := by simp [headOf, head20_length, le_length]
theorem lead13_length (a b c : Nat) : (lead13 a b c).length = 13 := by simp [lead13, le_length]
theorem leadOf_length (a b : Nat) (l : List Nat) : (leadOf a b l).length = 17 := by simp [leadOf, lead13_length, le_length]
theorem pieceOf_length (a b : Nat) (l : List Nat) : (pieceOf a b l).length = 17 + l.length := by simp [pieceOf, leadOf_length]
theorem head20_lt (a b : Nat) : ∀ d ∈ head20 a b, d < 256 := by
  intro d h
  simp only [head20, List.mem_append, List.mem_cons, List.not_mem_nil, or_false] at h
  rcases h with (h | h) | h
  · omega
  · exact le_lt _ _ d h
  · exact le_lt _ _ d h
theorem headOf_lt (a b : Nat) : ∀ d ∈ headOf a b, d < 256 := by
  intro d h
  rcases List.mem_append.1 h with h | h
  · exact head20_lt _ _ d h
  · exact le_lt _ _ d h
theorem lead13_lt {a : Nat} (ha : a < 256) (b c : Nat) : ∀ d ∈ lead13 a b c, d < 256 := by
  intro d h
  simp only [lead13, List.mem_append, List.mem_cons, List.not_mem_nil, or_false] at h
  rcases h with (h | h) | h
  · exact le_lt _ _ d h
  · omega
  · exact le_lt _ _ d h
theorem leadOf_lt {a : Nat} (ha : a < 256) (b : Nat) (l : List Nat) : ∀ d ∈ leadOf a b l, d < 256 := by
  intro d h
  rcases List.mem_append.1 h with h | h
  · exact lead13_lt ha _ _ d h
  · exact le_lt _ _ d h
theorem pieceOf_lt {a : Nat} (ha : a < 256) (b : Nat) {l : List Nat} (hl : ∀ d ∈ l, d < 256) : ∀ d ∈ pieceOf a b l, d < 256 := by
  intro d h
  rcases List.mem_append.1 h with h | h
  · exact leadOf_lt ha _ _ d h
  · exact hl d h
theorem most_cases (k : Nat) : most k = 1048576 ∧ k = 1 ∨ most k = 8388608 ∧ k = 2 ∨ most k = -1 ∧ k ≠ 1 ∧ k ≠ 2 := by
  unfold most
  split
  · exact .inl ⟨rfl, by assumption⟩
  · split
    · exact .inr (.inl ⟨rfl, by assumption⟩)
    · exact .inr (.inr ⟨rfl, by assumption, by assumption⟩)

/-- what segments hold -/
structure Held where
  begun : Bool
  image : List Nat
  records : List (List Nat)
  next : Nat

/-- one piece more -/
def one (rest : List Nat) (first : Bool) (h : Held) : Option (List Nat × Held) :=
  match firstPiece rest h.next with
  | none => none
  | some (kind, p) =>
    if kind = 2 ∧ first = true then some (rest.drop (17 + p.length), { h with begun := true, image := p })
    else if kind = 1 ∧ h.next ≤ 1099511627776 then some (rest.drop (17 + p.length), { h with records := h.records ++ [p], next := h.next + 1 })
    else none
/-- the pieces of a text -/
def scanF : Nat → List Nat → Bool → Held → Held
  | 0, _, _, h => h
  | f + 1, rest, first, h => match one rest first h with
    | none => h
    | some (rest', h') => scanF f rest' false h'
def scan (text : List Nat) (base : Nat) : Held := scanF (text.length + 1) (text.drop 24) true ⟨false, [], [], base⟩
/-- a segment taken in -/
def follow (h : Held) (seg : Nat) (text : List Nat) : Held × Bool :=
  match baseOf seg text with
  | none => (h, false)
  | some base =>
    if (scan text base).begun = true then (scan text base, true)
    else if h.begun = true ∧ base = h.next then ({ h with records := h.records ++ (scan text base).records, next := (scan text base).next }, false)
    else (h, false)
/-- all of them, and which one is the last image's -/
def found : List (Int × List Nat) → Nat → Held × Nat → Held × Nat
  | [], _, r => r
  | (k, b) :: L, i, r => found L (i + 1) ((follow r.1 k.toNat b).1, if (follow r.1 k.toNat b).2 = true then i else r.2)
/-- segments taken away -/
def removes : List Int → St → Int × St
  | [], s => (0, s)
  | k :: l, s => if (s.remove k).1 = 0 then removes l (s.remove k).2 else s.remove k

/-- a journal -/
structure Jr where
  held : Held
  current : Nat
  size : Nat

theorem firstPiece_length {text : List Nat} {n k : Nat} {p : List Nat} (h : firstPiece text n = some (k, p)) : 17 + p.length ≤ text.length ∧ (k = 1 ∨ k = 2) ∧ p.length ≤ 8388608 := by
  unfold firstPiece at h
  split at h
  · rename_i hh
    obtain ⟨h1, h2, h3, _⟩ := hh
    injection h with h
    injection h with e1 e2
    subst e1 e2
    have hl : ((text.drop 17).take (rd (text.take 4))).length = rd (text.take 4) := by
      rw [List.length_take, List.length_drop]; omega
    rw [hl]
    rcases most_cases (text.getD 4 0) with ⟨e, e'⟩ | ⟨e, e'⟩ | ⟨e, _⟩
    · exact ⟨by omega, .inl e', by omega⟩
    · exact ⟨by omega, .inr e', by omega⟩
    · omega
  · cases h

end J
end Go.Proofs.Ythfnpbkclmkkeaa
