/- Package source: the words of a line, as strings.FieldsFunc parts them. -/
import Derived.Test.YtnhmmplheihojaaGreatDoorUNum
import Derived.Lib.FieldsP
namespace Go.Proofs.YtnhmmplheihojaaGreatDoor
namespace U
open Go.RowKit

theorem get_b (s : ByteArray) (p : Nat) (h : p < s.size) : s.get! p = s[p]'h := by
  simp [ByteArray.get!, getElem!_pos, h]
  rfl
/-- A continuation's bytes are no blanks. -/
theorem decode_tail (s : ByteArray) (pos : Nat) : ∀ j, 1 ≤ j → j < (Utf8.decode s pos).2 → pos + j < s.size ∧ 128 ≤ (s.get! (pos + j)).toNat := by
  intro j h1 h2
  have key : ∀ k, (decide (pos + k < s.size) && ((s.get! (pos + k)).toNat / 64 == 2)) = true → pos + k < s.size ∧ 128 ≤ (s.get! (pos + k)).toNat := by
    intro k hk
    simp only [Bool.and_eq_true, decide_eq_true_eq, beq_iff_eq] at hk
    exact ⟨hk.1, by omega⟩
  simp only [Utf8.decode] at h2
  repeat' split at h2
  all_goals first
    | (exfalso; omega)
    | (obtain rfl : j = 1 := by omega
       rename_i hc _
       simp only [Bool.and_eq_true] at hc
       exact key 1 (by simpa using hc.2))
    | (have hj : j = 1 ∨ j = 2 := by omega
       rename_i hc _
       simp only [Bool.and_eq_true] at hc
       rcases hj with rfl | rfl
       · exact key 1 (by simpa using hc.1.2)
       · exact key 2 (by simpa using hc.2))
    | (have hj : j = 1 ∨ j = 2 ∨ j = 3 := by omega
       rename_i hc _
       simp only [Bool.and_eq_true] at hc
       rcases hj with rfl | rfl | rfl
       · exact key 1 (by simpa using hc.1.1.2)
       · exact key 2 (by simpa using hc.1.2)
       · exact key 3 (by simpa using hc.2))
theorem decode_wide (s : ByteArray) (pos : Nat) (h : pos < s.size) : pos + (Utf8.decode s pos).2 ≤ s.size ∧ 1 ≤ (Utf8.decode s pos).2 := by
  have h1 : 1 ≤ (Utf8.decode s pos).2 := by
    by_cases ha : (s[pos]'h).toNat < 128
    · rw [decode_ascii s pos h ha]; exact Nat.le_refl _
    · exact (decode_high s pos h (by omega)).2
  refine ⟨?_, h1⟩
  rcases Nat.lt_or_ge 1 (Utf8.decode s pos).2 with k | k
  · have := (decode_tail s pos ((Utf8.decode s pos).2 - 1) (by omega) (by omega)).1
    omega
  · omega

/-- The bytes of a text from one place to another. -/
def seg (s : ByteArray) (a b : Nat) : List UInt8 := (s.data.toList.take b).drop a
theorem seg_len (s : ByteArray) (a b : Nat) (h : b ≤ s.size) : (seg s a b).length = b - a := by
  have : s.data.toList.length = s.size := by simp
  unfold seg; simp; omega
theorem seg_empty (s : ByteArray) (a b : Nat) (h : b ≤ s.size) : (seg s a b).isEmpty = decide (b ≤ a) := by
  have := seg_len s a b h
  rw [Bool.eq_iff_iff]
  simp only [List.isEmpty_iff, decide_eq_true_eq]
  constructor
  · intro e; rw [e] at this; simp at this; omega
  · intro e; exact List.eq_nil_of_length_eq_zero (by omega)
theorem seg_more (s : ByteArray) (a b c : Nat) (h1 : a ≤ b) (h2 : b ≤ c) (h3 : c ≤ s.size) : seg s a b ++ seg s b c = seg s a c := by
  unfold seg
  have e : s.data.toList.take c = s.data.toList.take b ++ (s.data.toList.take c).drop b := by
    have := (List.take_append_drop b (s.data.toList.take c)).symm
    rwa [List.take_take, Nat.min_eq_left h2] at this
  have hl : s.data.toList.length = s.size := by simp
  conv => rhs; rw [e]
  rw [List.drop_append_of_le_length (by simp; omega)]
theorem seg_mem (s : ByteArray) (a b : Nat) (x : UInt8) (h : x ∈ seg s a b) (hb : b ≤ s.size) : ∃ j, a ≤ j ∧ j < b ∧ s.get! j = x := by
  unfold seg at h
  obtain ⟨i, hi, rfl⟩ := List.mem_iff_getElem.1 h
  simp at hi
  refine ⟨a + i, by omega, by omega, ?_⟩
  rw [get_b s (a + i) (by omega)]
  simp
  rfl
theorem extract_seg (s : ByteArray) (a b : Nat) : (s.extract a b).data.toList = seg s a b := by
  rw [Lib.extract_data]
  unfold seg
  rw [List.drop_take]
theorem wordsA_skip : ∀ (mid cur rest : List UInt8), (∀ b ∈ mid, isBl b = false) → wordsA cur (mid ++ rest) = wordsA (cur ++ mid) rest
  | [], cur, rest, _ => by simp
  | b :: mid, cur, rest, h => by
    rw [List.cons_append, wordsA, if_neg (by rw [h b (by simp)]; simp), wordsA_skip mid (cur ++ [b]) rest (fun x hx => h x (by simp [hx]))]
    simp
theorem wordsA_blank (b : UInt8) (cur rest : List UInt8) (hb : isBl b = true) : wordsA cur (b :: rest) = (if cur.isEmpty then [] else [cur]) ++ wordsA [] rest := by
  rw [wordsA, if_pos hb]
  cases cur <;> simp
theorem wordsA_ne : ∀ (l cur : List UInt8) (x : List UInt8), x ∈ wordsA cur l → x ≠ []
  | [], cur, x, h => by
    rw [wordsA] at h
    split at h
    · cases h
    · simp at h; subst h; intro e; subst e; simp at *
  | b :: l, cur, x, h => by
    rw [wordsA] at h
    split at h
    · split at h
      · exact wordsA_ne l [] x h
      · rcases List.mem_cons.1 h with rfl | h
        · intro e; subst e; simp at *
        · exact wordsA_ne l [] x h
    · exact wordsA_ne l _ x h
theorem wordsA_le : ∀ (l cur : List UInt8) (x : List UInt8), x ∈ wordsA cur l → x.length ≤ cur.length + l.length
  | [], cur, x, h => by
    rw [wordsA] at h
    split at h
    · cases h
    · simp at h; subst h; simp
  | b :: l, cur, x, h => by
    rw [wordsA] at h
    split at h
    · split at h
      · have := wordsA_le l [] x h; simp at *; omega
      · rcases List.mem_cons.1 h with rfl | h
        · simp
        · have := wordsA_le l [] x h; simp at *; omega
    · have := wordsA_le l _ x h; simp at *; omega
theorem wordsA_len : ∀ (l cur : List UInt8), (wordsA cur l).length ≤ l.length + 1
  | [], cur => by rw [wordsA]; split <;> simp
  | b :: l, cur => by
    rw [wordsA]
    split
    · split
      · have := wordsA_len l []; simp; omega
      · have := wordsA_len l []; simp; omega
    · have := wordsA_len l (cur ++ [b]); simp; omega
theorem ahead_le (c : UInt8) : ∀ l : List UInt8, (ahead c l).length ≤ l.length
  | [] => by simp [ahead]
  | b :: r => by
    have := ahead_le c r
    rw [ahead]
    split
    · simp
    · simp; omega
theorem wordsOf_ne (l x : List UInt8) (h : x ∈ wordsOf l) : x ≠ [] := wordsA_ne _ _ x h
theorem wordsOf_le (l x : List UInt8) (h : x ∈ wordsOf l) : x.length ≤ l.length := by
  have := wordsA_le _ _ x h
  have := ahead_le 35 l
  simp at *
  omega
theorem wordsOf_len (l : List UInt8) : (wordsOf l).length ≤ l.length + 1 := by
  have := wordsA_len (ahead 35 l) []
  have := ahead_le 35 l
  unfold wordsOf words
  omega

/-- a blank, as a rune -/
def blR (n : Nat) : Bool := decide (n = 32) || decide (n = 9)
theorem blR_byte (b : UInt8) : blR b.toNat = isBl b := by
  unfold blR isBl
  rw [Bool.eq_iff_iff]
  simp only [Bool.or_eq_true, decide_eq_true_eq, beq_iff_eq]
  constructor
  · rintro (h | h)
    · left; exact UInt8.toNat_inj.1 h
    · right; exact UInt8.toNat_inj.1 h
  · rintro (h | h) <;> rw [h] <;> simp
/-- what is gathered of a word -/
def curOf (s : ByteArray) (st : Option Nat) (pos : Nat) : List UInt8 := match st with
  | none => []
  | some a => seg s a pos
theorem spans_words (s : ByteArray) : ∀ (f pos : Nat) (st : Option Nat) (acc : List (Nat × Nat)), s.size ≤ pos + f → pos ≤ s.size → (∀ a, st = some a → a < pos) →
    (Lib.closeSpans s (Lib.spansFromP blR s f pos st acc)).map (fun x => seg s x.1 x.2) = acc.map (fun x => seg s x.1 x.2) ++ wordsA (curOf s st pos) (s.data.toList.drop pos) := by
  have fin : ∀ (pos : Nat) (st : Option Nat) (acc : List (Nat × Nat)), pos = s.size → (∀ a, st = some a → a < pos) → (Lib.closeSpans s (acc, st)).map (fun x => seg s x.1 x.2) = acc.map (fun x => seg s x.1 x.2) ++ wordsA (curOf s st pos) (s.data.toList.drop pos) := by
    intro pos st acc hp hst
    subst hp
    rw [drop_end s s.size (by omega), wordsA]
    cases st with
    | none => simp [curOf, Lib.closeSpans]
    | some a =>
      have := hst a rfl
      rw [curOf, seg_empty s a s.size (Nat.le_refl _), if_neg (by simp; omega)]
      simp [Lib.closeSpans]
  intro f
  induction f with
  | zero =>
    intro pos st acc h1 h2 h3
    exact fin pos st acc (by omega) h3
  | succ f ih =>
    intro pos st acc h1 h2 h3
    unfold Lib.spansFromP
    by_cases hp : pos < s.size
    · rw [if_pos hp]
      obtain ⟨hd1, hd2⟩ := decode_wide s pos hp
      have hdp := drop_at s pos hp
      by_cases hbl : isBl (s[pos]'hp) = true
      · have hasc : (s[pos]'hp).toNat < 128 := by
          unfold isBl at hbl
          simp only [Bool.or_eq_true, beq_iff_eq] at hbl
          rcases hbl with h | h <;> rw [h] <;> simp
        have hdec := decode_ascii s pos hp hasc
        rw [hdec]
        rw [if_pos (show blR (s[pos]'hp).toNat = true by rw [blR_byte]; exact hbl)]
        rw [hdp, wordsA_blank _ _ _ hbl]
        cases st with
        | none =>
          simp only
          rw [ih (pos + 1) none acc (by omega) (by omega) (by simp)]
          simp [curOf]
        | some a =>
          have := h3 a rfl
          simp only
          rw [ih (pos + 1) none (acc ++ [(a, pos)]) (by omega) (by omega) (by simp)]
          rw [show curOf s (some a) pos = seg s a pos from rfl, seg_empty s a pos (by omega), if_neg (by simp; omega)]
          simp [curOf]
      · have hr : blR (Utf8.decode s pos).1 = false := by
          by_cases ha : (s[pos]'hp).toNat < 128
          · rw [decode_ascii s pos hp ha]; rw [blR_byte]; simpa using hbl
          · have := (decode_high s pos hp (by omega)).1
            unfold blR; simp; omega
        rw [if_neg (by rw [hr]; simp)]
        have hmid : ∀ b ∈ seg s pos (pos + (Utf8.decode s pos).2), isBl b = false := by
          intro b hb
          obtain ⟨j, h1, h2, rfl⟩ := seg_mem s _ _ b hb hd1
          by_cases e : j = pos
          · subst e; rw [get_b s j hp]; simpa using hbl
          · have := (decode_tail s pos (j - pos) (by omega) (by omega)).2
            rw [show pos + (j - pos) = j by omega] at this
            unfold isBl
            simp only [Bool.or_eq_false_iff, beq_eq_false_iff_ne]
            refine ⟨fun e => ?_, fun e => ?_⟩ <;> rw [e] at this <;> simp at this
        have e : s.data.toList.drop pos = seg s pos (pos + (Utf8.decode s pos).2) ++ s.data.toList.drop (pos + (Utf8.decode s pos).2) := by
          have := (List.take_append_drop (Utf8.decode s pos).2 (s.data.toList.drop pos)).symm
          rw [List.drop_drop] at this
          rw [this]
          unfold seg
          rw [List.drop_take, show pos + (Utf8.decode s pos).2 - pos = (Utf8.decode s pos).2 by omega]
        rw [e, wordsA_skip _ _ _ hmid]
        cases st with
        | none =>
          simp only
          rw [ih _ (some pos) acc (by omega) hd1 (by intro a h; injection h with h; omega)]
          simp [curOf]
        | some a =>
          have := h3 a rfl
          simp only
          rw [ih _ (some a) acc (by omega) hd1 (by intro b h; injection h with h; omega)]
          rw [show curOf s (some a) pos = seg s a pos from rfl, seg_more s a pos _ (by omega) (by omega) hd1]
          rfl
    · rw [if_neg hp]
      exact fin pos st acc (by omega) h3
theorem fields_words (s : ByteArray) : (Lib.goFieldsP blR s).map (·.data.toList) = words s.data.toList := by
  unfold Lib.goFieldsP Lib.spansOfP words
  rw [List.map_map]
  have := spans_words s s.size 0 none [] (by omega) (by omega) (by simp)
  simp only [curOf, List.map_nil, List.nil_append, List.drop_zero] at this
  rw [← this]
  refine List.map_congr_left fun x _ => ?_
  exact extract_seg s x.1 x.2
end U
end Go.Proofs.YtnhmmplheihojaaGreatDoor
