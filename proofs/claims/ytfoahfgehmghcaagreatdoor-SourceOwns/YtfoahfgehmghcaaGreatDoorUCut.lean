import Derived.Test.YtfoahfgehmghcaaGreatDoorUNum
import Derived.Lib.FieldsP
import Derived.Test.YtfoahfgehmghcaaGreatDoorGBase
/- Package source: the words of a line, as strings.FieldsFunc parts them. -/
namespace Go.Proofs.YtfoahfgehmghcaaGreatDoor
namespace U
open Go.RowKit

theorem get_b (s : ByteArray) (p : Nat) (h : p < s.size) : s.get! p = s[p]'h := by
  simp [ByteArray.get!, getElem!_pos, h]
  rfl
/-- A continuation's bytes are no blanks. -/
theorem decode_tail (s : ByteArray) (pos : Nat) : ∀ j, 1 ≤ j → j < (Utf8.decode s pos).2 → pos + j < s.size ∧ 128 ≤ (s.get! (pos + j)).toNat := by
  intro j h1 h2
  have key : ∀ k, (decide (pos + k < s.size) && ((s.get! (pos + k)).toNat / 64 == 2)) = true → pos + k < s.size ∧ 128 ≤ (s.get! (pos + k)).toNat := by
    intro k hk
    simp only [Bool.and_eq_true, decide_eq_true_eq, beq_iff_eq] at hk
    exact ⟨hk.1, by omega⟩
  simp only [Utf8.decode] at h2
  repeat' split at h2
  all_goals first
    | (exfalso; omega)
    | (obtain rfl : j = 1 := by omega
       rename_i hc _
       simp only [Bool.and_eq_true] at hc
       exact key 1 (by simpa using hc.2))
    | (have hj : j = 1 ∨ j = 2 := by omega
       rename_i hc _
       simp only [Bool.and_eq_true] at hc
       rcases hj with rfl | rfl
       · exact key 1 (by simpa using hc.1.2)
       · exact key 2 (by simpa using hc.2))
    | (have hj : j = 1 ∨ j = 2 ∨ j = 3 := by omega
       rename_i hc _
       simp only [Bool.and_eq_true] at hc
       rcases hj with rfl | rfl | rfl
       · exact key 1 (by simpa using hc.1.1.2)
       · exact key 2 (by simpa using hc.1.2)
       · exact key 3 (by simpa using hc.2))
theorem decode_wide (s : ByteArray) (pos : Nat) (h : pos < s.size) : pos + (Utf8.decode s pos).2 ≤ s.size ∧ 1 ≤ (Utf8.decode s pos).2 := by
  have h1 : 1 ≤ (Utf8.decode s pos).2 := by
    by_cases ha : (s[pos]'h).toNat < 128
    · rw [decode_ascii s pos h ha]; exact Nat.le_refl _
    · exact (decode_high s pos h (by omega)).2
  refine ⟨?_, h1⟩
  rcases Nat.lt_or_ge 1 (Utf8.decode s pos).2 with k | k
  · have := (decode_tail s pos ((Utf8.decode s pos).2 - 1) (by omega) (by omega)).1
    omega
  · omega

/-- The bytes of a text from one place to another. -/
def seg (s : ByteArray) (a b : Nat) : List UInt8 := (s.data.toList.take b).drop a
theorem seg_len (s : ByteArray) (a b : Nat) (h : b ≤ s.size) : (seg s a b).length = b - a := by
  have : s.data.toList.length = s.size := by simp
  unfold seg; simp; omega
theorem seg_empty (s : ByteArray) (a b : Nat) (h : b ≤ s.size) : (seg s a b).isEmpty = decide (b ≤ a) := by
  have := seg_len s a b h
  rw [Bool.eq_iff_iff]
  simp only [List.isEmpty_iff, decide_eq_true_eq]
  constructor
  · intro e; rw [e] at this; simp at this; omega
  · intro e; exact List.eq_nil_of_length_eq_zero (by omega)
theorem seg_more (s : ByteArray) (a b c : Nat) (h1 : a ≤ b) (h2 : b ≤ c) (h3 : c ≤ s.size) : seg s a b ++ seg s b c = seg s a c := by
  unfold seg
  have e : s.data.toList.take c = s.data.toList.take b ++ (s.data.toList.take c).drop b := by
    have := (List.take_append_drop b (s.data.toList.take c)).symm
    rwa [List.take_take, Nat.min_eq_left h2] at this
  have hl : s.data.toList.length = s.size := by simp
  conv => rhs; rw [e]
  rw [List.drop_append_of_le_length (by simp; omega)]
theorem seg_mem (s : ByteArray) (a b : Nat) (x : UInt8) (h : x ∈ seg s a b) (hb : b ≤ s.size) : ∃ j, a ≤ j ∧ j < b ∧ s.get! j = x := by
  unfold seg at h
  obtain ⟨i, hi, rfl⟩ := List.mem_iff_getElem.1 h
  simp at hi
  refine ⟨a + i, by omega, by omega, ?_⟩
  rw [get_b s (a + i) (by omega)]
  simp
  rfl
theorem extract_seg (s : ByteArray) (a b : Nat) : (s.extract a b).data.toList = seg s a b := by
  rw [Lib.extract_data]
  unfold seg
  rw [List.drop_take]
theorem wordsA_skip : ∀ (mid cur rest : List UInt8), (∀ b ∈ mid, isBl b = false) → wordsA cur (mid ++ rest) = wordsA (cur ++ mid) rest
  | [], cur, rest, _ => by simp
  | b :: mid, cur, rest, h => by
    rw [List.cons_append, wordsA, if_neg (by rw [h b (by simp)]; simp), wordsA_skip mid (cur ++ [b]) rest (fun x hx => h x (by simp [hx]))]
    simp
theorem wordsA_blank (b : UInt8) (cur rest : List UInt8) (hb : isBl b = true) : wordsA cur (b :: rest) = (if cur.isEmpty then [] else [cur]) ++ wordsA [] rest := by
  rw [wordsA, if_pos hb]
  cases cur <;> simp
theorem wordsA_ne : ∀ (l cur : List UInt8) (x : List UInt8), x ∈ wordsA cur l → x ≠ []
  | [], cur, x, h => by
    rw [wordsA] at h
    split at h
    · cases h
    · simp at h; subst h; intro e; subst e; simp at *
  | b :: l, cur, x, h => by
    rw [wordsA] at h
    split at h
    · split at h
      · exact wordsA_ne l [] x h
      · rcases List.mem_cons.1 h with rfl | h
        · intro e; subst e; simp at *
        · exact wordsA_ne l [] x h
    · exact wordsA_ne l _ x h
theorem wordsA_le : ∀ (l cur : List UInt8) (x : List UInt8), x ∈ wordsA cur l → x.length ≤ cur.length + l.length
  | [], cur, x, h => by
    rw [wordsA] at h
    split at h
    · cases h
    · simp at h; subst h; simp
  | b :: l, cur, x, h => by
    rw [wordsA] at h
    split at h
    · split at h
      · have := wordsA_le l [] x h; simp at *; omega
      · rcases List.mem_cons.1 h with rfl | h
        · simp
        · have := wordsA_le l [] x h; simp at *; omega
    · have := wordsA_le l _ x h; simp at *; omega
theorem wordsA_len : ∀ (l cur : List UInt8), (wordsA cur l).length ≤ l.length + 1
  | [], cur => by rw [wordsA]; split <;> simp
  | b :: l, cur => by
    rw [wordsA]
    split
    · split
      · have := wordsA_len l []; simp; omega
      · have := wordsA_len l []; simp; omega
    · have := wordsA_len l (cur ++ [b]); simp; omega
theorem ahead_le (c : UInt8) : ∀ l : List UInt8, (ahead c l).length ≤ l.length
  | [] => by simp [ahead]
  | b :: r => by
    have := ahead_le c r
    rw [ahead]
    split
    · simp
    · simp; omega
theorem wordsOf_ne (l x : List UInt8) (h : x ∈ wordsOf l) : x ≠ [] := wordsA_ne _ _ x h
theorem wordsOf_le (l x : List UInt8) (h : x ∈ wordsOf l) : x.length ≤ l.length := by
  have := wordsA_le _ _ x h
  have := ahead_le 35 l
  simp at *
  omega
theorem wordsOf_len (l : List UInt8) : (wordsOf l).length ≤ l.length + 1 := by
  have := wordsA_len (ahead 35 l) []
  have := ahead_le 35 l
  unfold wordsOf words
  omega

/-- a blank, as a rune -/
def blR (n : Nat) : Bool := decide (n = 32) || decide (n = 9)
theorem blR_byte (b : UInt8) : blR b.toNat = isBl b := by
  unfold blR isBl
  rw [Bool.eq_iff_iff]
  simp only [Bool.or_eq_true, decide_eq_true_eq, beq_iff_eq]
  constructor
  · rintro (h | h)
    · left; exact UInt8.toNat_inj.1 h
    · right; exact UInt8.toNat_inj.1 h
  · rintro (h | h) <;> rw [h] <;> simp
/-- what is gathered of a word -/
def curOf (s : ByteArray) (st : Option Nat) (pos : Nat) : List UInt8 := match st with
  | none => []
  | some a => seg s a pos
theorem spans_words (s : ByteArray) : ∀ (f pos : Nat) (st : Option Nat) (acc : List (Nat × Nat)), s.size ≤ pos + f → pos ≤ s.size → (∀ a, st = some a → a < pos) →
    (Lib.closeSpans s (Lib.spansFromP blR s f pos st acc)).map (fun x => seg s x.1 x.2) = acc.map (fun x => seg s x.1 x.2) ++ wordsA (curOf s st pos) (s.data.toList.drop pos) := by
  have fin : ∀ (pos : Nat) (st : Option Nat) (acc : List (Nat × Nat)), pos = s.size → (∀ a, st = some a → a < pos) → (Lib.closeSpans s (acc, st)).map (fun x => seg s x.1 x.2) = acc.map (fun x => seg s x.1 x.2) ++ wordsA (curOf s st pos) (s.data.toList.drop pos) := by
    intro pos st acc hp hst
    subst hp
    rw [drop_end s s.size (by omega), wordsA]
    cases st with
    | none => simp [curOf, Lib.closeSpans]
    | some a =>
      have := hst a rfl
      rw [curOf, seg_empty s a s.size (Nat.le_refl _), if_neg (by simp; omega)]
      simp [Lib.closeSpans]
  intro f
  induction f with
  | zero =>
    intro pos st acc h1 h2 h3
    exact fin pos st acc (by omega) h3
  | succ f ih =>
    intro pos st acc h1 h2 h3
    unfold Lib.spansFromP
    by_cases hp : pos < s.size
    · rw [if_pos hp]
      obtain ⟨hd1, hd2⟩ := decode_wide s pos hp
      have hdp := drop_at s pos hp
      by_cases hbl : isBl (s[pos]'hp) = true
      · have hasc : (s[pos]'hp).toNat < 128 := by
          unfold isBl at hbl
          simp only [Bool.or_eq_true, beq_iff_eq] at hbl
          rcases hbl with h | h <;> rw [h] <;> simp
        have hdec := decode_ascii s pos hp hasc
        rw [hdec]
        rw [if_pos (show blR (s[pos]'hp).toNat = true by rw [blR_byte]; exact hbl)]
        rw [hdp, wordsA_blank _ _ _ hbl]
        cases st with
        | none =>
          simp only
          rw [ih (pos + 1) none acc (by omega) (by omega) (by simp)]
          simp [curOf]
        | some a =>
          have := h3 a rfl
          simp only
          rw [ih (pos + 1) none (acc ++ [(a, pos)]) (by omega) (by omega) (by simp)]
          rw [show curOf s (some a) pos = seg s a pos from rfl, seg_empty s a pos (by omega), if_neg (by simp; omega)]
          simp [curOf]
      · have hr : blR (Utf8.decode s pos).1 = false := by
          by_cases ha : (s[pos]'hp).toNat < 128
          · rw [decode_ascii s pos hp ha]; rw [blR_byte]; simpa using hbl
          · have := (decode_high s pos hp (by omega)).1
            unfold blR; simp; omega
        rw [if_neg (by rw [hr]; simp)]
        have hmid : ∀ b ∈ seg s pos (pos + (Utf8.decode s pos).2), isBl b = false := by
          intro b hb
          obtain ⟨j, h1, h2, rfl⟩ := seg_mem s _ _ b hb hd1
          by_cases e : j = pos
          · subst e; rw [get_b s j hp]; simpa using hbl
          · have := (decode_tail s pos (j - pos) (by omega) (by omega)).2
            rw [show pos + (j - pos) = j by omega] at this
            unfold isBl
            simp only [Bool.or_eq_false_iff, beq_eq_false_iff_ne]
            refine ⟨fun e => ?_, fun e => ?_⟩ <;> rw [e] at this <;> simp at this
        have e : s.data.toList.drop pos = seg s pos (pos + (Utf8.decode s pos).2) ++ s.data.toList.drop (pos + (Utf8.decode s pos).2) := by
          have := (List.take_append_drop (Utf8.decode s pos).2 (s.data.toList.drop pos)).symm
          rw [List.drop_drop] at this
          rw [this]
          unfold seg
          rw [List.drop_take, show pos + (Utf8.decode s pos).2 - pos = (Utf8.decode s pos).2 by omega]
        rw [e, wordsA_skip _ _ _ hmid]
        cases st with
        | none =>
          simp only
          rw [ih _ (some pos) acc (by omega) hd1 (by intro a h; injection h with h; omega)]
          simp [curOf]
        | some a =>
          have := h3 a rfl
          simp only
          rw [ih _ (some a) acc (by omega) hd1 (by intro b h; injection h with h; omega)]
          rw [show curOf s (some a) pos = seg s a pos from rfl, seg_more s a pos _ (by omega) (by omega) hd1]
          rfl
    · rw [if_neg hp]
      exact fin pos st acc (by omega) h3
theorem fields_words (s : ByteArray) : (Lib.goFieldsP blR s).map (·.data.toList) = words s.data.toList := by
  unfold Lib.goFieldsP Lib.spansOfP words
  rw [List.map_map]
  have := spans_words s s.size 0 none [] (by omega) (by omega) (by simp)
  simp only [curOf, List.map_nil, List.nil_append, List.drop_zero] at this
  rw [← this]
  refine List.map_congr_left fun x _ => ?_
  exact extract_seg s x.1 x.2
end U
end Go.Proofs.YtfoahfgehmghcaaGreatDoor

/- strings.Cut and strings.Split at one sign. -/
namespace Go.Proofs.YtfoahfgehmghcaaGreatDoor
namespace U
open Go.RowKit

theorem splitOn_ne (c : UInt8) : ∀ l, splitOn c l ≠ []
  | [] => by simp [splitOn]
  | b :: r => by
    unfold splitOn
    split
    · simp
    · split <;> simp
theorem splitOn_none {c : UInt8} : ∀ {l : List UInt8}, c ∉ l → splitOn c l = [l]
  | [], _ => rfl
  | b :: r, h => by
    simp only [List.mem_cons, not_or] at h
    rw [splitOn, if_neg (fun e => h.1 e.symm), splitOn_none h.2]
theorem splitOn_hit {c : UInt8} : ∀ {a : List UInt8} (r : List UInt8), c ∉ a → splitOn c (a ++ c :: r) = a :: splitOn c r
  | [], r, _ => by simp [splitOn]
  | b :: a, r, h => by
    simp only [List.mem_cons, not_or] at h
    rw [List.cons_append, splitOn, if_neg (fun e => h.1 e.symm), splitOn_hit r h.2]
/-- every list has the sign nowhere, or a first place for it -/
theorem first_of (c : UInt8) : ∀ l : List UInt8, c ∉ l ∨ ∃ a r, l = a ++ c :: r ∧ c ∉ a
  | [] => .inl (by simp)
  | b :: l => by
    by_cases h : b = c
    · exact .inr ⟨[], l, by simp [h], by simp⟩
    · rcases first_of c l with k | ⟨a, r, rfl, k⟩
      · exact .inl (by simp [k, Ne.symm h])
      · exact .inr ⟨b :: a, r, rfl, by simp [k, Ne.symm h]⟩

theorem occ_one (l : List UInt8) (c : UInt8) (j : Nat) : Lib.occAt l [c] j = decide (l[j]? = some c) := by
  unfold Lib.occAt
  rcases Nat.lt_or_ge j l.length with h | h
  · rw [List.drop_eq_getElem_cons h, List.getElem?_eq_getElem h]
    rw [Bool.eq_iff_iff]
    simp [List.isPrefixOf]
    exact eq_comm
  · rw [List.drop_eq_nil_of_le h, List.getElem?_eq_none h]; rfl
theorem index_none_one {l : List UInt8} {c : UInt8} (h : c ∉ l) : Lib.index l [c] = -1 :=
  Lib.index_none fun j _ => by
    rw [occ_one]
    exact decide_eq_false fun e => h (List.mem_of_getElem? e)
theorem index_hit_one {a r : List UInt8} {c : UInt8} (h : c ∉ a) : Lib.index (a ++ c :: r) [c] = a.length :=
  Lib.index_first (by simp) (by rw [occ_one]; simp) fun j hj => by
    rw [occ_one]
    refine decide_eq_false fun e => h ?_
    rw [List.getElem?_append_left hj] at e
    exact List.mem_of_getElem? e
theorem split_eq (c : UInt8) : ∀ (k : Nat) (l : List UInt8), Lib.count l [c] = k → Lib.splitK [c] 0 k l = splitOn c l := by
  intro k
  induction k with
  | zero =>
    intro l hk
    rcases first_of c l with h | ⟨a, r, rfl, h⟩
    · rw [splitOn_none h]; rfl
    · rw [Lib.count_hit (i := a.length) (by simp) (index_hit_one h)] at hk; omega
  | succ k ih =>
    intro l hk
    rcases first_of c l with h | ⟨a, r, rfl, h⟩
    · rw [Lib.count_miss (index_none_one h)] at hk; omega
    · rw [Lib.count_hit (i := a.length) (by simp) (index_hit_one h)] at hk
      unfold Lib.splitK
      rw [index_hit_one h, if_neg (by simp), splitOn_hit r h]
      have e1 : (a ++ c :: r).drop (a.length + [c].length) = r := by simp
      have e2 : ((a.length : Int).toNat + 0) = a.length := by simp
      rw [e1] at hk
      have e3 : (a ++ c :: r).drop ((a.length : Int).toNat + [c].length) = r := by simp
      rw [e2, e3, ih r (by omega)]
      simp

theorem splitOn_le (c : UInt8) : ∀ (l x : List UInt8), x ∈ splitOn c l → x.length ≤ l.length
  | [], x, h => by simp [splitOn] at h; subst h; simp
  | b :: r, x, h => by
    unfold splitOn at h
    split at h
    · rcases List.mem_cons.1 h with rfl | h
      · simp
      · have := splitOn_le c r x h; simp only [List.length_cons]; omega
    · split at h
      · rename_i y t e
        have ih := splitOn_le c r
        rw [e] at ih
        rcases List.mem_cons.1 h with rfl | h
        · have := ih y (by simp); simp only [List.length_cons]; omega
        · have := ih x (by simp [h]); simp only [List.length_cons]; omega
      · simp at h; subst h; simp
theorem splitOn_len (c : UInt8) : ∀ l : List UInt8, (splitOn c l).length ≤ l.length + 1
  | [] => by simp [splitOn]
  | b :: r => by
    have ih := splitOn_len c r
    unfold splitOn
    split
    · simp only [List.length_cons]; omega
    · split
      · rename_i y t e
        rw [e] at ih
        simp only [List.length_cons] at ih ⊢; omega
      · simp
theorem ahead_none {c : UInt8} : ∀ {l : List UInt8}, c ∉ l → ahead c l = l
  | [], _ => rfl
  | b :: r, h => by
    simp only [List.mem_cons, not_or] at h
    rw [ahead, if_neg (fun e => h.1 e.symm), ahead_none h.2]
theorem ahead_hit {c : UInt8} : ∀ {a : List UInt8} (r : List UInt8), c ∉ a → ahead c (a ++ c :: r) = a
  | [], r, _ => by simp [ahead]
  | b :: a, r, h => by
    simp only [List.mem_cons, not_or] at h
    rw [List.cons_append, ahead, if_neg (fun e => h.1 e.symm), ahead_hit r h.2]
theorem ba_extract (s : ByteArray) (a r : List UInt8) (h : s.data.toList = a ++ r) : s.extract 0 a.length = ba a := by
  rw [← ba_of (s.extract 0 a.length), Lib.extract_data, h]
  simp
set_option maxHeartbeats 1000000 in
theorem cut_lite (s : ByteArray) (hs : s.size ≤ 65536) (c : UInt8) (w : World) :
    Calls Tryz.prog 111 #[.string s, .string ⟨#[c]⟩] w fun e w' => (∃ y b, e = .returned (.tuple #[.string (ba (ahead c s.data.toList)), .string y, .bool b])) ∧ ∃ n, w' = w.drewN n := by
  have hlen : s.data.toList.length = s.size := by simp
  have hI := Tryz.stringslite_Index_one s c
  rw [← Lib.index_one] at hI
  have HI := hide hI
  clear hI
  have e1 : (⟨#[c]⟩ : ByteArray).size = 1 := rfl
  have e2 : (⟨#[c]⟩ : ByteArray).data.toList = [c] := rfl
  rcases first_of c s.data.toList with h | ⟨a, r, hr, h⟩
  · have hi : Lib.index s.data.toList [c] = -1 := index_none_one h
    rw [ahead_none h, ba_of]
    rw [hi] at HI
    clear hi
    go_enter Tryz.func111, Tryz.ntmps111
    go_wp2_with (go_at_call 127; refine (HI.out _).mono ?_; rintro e w' ⟨rfl, rfl⟩)
    go_ret3
    exact ⟨⟨_, _, rfl⟩, 0, rfl⟩
  · have hi : Lib.index s.data.toList [c] = (a.length : Nat) := by rw [hr]; exact index_hit_one h
    rw [show ahead c s.data.toList = a by rw [hr]; exact ahead_hit r h, ← ba_extract s a _ hr]
    rw [hi] at HI
    have hl : a.length + 1 ≤ s.size := by rw [← hlen, hr]; simp
    clear hi hr
    generalize a.length = i at *
    have j1 : (i : Int) ≤ s.size := by omega
    have j2 : (i : Int) + 1 ≤ s.size := by omega
    have j3 : IntKind.i64.wrap ((i : Int) + 1) = (i : Int) + 1 := by rw [IntKind.wrap_i64]; omega
    have j4 : (0 : Int) ≤ (i : Int) + 1 := by omega
    have j5 : ((i : Int) + 1).toNat = i + 1 := by omega
    go_enter Tryz.func111, Tryz.ntmps111
    go_wp2_with (go_at_call 127; refine (HI.out _).mono ?_; rintro e w' ⟨rfl, rfl⟩)
    go_quiet (fail)
    go_wp2_with fail
    go_ret3
    exact ⟨⟨_, _, rfl⟩, _, rfl⟩
/-- strings.Cut at one sign. -/
theorem cut_any (s : ByteArray) (hs : s.size ≤ 65536) (c : UInt8) (w : World) :
    Calls Tryz.prog 89 #[.string s, .string ⟨#[c]⟩] w fun e w' => (∃ y b, e = .returned (.tuple #[.string (ba (ahead c s.data.toList)), .string y, .bool b])) ∧ ∃ n, w' = w.drewN n := by
  go_enter Tryz.func89, Tryz.ntmps89
  go_wp2_with (go_at_call 111; refine (cut_lite s hs c _).mono ?_; rintro e w' ⟨⟨y, b, rfl⟩, n, rfl⟩)
  go_ret3
  exact ⟨⟨y, b, rfl⟩, n, rfl⟩
set_option maxHeartbeats 1000000 in
/-- strings.Split at one sign. -/
theorem split_any (s : ByteArray) (hs : s.size ≤ 65536) (c : UInt8) (w : World) :
    Calls Tryz.prog 65 #[.string s, .string ⟨#[c]⟩] w fun e w' => ∃ xs : List ByteArray, xs.map (·.data.toList) = splitOn c s.data.toList ∧ (∀ x ∈ xs, x.size ≤ 65536) ∧ xs.length ≤ 65537 ∧ e = .returned (.slice (some ⟨w.heap.size, 0, none⟩) xs.length xs.length) ∧ w' = w.alloc (.cells (xs.map Value.string).toArray 9) := by
  have e1 : 1 ≤ (⟨#[c]⟩ : ByteArray).size := Nat.le_refl 1
  have hle := Lib.countB_le ⟨#[c]⟩ e1 s.size s (Nat.le_refl _)
  have hl := Lib.splitB_all ⟨#[c]⟩ e1 0 _ s rfl
  have hd := Lib.splitB_data ⟨#[c]⟩ 0 (Lib.countB s ⟨#[c]⟩) s
  have hk : Lib.splitK [c] 0 (Lib.count s.data.toList [c]) s.data.toList = splitOn c s.data.toList := split_eq c _ _ rfl
  have hgen := Any.strings_genSplit_core Tryz.lays221 (by kernel_rfl) s ⟨#[c]⟩ 0 (-1) (Lib.countB s ⟨#[c]⟩ + 1) w (by omega) e1 (Nat.zero_le _)
    (fun x cs _ => by
      have := Tryz.strings_Index_one x c (w.alloc (.cells cs 9))
      rw [← Lib.index_one] at this
      exact this)
    (by
      have := Tryz.strings_Count_one s c w
      rw [show Lib.countByte s.data.toList c = Lib.countB s ⟨#[c]⟩ from (Lib.count_one c s.data.toList).symm] at this
      exact this) (by decide) (by decide) (by rw [if_pos (by decide)]; omega)
  rw [Nat.add_sub_cancel, hl] at hgen
  have e2 : Lib.cellsOf (Lib.splitB ⟨#[c]⟩ 0 (Lib.countB s ⟨#[c]⟩) s) (Lib.countB s ⟨#[c]⟩ + 1) = ((Lib.splitB ⟨#[c]⟩ 0 (Lib.countB s ⟨#[c]⟩) s).map Value.string).toArray := by rw [← hl]; exact Lib.cellsOf_full _
  rw [e2] at hgen
  have HG := hide hgen
  clear hgen e2
  have hpost : ∃ xs : List ByteArray, xs = Lib.splitB ⟨#[c]⟩ 0 (Lib.countB s ⟨#[c]⟩) s ∧ xs.map (·.data.toList) = splitOn c s.data.toList ∧ (∀ x ∈ xs, x.size ≤ 65536) ∧ xs.length ≤ 65537 := by
    refine ⟨_, rfl, hd.trans hk, fun x hx => ?_, ?_⟩
    · have hm' : x.data.toList ∈ splitOn c s.data.toList := by rw [← hk]; exact hd ▸ List.mem_map_of_mem hx
      have := splitOn_le c s.data.toList _ hm'
      have e1 : x.data.toList.length = x.size := by simp
      have e2 : s.data.toList.length = s.size := by simp
      omega
    · have := splitOn_len c s.data.toList
      rw [← hk] at this
      have e0 := congrArg List.length hd
      rw [List.length_map] at e0
      have e2 : s.data.toList.length = s.size := by simp
      have e3 : Lib.countB s ⟨#[c]⟩ = Lib.count s.data.toList [c] := rfl
      have e4 : (⟨#[c]⟩ : ByteArray).data.toList = [c] := rfl
      rw [e3, e4] at e0
      rw [e3, e0]
      omega
  obtain ⟨xs, hxs, p1, p2, p3⟩ := hpost
  rw [← hxs] at hl HG
  rw [← hl] at HG
  clear hxs hd hk hle
  go_enter Tryz.func65, Tryz.ntmps65
  go_wp2_with (go_at_call 88; refine HG.out.mono ?_; rintro e w' ⟨rfl, rfl⟩)
  go_ret
  exact ⟨xs, p1, p2, p3, by rw [hl]; rfl, rfl⟩
end U
end Go.Proofs.YtfoahfgehmghcaaGreatDoor
