/- strings.Cut and strings.Split at one sign. -/
import Derived.Test.YtnhmmplheihojaaGreatDoorUFld
import Derived.Test.YtnhmmplheihojaaGreatDoorShelf
namespace Go.Proofs.YtnhmmplheihojaaGreatDoor
namespace U
open Go.RowKit

theorem splitOn_ne (c : UInt8) : ∀ l, splitOn c l ≠ []
  | [] => by simp [splitOn]
  | b :: r => by
    unfold splitOn
    split
    · simp
    · split <;> simp
theorem splitOn_none {c : UInt8} : ∀ {l : List UInt8}, c ∉ l → splitOn c l = [l]
  | [], _ => rfl
  | b :: r, h => by
    simp only [List.mem_cons, not_or] at h
    rw [splitOn, if_neg (fun e => h.1 e.symm), splitOn_none h.2]
theorem splitOn_hit {c : UInt8} : ∀ {a : List UInt8} (r : List UInt8), c ∉ a → splitOn c (a ++ c :: r) = a :: splitOn c r
  | [], r, _ => by simp [splitOn]
  | b :: a, r, h => by
    simp only [List.mem_cons, not_or] at h
    rw [List.cons_append, splitOn, if_neg (fun e => h.1 e.symm), splitOn_hit r h.2]
/-- every list has the sign nowhere, or a first place for it -/
theorem first_of (c : UInt8) : ∀ l : List UInt8, c ∉ l ∨ ∃ a r, l = a ++ c :: r ∧ c ∉ a
  | [] => .inl (by simp)
  | b :: l => by
    by_cases h : b = c
    · exact .inr ⟨[], l, by simp [h], by simp⟩
    · rcases first_of c l with k | ⟨a, r, rfl, k⟩
      · exact .inl (by simp [k, Ne.symm h])
      · exact .inr ⟨b :: a, r, rfl, by simp [k, Ne.symm h]⟩

theorem occ_one (l : List UInt8) (c : UInt8) (j : Nat) : Lib.occAt l [c] j = decide (l[j]? = some c) := by
  unfold Lib.occAt
  rcases Nat.lt_or_ge j l.length with h | h
  · rw [List.drop_eq_getElem_cons h, List.getElem?_eq_getElem h]
    rw [Bool.eq_iff_iff]
    simp [List.isPrefixOf]
    exact eq_comm
  · rw [List.drop_eq_nil_of_le h, List.getElem?_eq_none h]; rfl
theorem index_none_one {l : List UInt8} {c : UInt8} (h : c ∉ l) : Lib.index l [c] = -1 :=
  Lib.index_none fun j _ => by
    rw [occ_one]
    exact decide_eq_false fun e => h (List.mem_of_getElem? e)
theorem index_hit_one {a r : List UInt8} {c : UInt8} (h : c ∉ a) : Lib.index (a ++ c :: r) [c] = a.length :=
  Lib.index_first (by simp) (by rw [occ_one]; simp) fun j hj => by
    rw [occ_one]
    refine decide_eq_false fun e => h ?_
    rw [List.getElem?_append_left hj] at e
    exact List.mem_of_getElem? e
theorem split_eq (c : UInt8) : ∀ (k : Nat) (l : List UInt8), Lib.count l [c] = k → Lib.splitK [c] 0 k l = splitOn c l := by
  intro k
  induction k with
  | zero =>
    intro l hk
    rcases first_of c l with h | ⟨a, r, rfl, h⟩
    · rw [splitOn_none h]; rfl
    · rw [Lib.count_hit (i := a.length) (by simp) (index_hit_one h)] at hk; omega
  | succ k ih =>
    intro l hk
    rcases first_of c l with h | ⟨a, r, rfl, h⟩
    · rw [Lib.count_miss (index_none_one h)] at hk; omega
    · rw [Lib.count_hit (i := a.length) (by simp) (index_hit_one h)] at hk
      unfold Lib.splitK
      rw [index_hit_one h, if_neg (by simp), splitOn_hit r h]
      have e1 : (a ++ c :: r).drop (a.length + [c].length) = r := by simp
      have e2 : ((a.length : Int).toNat + 0) = a.length := by simp
      rw [e1] at hk
      have e3 : (a ++ c :: r).drop ((a.length : Int).toNat + [c].length) = r := by simp
      rw [e2, e3, ih r (by omega)]
      simp

theorem splitOn_le (c : UInt8) : ∀ (l x : List UInt8), x ∈ splitOn c l → x.length ≤ l.length
  | [], x, h => by simp [splitOn] at h; subst h; simp
  | b :: r, x, h => by
    unfold splitOn at h
    split at h
    · rcases List.mem_cons.1 h with rfl | h
      · simp
      · have := splitOn_le c r x h; simp only [List.length_cons]; omega
    · split at h
      · rename_i y t e
        have ih := splitOn_le c r
        rw [e] at ih
        rcases List.mem_cons.1 h with rfl | h
        · have := ih y (by simp); simp only [List.length_cons]; omega
        · have := ih x (by simp [h]); simp only [List.length_cons]; omega
      · simp at h; subst h; simp
theorem splitOn_len (c : UInt8) : ∀ l : List UInt8, (splitOn c l).length ≤ l.length + 1
  | [] => by simp [splitOn]
  | b :: r => by
    have ih := splitOn_len c r
    unfold splitOn
    split
    · simp only [List.length_cons]; omega
    · split
      · rename_i y t e
        rw [e] at ih
        simp only [List.length_cons] at ih ⊢; omega
      · simp
theorem ahead_none {c : UInt8} : ∀ {l : List UInt8}, c ∉ l → ahead c l = l
  | [], _ => rfl
  | b :: r, h => by
    simp only [List.mem_cons, not_or] at h
    rw [ahead, if_neg (fun e => h.1 e.symm), ahead_none h.2]
theorem ahead_hit {c : UInt8} : ∀ {a : List UInt8} (r : List UInt8), c ∉ a → ahead c (a ++ c :: r) = a
  | [], r, _ => by simp [ahead]
  | b :: a, r, h => by
    simp only [List.mem_cons, not_or] at h
    rw [List.cons_append, ahead, if_neg (fun e => h.1 e.symm), ahead_hit r h.2]
theorem ba_extract (s : ByteArray) (a r : List UInt8) (h : s.data.toList = a ++ r) : s.extract 0 a.length = ba a := by
  rw [← ba_of (s.extract 0 a.length), Lib.extract_data, h]
  simp
set_option maxHeartbeats 1000000 in
theorem cut_lite (s : ByteArray) (hs : s.size ≤ 65536) (c : UInt8) (w : World) :
    Calls Tryz.prog 97 #[.string s, .string ⟨#[c]⟩] w fun e w' => (∃ y b, e = .returned (.tuple #[.string (ba (ahead c s.data.toList)), .string y, .bool b])) ∧ ∃ n, w' = w.drewN n := by
  have hlen : s.data.toList.length = s.size := by simp
  have hI := Tryz.stringslite_Index_one s c
  rw [← Lib.index_one] at hI
  have HI := hide hI
  clear hI
  have e1 : (⟨#[c]⟩ : ByteArray).size = 1 := rfl
  have e2 : (⟨#[c]⟩ : ByteArray).data.toList = [c] := rfl
  rcases first_of c s.data.toList with h | ⟨a, r, hr, h⟩
  · have hi : Lib.index s.data.toList [c] = -1 := index_none_one h
    rw [ahead_none h, ba_of]
    rw [hi] at HI
    clear hi
    go_enter Tryz.func97, Tryz.ntmps97
    go_wp2_with (go_at_call 114; refine (HI.out _).mono ?_; rintro e w' ⟨rfl, rfl⟩)
    go_ret3
    exact ⟨⟨_, _, rfl⟩, 0, rfl⟩
  · have hi : Lib.index s.data.toList [c] = (a.length : Nat) := by rw [hr]; exact index_hit_one h
    rw [show ahead c s.data.toList = a by rw [hr]; exact ahead_hit r h, ← ba_extract s a _ hr]
    rw [hi] at HI
    have hl : a.length + 1 ≤ s.size := by rw [← hlen, hr]; simp
    clear hi hr
    generalize a.length = i at *
    have j1 : (i : Int) ≤ s.size := by omega
    have j2 : (i : Int) + 1 ≤ s.size := by omega
    have j3 : IntKind.i64.wrap ((i : Int) + 1) = (i : Int) + 1 := by rw [IntKind.wrap_i64]; omega
    have j4 : (0 : Int) ≤ (i : Int) + 1 := by omega
    have j5 : ((i : Int) + 1).toNat = i + 1 := by omega
    go_enter Tryz.func97, Tryz.ntmps97
    go_wp2_with (go_at_call 114; refine (HI.out _).mono ?_; rintro e w' ⟨rfl, rfl⟩)
    go_quiet (fail)
    go_wp2_with fail
    go_ret3
    exact ⟨⟨_, _, rfl⟩, _, rfl⟩
/-- strings.Cut at one sign. -/
theorem cut_any (s : ByteArray) (hs : s.size ≤ 65536) (c : UInt8) (w : World) :
    Calls Tryz.prog 73 #[.string s, .string ⟨#[c]⟩] w fun e w' => (∃ y b, e = .returned (.tuple #[.string (ba (ahead c s.data.toList)), .string y, .bool b])) ∧ ∃ n, w' = w.drewN n := by
  go_enter Tryz.func73, Tryz.ntmps73
  go_wp2_with (go_at_call 97; refine (cut_lite s hs c _).mono ?_; rintro e w' ⟨⟨y, b, rfl⟩, n, rfl⟩)
  go_ret3
  exact ⟨⟨y, b, rfl⟩, n, rfl⟩
set_option maxHeartbeats 1000000 in
/-- strings.Split at one sign. -/
theorem split_any (s : ByteArray) (hs : s.size ≤ 65536) (c : UInt8) (w : World) :
    Calls Tryz.prog 43 #[.string s, .string ⟨#[c]⟩] w fun e w' => ∃ xs : List ByteArray, xs.map (·.data.toList) = splitOn c s.data.toList ∧ (∀ x ∈ xs, x.size ≤ 65536) ∧ xs.length ≤ 65537 ∧ e = .returned (.slice (some ⟨w.heap.size, 0, none⟩) xs.length xs.length) ∧ w' = w.alloc (.cells (xs.map Value.string).toArray 9) := by
  have e1 : 1 ≤ (⟨#[c]⟩ : ByteArray).size := Nat.le_refl 1
  have hle := Lib.countB_le ⟨#[c]⟩ e1 s.size s (Nat.le_refl _)
  have hl := Lib.splitB_all ⟨#[c]⟩ e1 0 _ s rfl
  have hd := Lib.splitB_data ⟨#[c]⟩ 0 (Lib.countB s ⟨#[c]⟩) s
  have hk : Lib.splitK [c] 0 (Lib.count s.data.toList [c]) s.data.toList = splitOn c s.data.toList := split_eq c _ _ rfl
  have hgen := Any.strings_genSplit_core Tryz.lays221 (by kernel_rfl) s ⟨#[c]⟩ 0 (-1) (Lib.countB s ⟨#[c]⟩ + 1) w (by omega) e1 (Nat.zero_le _)
    (fun x cs _ => by
      have := Tryz.strings_Index_one x c (w.alloc (.cells cs 9))
      rw [← Lib.index_one] at this
      exact this)
    (by
      have := Tryz.strings_Count_one s c w
      rw [show Lib.countByte s.data.toList c = Lib.countB s ⟨#[c]⟩ from (Lib.count_one c s.data.toList).symm] at this
      exact this) (by decide) (by decide) (by rw [if_pos (by decide)]; omega)
  rw [Nat.add_sub_cancel, hl] at hgen
  have e2 : Lib.cellsOf (Lib.splitB ⟨#[c]⟩ 0 (Lib.countB s ⟨#[c]⟩) s) (Lib.countB s ⟨#[c]⟩ + 1) = ((Lib.splitB ⟨#[c]⟩ 0 (Lib.countB s ⟨#[c]⟩) s).map Value.string).toArray := by rw [← hl]; exact Lib.cellsOf_full _
  rw [e2] at hgen
  have HG := hide hgen
  clear hgen e2
  have hpost : ∃ xs : List ByteArray, xs = Lib.splitB ⟨#[c]⟩ 0 (Lib.countB s ⟨#[c]⟩) s ∧ xs.map (·.data.toList) = splitOn c s.data.toList ∧ (∀ x ∈ xs, x.size ≤ 65536) ∧ xs.length ≤ 65537 := by
    refine ⟨_, rfl, hd.trans hk, fun x hx => ?_, ?_⟩
    · have hm' : x.data.toList ∈ splitOn c s.data.toList := by rw [← hk]; exact hd ▸ List.mem_map_of_mem hx
      have := splitOn_le c s.data.toList _ hm'
      have e1 : x.data.toList.length = x.size := by simp
      have e2 : s.data.toList.length = s.size := by simp
      omega
    · have := splitOn_len c s.data.toList
      rw [← hk] at this
      have e0 := congrArg List.length hd
      rw [List.length_map] at e0
      have e2 : s.data.toList.length = s.size := by simp
      have e3 : Lib.countB s ⟨#[c]⟩ = Lib.count s.data.toList [c] := rfl
      have e4 : (⟨#[c]⟩ : ByteArray).data.toList = [c] := rfl
      rw [e3, e4] at e0
      rw [e3, e0]
      omega
  obtain ⟨xs, hxs, p1, p2, p3⟩ := hpost
  rw [← hxs] at hl HG
  rw [← hl] at HG
  clear hxs hd hk hle
  go_enter Tryz.func43, Tryz.ntmps43
  go_wp2_with (go_at_call 72; refine HG.out.mono ?_; rintro e w' ⟨rfl, rfl⟩)
  go_ret
  exact ⟨xs, p1, p2, p3, by rw [hl]; rfl, rfl⟩
end U
end Go.Proofs.YtnhmmplheihojaaGreatDoor
