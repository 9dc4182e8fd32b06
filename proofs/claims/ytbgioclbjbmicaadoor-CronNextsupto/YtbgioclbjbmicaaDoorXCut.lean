/- strings.Cut and strings.Split at one sign, in the words of XPar. -/
import Derived.Test.YtbgioclbjbmicaaDoorShelf
import Derived.Test.YtbgioclbjbmicaaDoorXNum
namespace Go.Proofs.YtbgioclbjbmicaaDoor
open Go.RowKit

theorem occ_one (l : List UInt8) (c : UInt8) (j : Nat) : Lib.occAt l [c] j = decide (l[j]? = some c) := by
  unfold Lib.occAt
  rcases Nat.lt_or_ge j l.length with h | h
  · rw [List.drop_eq_getElem_cons h, List.getElem?_eq_getElem h]
    rw [Bool.eq_iff_iff]
    simp [List.isPrefixOf]
    exact eq_comm
  · rw [List.drop_eq_nil_of_le h, List.getElem?_eq_none h]; rfl
theorem index_none_one {l : List UInt8} {c : UInt8} (h : c ∉ l) : Lib.index l [c] = -1 :=
  Lib.index_none fun j _ => by
    rw [occ_one]
    exact decide_eq_false fun e => h (List.mem_of_getElem? e)
theorem index_hit_one {a r : List UInt8} {c : UInt8} (h : c ∉ a) : Lib.index (a ++ c :: r) [c] = a.length :=
  Lib.index_first (by simp) (by rw [occ_one]; simp) fun j hj => by
    rw [occ_one]
    refine decide_eq_false fun e => h ?_
    rw [List.getElem?_append_left hj] at e
    exact List.mem_of_getElem? e
theorem cut_eq (l : List UInt8) (c : UInt8) : Lib.cut l [c] = X.cutAt c l := by
  rcases X.first_of c l with h | ⟨a, r, rfl, h⟩
  · unfold Lib.cut
    rw [index_none_one h, X.cutAt_none h]; rfl
  · unfold Lib.cut
    rw [index_hit_one h, X.cutAt_hit r h, if_pos (by omega)]
    simp
theorem split_eq (c : UInt8) : ∀ (k : Nat) (l : List UInt8), Lib.count l [c] = k → Lib.splitK [c] 0 k l = X.splitOn c l := by
  intro k
  induction k with
  | zero =>
    intro l hk
    rcases X.first_of c l with h | ⟨a, r, rfl, h⟩
    · rw [X.splitOn_none h]; rfl
    · rw [Lib.count_hit (i := a.length) (by simp) (index_hit_one h)] at hk; omega
  | succ k ih =>
    intro l hk
    rcases X.first_of c l with h | ⟨a, r, rfl, h⟩
    · rw [Lib.count_miss (index_none_one h)] at hk; omega
    · rw [Lib.count_hit (i := a.length) (by simp) (index_hit_one h)] at hk
      unfold Lib.splitK
      rw [index_hit_one h, if_neg (by simp), X.splitOn_hit r h]
      have e1 : (a ++ c :: r).drop (a.length + [c].length) = r := by simp
      have e2 : ((a.length : Int).toNat + 0) = a.length := by simp
      rw [e1] at hk
      have e3 : (a ++ c :: r).drop ((a.length : Int).toNat + [c].length) = r := by simp
      rw [e2, e3, ih r (by omega)]
      simp

theorem splitOn_le (c : UInt8) : ∀ (l x : List UInt8), x ∈ X.splitOn c l → x.length ≤ l.length
  | [], x, h => by simp [X.splitOn] at h; subst h; simp
  | b :: r, x, h => by
    unfold X.splitOn at h
    split at h
    · rcases List.mem_cons.1 h with rfl | h
      · simp
      · have := splitOn_le c r x h; simp only [List.length_cons]; omega
    · split at h
      · rename_i y t e
        have ih := splitOn_le c r
        rw [e] at ih
        rcases List.mem_cons.1 h with rfl | h
        · have := ih y (by simp); simp only [List.length_cons]; omega
        · have := ih x (by simp [h]); simp only [List.length_cons]; omega
      · simp at h; subst h; simp
theorem splitOn_len (c : UInt8) : ∀ l : List UInt8, (X.splitOn c l).length ≤ l.length + 1
  | [] => by simp [X.splitOn]
  | b :: r => by
    have ih := splitOn_len c r
    unfold X.splitOn
    split
    · simp only [List.length_cons]; omega
    · split
      · rename_i y t e
        rw [e] at ih
        simp only [List.length_cons] at ih ⊢; omega
      · simp
theorem bytes_at (l : List UInt8) : (⟨l.toArray⟩ : ByteArray).data.toList = l := by simp
set_option maxHeartbeats 1000000 in
theorem cut_lite (s : ByteArray) (hs : s.size ≤ 1024) (c : UInt8) (w : World) :
    Calls Tryd.prog 77 #[.string s, .string ⟨#[c]⟩] w fun e w' => e = .returned (.tuple #[.string ⟨(X.cutAt c s.data.toList).1.toArray⟩, .string ⟨(X.cutAt c s.data.toList).2.1.toArray⟩, .bool (X.cutAt c s.data.toList).2.2]) ∧ ∃ n, w' = w.drewN n := by
  rw [← cut_eq]
  have hlen : s.data.toList.length = s.size := by simp
  have hI := Tryd.stringslite_Index_one s c
  rw [← Lib.index_one] at hI
  have HI := hide hI
  clear hI
  have e1 : (⟨#[c]⟩ : ByteArray).size = 1 := rfl
  have e2 : (⟨#[c]⟩ : ByteArray).data.toList = [c] := rfl
  rcases X.first_of c s.data.toList with h | ⟨a, r, hr, h⟩
  · have hi : Lib.index s.data.toList [c] = -1 := index_none_one h
    obtain ⟨q1, q2, q3⟩ := Lib.cutB_miss s ⟨#[c]⟩ hi
    rw [e2] at q1 q2 q3
    rw [q1, q2, q3]
    rw [hi] at HI
    clear q1 q2 q3 hi
    go_enter Tryd.func77, Tryd.ntmps77
    go_wp2_with (go_at_call 82; refine (HI.out _).mono ?_; rintro e w' ⟨rfl, rfl⟩)
    go_ret3
    exact ⟨rfl, 0, rfl⟩
  · have hi : Lib.index s.data.toList [c] = (a.length : Nat) := by rw [hr]; exact index_hit_one h
    obtain ⟨q1, q2, q3⟩ := Lib.cutB_hit s ⟨#[c]⟩ a.length hi
    rw [e2] at q1 q2 q3
    rw [q1, q2, q3, e1]
    rw [hi] at HI
    have hl : a.length + 1 ≤ s.size := by rw [← hlen, hr]; simp
    clear q1 q2 q3 hi hr
    generalize a.length = i at *
    have j1 : (i : Int) ≤ s.size := by omega
    have j2 : (i : Int) + 1 ≤ s.size := by omega
    have j3 : IntKind.i64.wrap ((i : Int) + 1) = (i : Int) + 1 := by rw [IntKind.wrap_i64]; omega
    have j4 : (0 : Int) ≤ (i : Int) + 1 := by omega
    have j5 : ((i : Int) + 1).toNat = i + 1 := by omega
    go_enter Tryd.func77, Tryd.ntmps77
    go_wp2_with (go_at_call 82; refine (HI.out _).mono ?_; rintro e w' ⟨rfl, rfl⟩)
    go_quiet (fail)
    go_wp2_with fail
    go_ret3
    exact ⟨rfl, _, rfl⟩
/-- strings.Cut at one sign. -/
theorem cut_any (s : ByteArray) (hs : s.size ≤ 1024) (c : UInt8) (w : World) :
    Calls Tryd.prog 67 #[.string s, .string ⟨#[c]⟩] w fun e w' => e = .returned (.tuple #[.string ⟨(X.cutAt c s.data.toList).1.toArray⟩, .string ⟨(X.cutAt c s.data.toList).2.1.toArray⟩, .bool (X.cutAt c s.data.toList).2.2]) ∧ ∃ n, w' = w.drewN n := by
  go_enter Tryd.func67, Tryd.ntmps67
  go_wp2_with (go_at_call 77; refine (cut_lite s hs c _).mono ?_; rintro e w' ⟨rfl, n, rfl⟩)
  go_ret3
  exact ⟨rfl, n, rfl⟩
theorem cutAt_le (c : UInt8) : ∀ l : List UInt8, (X.cutAt c l).1.length ≤ l.length ∧ (X.cutAt c l).2.1.length ≤ l.length
  | [] => by simp [X.cutAt]
  | b :: r => by
    have := cutAt_le c r
    unfold X.cutAt
    split
    · simp
    · simp only [List.length_cons]; omega
set_option maxHeartbeats 1000000 in
/-- strings.Split at one sign. -/
theorem split_any (s : ByteArray) (hs : s.size ≤ 1024) (c : UInt8) (w : World) :
    Calls Tryd.prog 54 #[.string s, .string ⟨#[c]⟩] w fun e w' => ∃ xs : List ByteArray, xs.map (·.data.toList) = X.splitOn c s.data.toList ∧ (∀ x ∈ xs, x.size ≤ 1024) ∧ xs.length ≤ 1025 ∧ e = .returned (.slice (some ⟨w.heap.size, 0, none⟩) xs.length xs.length) ∧ w' = w.alloc (.cells (xs.map Value.string).toArray 9) := by
  have e1 : 1 ≤ (⟨#[c]⟩ : ByteArray).size := Nat.le_refl 1
  have hle := Lib.countB_le ⟨#[c]⟩ e1 s.size s (Nat.le_refl _)
  have hl := Lib.splitB_all ⟨#[c]⟩ e1 0 _ s rfl
  have hd := Lib.splitB_data ⟨#[c]⟩ 0 (Lib.countB s ⟨#[c]⟩) s
  have hk : Lib.splitK [c] 0 (Lib.count s.data.toList [c]) s.data.toList = X.splitOn c s.data.toList := split_eq c _ _ rfl
  have hgen := Any.strings_genSplit_core Tryd.lays221 (by kernel_rfl) s ⟨#[c]⟩ 0 (-1) (Lib.countB s ⟨#[c]⟩ + 1) w (by omega) e1 (Nat.zero_le _)
    (fun x cs _ => by
      have := Tryd.strings_Index_one x c (w.alloc (.cells cs 9))
      rw [← Lib.index_one] at this
      exact this)
    (by
      have := Tryd.strings_Count_one s c w
      rw [show Lib.countByte s.data.toList c = Lib.countB s ⟨#[c]⟩ from (Lib.count_one c s.data.toList).symm] at this
      exact this) (by decide) (by decide) (by rw [if_pos (by decide)]; omega)
  rw [Nat.add_sub_cancel, hl] at hgen
  have e2 : Lib.cellsOf (Lib.splitB ⟨#[c]⟩ 0 (Lib.countB s ⟨#[c]⟩) s) (Lib.countB s ⟨#[c]⟩ + 1) = ((Lib.splitB ⟨#[c]⟩ 0 (Lib.countB s ⟨#[c]⟩) s).map Value.string).toArray := by rw [← hl]; exact Lib.cellsOf_full _
  rw [e2] at hgen
  have HG := hide hgen
  clear hgen e2
  have hpost : ∃ xs : List ByteArray, xs = Lib.splitB ⟨#[c]⟩ 0 (Lib.countB s ⟨#[c]⟩) s ∧ xs.map (·.data.toList) = X.splitOn c s.data.toList ∧ (∀ x ∈ xs, x.size ≤ 1024) ∧ xs.length ≤ 1025 := by
    refine ⟨_, rfl, hd.trans hk, fun x hx => ?_, ?_⟩
    · have hm' : x.data.toList ∈ X.splitOn c s.data.toList := by rw [← hk]; exact hd ▸ List.mem_map_of_mem hx
      have := splitOn_le c s.data.toList _ hm'
      have e1 : x.data.toList.length = x.size := by simp
      have e2 : s.data.toList.length = s.size := by simp
      omega
    · have := splitOn_len c s.data.toList
      rw [← hk] at this
      have e0 := congrArg List.length hd
      rw [List.length_map] at e0
      have e2 : s.data.toList.length = s.size := by simp
      have e3 : Lib.countB s ⟨#[c]⟩ = Lib.count s.data.toList [c] := rfl
      have e4 : (⟨#[c]⟩ : ByteArray).data.toList = [c] := rfl
      rw [e3, e4] at e0
      rw [e3, e0]
      omega
  obtain ⟨xs, hxs, p1, p2, p3⟩ := hpost
  rw [← hxs] at hl HG
  rw [← hl] at HG
  clear hxs hd hk hle
  go_enter Tryd.func54, Tryd.ntmps54
  go_wp2_with (go_at_call 66; refine HG.out.mono ?_; rintro e w' ⟨rfl, rfl⟩)
  go_ret
  exact ⟨xs, p1, p2, p3, by rw [hl]; rfl, rfl⟩
end Go.Proofs.YtbgioclbjbmicaaDoor
