/- The document's text of a set: the mathematics. -/
import Derived.Test.YtbgioclbjbmicaaDoorXRf2
import Derived.Test.YtbgioclbjbmicaaDoorXTextM
namespace Go.Proofs.YtbgioclbjbmicaaDoor
open Go.RowKit
namespace X

theorem good_in {S : Sets} (h : Good S) {f v : Nat} (hf : f < 5) (hv : v < 60) (hS : S (60 * f + v) = true) : loF f ≤ v ∧ v ≤ hiF f := by
  obtain ⟨g, u, hg, h1, h2, e⟩ := h.inn _ hS
  have hl := loF_le g
  have hgf : g = f := by omega
  subst hgf
  have : u = v := by omega
  subst this
  exact ⟨h1, h2⟩
theorem allT_isAll {S : Sets} (h : Good S) {f : Nat} (hf : f < 5) : allT S f = isAll (fieldF S f) (loF f) (hiF f) := by
  have hl := loF_le f
  rw [Bool.eq_iff_iff]
  constructor
  · intro e
    unfold isAll
    rw [List.all_eq_true]
    intro v hv
    have hv60 := List.mem_range.1 hv
    cases hS : S (60 * f + v)
    · have : allF (loF f) (hiF f) v = false := by
        cases ha : allF (loF f) (hiF f) v
        · rfl
        · simp only [allF, Bool.and_eq_true, decide_eq_true_eq] at ha
          rw [allT_false ha.1 ha.2 hS] at e; cases e
      simp [fieldF, hS, this]
    · have := good_in h hf hv60 hS
      simp [fieldF, hS, allF, this]
  · intro e
    refine allT_true fun u h1 h2 => ?_
    unfold isAll at e
    have := List.all_eq_true.1 e u (List.mem_range.2 (by omega))
    simp [fieldF, allF, h1, h2] at this
    exact this
theorem allT_wholeB {S : Sets} (h : Good S) {f : Nat} (hf : f < 5) : allT S f = wholeB S f (loF f) (hiF f) := by
  rw [allT_isAll h hf]; rfl
theorem enough_eq {S : Sets} (h : Good S) : (!allT S 2 && !allT S 4) = enough S := by
  rw [allT_wholeB h (by decide), allT_wholeB h (by decide)]; rfl

/-- What told has written when it stands at v. -/
def TdM (F : Nat → Bool) (hi : Nat) (all : List (Nat × Nat)) (v : Nat) (done : List (Nat × Nat)) : Prop :=
  ∃ k u, all = done ++ runs F hi k u ∧ v ≤ u ∧ hi < u + k ∧ (∀ x, v ≤ x → x < u → F x = true → 0 < x ∧ F (x - 1) = true) ∧ (u ≤ hi → F u = true → u = 0 ∨ F (u - 1) = false)
theorem TdM.start {F : Nat → Bool} {lo hi : Nat} (hl : lo ≤ 1) (h0 : ∀ v, v < lo → F v = false) (h60 : hi < 60) : TdM F hi (runs F hi 61 lo) 0 [] := by
  refine ⟨61, lo, rfl, by omega, by omega, fun x _ h1 h2 => ?_, fun _ hF => ?_⟩
  · rw [h0 x h1] at h2; cases h2
  · by_cases e : lo = 0
    · exact .inl e
    · right
      have : lo = 1 := by omega
      subst this
      exact h0 0 (by omega)
theorem TdM.skip {F : Nat → Bool} {hi : Nat} {all done : List (Nat × Nat)} {v : Nat} (h : TdM F hi all v done) (hv : v ≤ hi) (hs : F v = false ∨ (0 < v ∧ F (v - 1) = true)) : TdM F hi all (v + 1) done := by
  obtain ⟨k, u, h1, h2, h3, h4, h5⟩ := h
  by_cases e : v < u
  · exact ⟨k, u, h1, by omega, h3, fun x hx => h4 x (by omega), h5⟩
  · obtain rfl : v = u := by omega
    have hF : F v = false := by
      rcases hs with hs | ⟨hs, hs'⟩
      · exact hs
      · cases c : F v
        · rfl
        · rcases h5 hv c with h6 | h6
          · omega
          · rw [hs'] at h6; cases h6
    cases k with
    | zero => omega
    | succ k =>
      refine ⟨k, v + 1, ?_, by omega, by omega, fun x h6 h7 => absurd h6 (by omega), fun _ _ => .inr (by simpa using hF)⟩
      rw [h1, runs, if_pos hv, if_neg (by simp [hF])]
theorem TdM.take {F : Nat → Bool} {hi : Nat} {all done : List (Nat × Nat)} {v : Nat} (h : TdM F hi all v done) (hv : v ≤ hi) (h60 : hi < 60) (hF : F v = true) (hs : v = 0 ∨ F (v - 1) = false) : TdM F hi all (v + 1) (done ++ [(v, runEnd F hi 60 v)]) := by
  obtain ⟨k, u, h1, h2, h3, h4, h5⟩ := h
  have hvu : v = u := by
    by_cases e : v < u
    · obtain ⟨h6, h7⟩ := h4 v (Nat.le_refl _) e hF
      rcases hs with hs | hs
      · omega
      · rw [hs] at h7; cases h7
    · omega
  subst hvu
  have hre := runEnd_le F hi 60 v hv
  cases k with
  | zero => omega
  | succ k =>
    refine ⟨k, runEnd F hi 60 v + 1, ?_, by omega, by omega, fun x h6 h7 h8 => ⟨by omega, ?_⟩, fun h6 h7 => ?_⟩
    · rw [h1, runs, if_pos hv, if_pos hF]; simp
    · exact runEnd_true (F := F) (hi := hi) 60 v hF (x - 1) (by omega) (by omega)
    · rw [runEnd_end (F := F) (hi := hi) 60 v (by omega) (by omega)] at h7; cases h7
theorem TdM.over {F : Nat → Bool} {hi : Nat} {all done : List (Nat × Nat)} {v : Nat} (h : TdM F hi all v done) (hv : hi < v) : all = done := by
  obtain ⟨k, u, h1, h2, h3, h4, h5⟩ := h
  rw [h1]
  cases k with
  | zero => simp [runs]
  | succ k => rw [runs, if_neg (by omega)]; simp
theorem TdM.len {F : Nat → Bool} {lo hi : Nat} {done : List (Nat × Nat)} {v : Nat} (h : TdM F hi (runs F hi 61 lo) v done) (h60 : hi < 60) : done.length ≤ 30 ∧ ∀ r ∈ done, r.1 < 60 ∧ r.2 < 60 := by
  obtain ⟨k, u, h1, _⟩ := h
  have hl := (runs_len (F := F) h60 61 lo).1
  have e := congrArg List.length h1
  rw [List.length_append] at e
  refine ⟨by omega, fun r hr => ?_⟩
  have hm : r ∈ runs F hi 61 lo := by rw [h1]; exact List.mem_append_left _ hr
  have := runs_in F hi 61 lo r hm
  omega
/-- The items so far, as text. -/
def itemsT (done : List (Nat × Nat)) : List UInt8 := Lib.join (done.map fun r => runT r.1 r.2) [44]
theorem join_snoc (c : UInt8) (y : List UInt8) : ∀ xs : List (List UInt8), xs ≠ [] → Lib.join (xs ++ [y]) [c] = Lib.join xs [c] ++ c :: y
  | [], h => absurd rfl h
  | [x], _ => by rw [List.singleton_append, join_two]; simp [Lib.join, List.intercalate, List.intersperse]
  | x :: z :: r, _ => by
    rw [List.cons_append, List.cons_append, join_two, ← List.cons_append, join_snoc c y (z :: r) (by simp), join_two]; simp
theorem itemsT_one (r : Nat × Nat) : itemsT ([] ++ [r]) = runT r.1 r.2 := by simp [itemsT, Lib.join, List.intercalate]
theorem itemsT_more {done : List (Nat × Nat)} (h : done ≠ []) (r : Nat × Nat) : itemsT (done ++ [r]) = itemsT done ++ 44 :: runT r.1 r.2 := by
  unfold itemsT
  rw [List.map_append, List.map_cons, List.map_nil, join_snoc 44 _ _ (by simpa using h)]
theorem itemsT_len {done : List (Nat × Nat)} (h : done.length ≤ 30 ∧ ∀ r ∈ done, r.1 < 60 ∧ r.2 < 60) : (itemsT done).length ≤ 180 ∧ ((itemsT done).isEmpty = done.isEmpty) := by
  have h1 := join_len 44 5 (done.map fun r => runT r.1 r.2) (fun x hx => by
    obtain ⟨r, hr, rfl⟩ := List.mem_map.1 hx
    have := h.2 r hr
    exact (runT_len r.1 r.2 (by omega) (by omega)).1)
  rw [List.length_map] at h1
  refine ⟨by unfold itemsT; omega, ?_⟩
  cases done with
  | nil => rfl
  | cons r t =>
    have hr := h.2 r (by simp)
    have h2 := (runT_len r.1 r.2 (by omega) (by omega)).2
    have : itemsT (r :: t) ≠ [] := by
      intro e
      unfold itemsT at e
      cases t with
      | nil => simp [Lib.join, List.intercalate] at e; rw [e] at h2; simp at h2
      | cons y t => rw [List.map_cons, List.map_cons, join_two] at e; simp at e
    cases hh : itemsT (r :: t) with
    | nil => exact absurd hh this
    | cons a b => rfl
end X
end Go.Proofs.YtbgioclbjbmicaaDoor
