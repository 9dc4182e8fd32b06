/- Package cron: Text, the mathematics. -/
import Derived.Test.YtbgioclbjbmicaaDoorXSplit
import Derived.Test.YtbgioclbjbmicaaDoorXEq
import Derived.Test.YtbgioclbjbmicaaDoorShelf
import Derived.Laws.Concat
import Derived.Test.YtbgioclbjbmicaaDoorXSpan
import Derived.Deep.RegionHeld3
import Derived.Lib.ItoaNum
import Derived.Lib.Join
namespace Go.Proofs.YtbgioclbjbmicaaDoor
open Go.RowKit

namespace X
/-- A run of values as an item. -/
def runT (a b : Nat) : List UInt8 := if a = b then Lib.decDigits a else Lib.decDigits a ++ 45 :: Lib.decDigits b
/-- Where the run that begins at v ends. -/
def runEnd (F : Nat → Bool) (hi : Nat) : Nat → Nat → Nat
  | 0, v => v
  | k + 1, v => if v < hi ∧ F (v + 1) = true then runEnd F hi k (v + 1) else v
/-- The runs from v on. -/
def runs (F : Nat → Bool) (hi : Nat) : Nat → Nat → List (Nat × Nat)
  | 0, _ => []
  | k + 1, v => if v ≤ hi then (if F v = true then (v, runEnd F hi 60 v) :: runs F hi k (runEnd F hi 60 v + 1) else runs F hi k (v + 1)) else []
def isAll (F : Nat → Bool) (lo hi : Nat) : Bool := (List.range 60).all fun v => F v == allF lo hi v
/-- A set as a word. -/
def textW (F : Nat → Bool) (lo hi : Nat) : List UInt8 := if isAll F lo hi = true then [42] else Lib.join ((runs F hi 61 lo).map fun r => runT r.1 r.2) [44]
end X
theorem dec_len (a : Nat) (h : a < 100) : (Lib.decDigits a).length ≤ 2 ∧ 1 ≤ (Lib.decDigits a).length := by
  have : (List.range 100).all (fun a => decide ((Lib.decDigits a).length ≤ 2) && decide (1 ≤ (Lib.decDigits a).length)) = true := by decide +kernel
  have := List.all_eq_true.1 this a (by simpa using h)
  simpa using this
theorem cat3 (A B : List UInt8) (c : UInt8) : ((⟨A.toArray⟩ : ByteArray) ++ ⟨#[c]⟩ ++ ⟨B.toArray⟩) = ⟨(A ++ c :: B).toArray⟩ := by
  apply ByteArray.ext
  simp
def runS (r : Nat × Nat) : ByteArray := ⟨(X.runT r.1 r.2).toArray⟩
namespace X
theorem runEnd_stop {F : Nat → Bool} {hi v : Nat} (h : ¬ (v < hi ∧ F (v + 1) = true)) : ∀ k, runEnd F hi k v = v
  | 0 => rfl
  | k + 1 => by rw [runEnd, if_neg h]
theorem runEnd_le (F : Nat → Bool) (hi : Nat) : ∀ (k v : Nat), v ≤ hi → v ≤ runEnd F hi k v ∧ runEnd F hi k v ≤ hi
  | 0, v, h => ⟨Nat.le_refl _, h⟩
  | k + 1, v, h => by
    rw [runEnd]
    split
    · rename_i hc
      have := runEnd_le F hi k (v + 1) (by omega)
      omega
    · exact ⟨Nat.le_refl _, h⟩
end X
theorem join_two (x y : List UInt8) (r : List (List UInt8)) (c : UInt8) : Lib.join (x :: y :: r) [c] = x ++ c :: Lib.join (y :: r) [c] := by
  simp [Lib.join, List.intercalate, List.intersperse]
theorem join_len (c : UInt8) (M : Nat) : ∀ xs : List (List UInt8), (∀ x ∈ xs, x.length ≤ M) → (Lib.join xs [c]).length ≤ xs.length * (M + 1)
  | [], _ => by simp [Lib.join, List.intercalate]
  | [x], h => by
    have := h x (by simp)
    simp [Lib.join, List.intercalate, List.intersperse]
    omega
  | x :: y :: r, h => by
    have ih := join_len c M (y :: r) (fun z hz => h z (by simp at hz ⊢; right; exact hz))
    have hx := h x (by simp)
    rw [join_two]
    simp only [List.length_append, List.length_cons] at ih ⊢
    rw [Nat.add_mul (r.length + 1) 1 (M + 1), Nat.one_mul]
    omega
theorem runT_len (a b : Nat) (ha : a < 100) (hb : b < 100) : (X.runT a b).length ≤ 5 ∧ 1 ≤ (X.runT a b).length := by
  have h1 := dec_len a ha
  have h2 := dec_len b hb
  unfold X.runT
  split
  · omega
  · simp only [List.length_append, List.length_cons]; omega
namespace X
theorem runs_in (F : Nat → Bool) (hi : Nat) : ∀ (k v : Nat) (r : Nat × Nat), r ∈ runs F hi k v → v ≤ r.1 ∧ r.1 ≤ r.2 ∧ r.2 ≤ hi
  | 0, _, _, h => by simp [runs] at h
  | k + 1, v, r, h => by
    rw [runs] at h
    split at h
    · rename_i hv
      have hre := runEnd_le F hi 60 v hv
      split at h
      · rcases List.mem_cons.1 h with rfl | h
        · exact ⟨Nat.le_refl _, hre.1, hre.2⟩
        · have := runs_in F hi k _ r h; omega
      · have := runs_in F hi k _ r h; omega
    · cases h
end X
end Go.Proofs.YtbgioclbjbmicaaDoor
