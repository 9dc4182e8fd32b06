/- What Check tells, in its three cases. -/
import Derived.Test.YtnhmmplheihojaaGreatDoorGChk
namespace Go.Proofs.YtnhmmplheihojaaGreatDoor
namespace Gr
open Go.RowKit

theorem cyc_is (xs : List No) : IsCyc (eg xs) (cyc xs) := by
  have hE : ∃ c, IsCyc (eg xs) c := by
    by_cases hc : ∃ x, Waits (eg xs) x x
    · obtain ⟨x, hx⟩ := hc
      obtain ⟨m, h1, h2, h3⟩ := cycle_least hx
      exact ⟨m + 1, .inr ⟨m, rfl, h2.waits, h3⟩⟩
    · exact ⟨0, .inl ⟨rfl, fun x hx => hc ⟨x, hx⟩⟩⟩
  obtain ⟨c, hc⟩ := hE
  rw [cyc_eq hc]; exact hc
theorem waits_lt {xs : List No} {a b : Nat} (h : Waits (eg xs) a b) : a < xs.length := by
  refine Nat.lt_of_not_le fun hl => ?_
  have he := eg_out hl
  rcases h.cases with h | ⟨x, h, _⟩
  · rw [he] at h; cases h
  · rw [he] at h; cases h
theorem cN_code {n : Nat} : ∀ {xs : List No} {i : Nat} {seen : List ByteArray}, (cN n i seen xs).2 ≠ 106 := by
  intro xs
  induction xs with
  | nil => intro i seen h; cases h
  | cons y xs ih =>
    intro i seen
    unfold cN
    split
    · simp
    · split
      · simp
      · split
        · simp
        · exact ih
theorem cW_code (nm : ByteArray) (dl : Int) (xs : List No) : cW nm dl xs ≠ 106 := by
  unfold cW
  split
  · simp
  · split
    · simp
    · split <;> simp
theorem chk_cases (nm : ByteArray) (dl : Int) (xs : List No) :
    (chk nm dl xs = (0, 0) ∧ 1 ≤ xs.length ∧ Val xs ∧ ∀ x, ¬ Waits (eg xs) x x) ∨
    (∃ m, chk nm dl xs = (m + 1, 106) ∧ m < xs.length ∧ Val xs ∧ Waits (eg xs) m m ∧ ∀ x, Waits (eg xs) x x → m ≤ x) ∨
    ((chk nm dl xs).2 ≠ 0 ∧ (chk nm dl xs).2 ≠ 106 ∧ (chk nm dl xs).1 ≤ xs.length) := by
  unfold chk
  by_cases c1 : cW nm dl xs ≠ 0
  · rw [if_pos c1]
    exact .inr (.inr ⟨c1, cW_code _ _ _, Nat.zero_le _⟩)
  · rw [if_neg c1]
    have c1 : cW nm dl xs = 0 := by simpa using c1
    by_cases c2 : (cN xs.length 0 [] xs).2 ≠ 0
    · rw [if_pos c2]
      have := cN_le (n := xs.length) (xs := xs) (i := 0) (seen := [])
      exact .inr (.inr ⟨c2, cN_code, by omega⟩)
    · rw [if_neg c2]
      have c2 : (cN xs.length 0 [] xs).2 = 0 := by simpa using c2
      have hv := cN_val (cW_len c1).2 c2
      have hc := cyc_is xs
      generalize cyc xs = c at *
      rcases hc with ⟨rfl, h⟩ | ⟨m, rfl, h1, h2⟩
      · rw [if_neg (by simp)]
        exact .inl ⟨rfl, (cW_len c1).1, hv, h⟩
      · rw [if_pos (by simp)]
        exact .inr (.inl ⟨m, rfl, waits_lt h1, hv, h1, h2⟩)
end Gr
end Go.Proofs.YtnhmmplheihojaaGreatDoor
