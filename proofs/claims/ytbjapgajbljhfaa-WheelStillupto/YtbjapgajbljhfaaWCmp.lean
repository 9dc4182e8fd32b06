/- Chapter 7: cmp.Compare, cmp.Or, of two numbers: what All sorts by. -/
import Derived.Test.YtbjapgajbljhfaaWFnd
import Derived.Handy
namespace Go.Proofs.Ytbjapgajbljhfaa
namespace Wh
open Go.RowKit

theorem nan_any (x : Int) (w : World) : Calls Try.prog 51 #[.int .i64 x] w fun e w' => e = .returned (.bool false) ∧ w' = w := by
  go_enter Try.func51, Try.ntmps51
  go_wp2
  go_ret
  exact ⟨by simp, rfl⟩

/-- what Compare answers -/
def cmpV (x y : Int) : Int := if x < y then -1 else if y < x then 1 else 0
theorem cmp_any (x y : Int) (w : World) : Calls Try.prog 33 #[.int .i64 x, .int .i64 y] w fun e w' => e = .returned (.int .i64 (cmpV x y)) ∧ w' = w := by
  have N : Hid (∀ x w, Calls Try.prog 51 #[.int .i64 x] w fun e w' => e = .returned (.bool false) ∧ w' = w) := nan_any
  obtain ⟨r, hr⟩ : ∃ r, cmpV x y = r := ⟨_, rfl⟩
  rw [hr]
  have HR := hide hr
  clear hr
  rcases Int.lt_trichotomy x y with h | h | h
  · go_enter Try.func33, Try.ntmps33
    go_wp2_with (go_at_call 51; refine (N.out _ _).mono ?_; rintro e w2 ⟨rfl, rfl⟩)
    go_ret
    refine ⟨?_, rfl⟩
    rw [← HR.out]; unfold cmpV; rw [if_pos h]; rfl
  · subst h
    go_enter Try.func33, Try.ntmps33
    go_wp2_with (go_at_call 51; refine (N.out _ _).mono ?_; rintro e w2 ⟨rfl, rfl⟩)
    go_ret
    refine ⟨?_, rfl⟩
    rw [← HR.out]; unfold cmpV; rw [if_neg (by omega), if_neg (by omega)]; rfl
  · have h2 : ¬ x < y := by omega
    have HH : Hid (¬ x < y ∧ y < x) := ⟨h2, h⟩
    go_enter Try.func33, Try.ntmps33
    go_wp2_with (go_at_call 51; refine (N.out _ _).mono ?_; rintro e w2 ⟨rfl, rfl⟩)
    go_ret
    refine ⟨?_, rfl⟩
    rw [← HR.out]; unfold cmpV; rw [if_neg (by have := HH.out.2; omega), if_pos HH.out.2]; rfl

/-- what Or answers of two -/
def orV (a b : Int) : Int := if a = 0 then b else a
theorem or_any (a b : Int) (g c : Nat) (w : World) (h0 : w.cell? ⟨g, 0, none⟩ = some (.int .i64 a)) (h1 : w.cell? ⟨g, 1, none⟩ = some (.int .i64 b)) : Calls Try.prog 32 #[.slice (some ⟨g, 0, none⟩) 2 c] w fun e w' => e = .returned (.int .i64 (orV a b)) ∧ w' = w := by
  obtain ⟨r, hr⟩ : ∃ r, orV a b = r := ⟨_, rfl⟩
  rw [hr]
  have HR := hide hr
  clear hr
  by_cases ha : a = 0
  · subst ha
    by_cases hb : b = 0
    · subst hb
      go_enter Try.func32, Try.ntmps32
      go_wp2
      go_rounds 3
      all_goals go_ret
      all_goals exact ⟨by rw [← HR.out]; rfl, rfl⟩
    · go_enter Try.func32, Try.ntmps32
      go_wp2
      go_rounds 3
      all_goals go_ret
      all_goals exact ⟨by rw [← HR.out]; unfold orV; rw [if_pos rfl]; rfl, rfl⟩
  · go_enter Try.func32, Try.ntmps32
    go_wp2
    go_rounds 3
    all_goals go_ret
    all_goals exact ⟨by rw [← HR.out]; unfold orV; rw [if_neg ha]; rfl, rfl⟩

/-- in which order All lists them -/
def cmpT (a b : Nat × Nat × Int) : Int := orV (cmpV a.2.1 b.2.1) (cmpV a.1 b.1)
theorem cmpT_lt (a b : Nat × Nat × Int) : cmpT a b < 0 ↔ a.2.1 < b.2.1 ∨ a.2.1 = b.2.1 ∧ a.1 < b.1 := by
  unfold cmpT orV cmpV
  split <;> (repeat' split) <;> omega

end Wh
end Go.Proofs.Ytbjapgajbljhfaa
