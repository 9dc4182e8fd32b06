/- Contracts of pace.mixIn, Jitter. -/
import Derived.Test.YtgjjiomnbhildaaVPrim
namespace Go.Proofs.Ytgjjiomnbhildaa
open Go.RowKit

theorem mixIn_any (l a b c B : Nat) (ha : a < 9223372036854775808) (hb : b < 9223372036854775808) (hc : c < 9223372036854775808) (w : World)
    (h0 : w.cell? ⟨B, 0, none⟩ = some (.int .i64 a)) (h1 : w.cell? ⟨B, 1, none⟩ = some (.int .i64 b)) (h2 : w.cell? ⟨B, 2, none⟩ = some (.int .i64 c)) :
    Calls Try.prog 14 #[.int .u64 (l : Int), .slice (some ⟨B, 0, none⟩) 3 3] w fun e w' => e = .returned (.int .u64 (V.mix (V.mix (V.mix l a) b) c : Nat)) ∧ w' = w := by
  have a1 := V.mix_lt l a
  have a2 := V.mix_lt (V.mix l a) b
  have m1 := fun w => mix_any l a (by omega) w
  have m2 := fun w => mix_any (V.mix l a) b (by omega) w
  have m3 := fun w => mix_any (V.mix (V.mix l a) b) c (by omega) w
  generalize V.mix (V.mix (V.mix l a) b) c = r3 at *
  generalize V.mix (V.mix l a) b = r2 at *
  generalize V.mix l a = r1 at *
  have M1 := hide m1
  have M2 := hide m2
  have M3 := hide m3
  clear m1 m2 m3
  go_enter Try.func14, Try.ntmps14
  go_wp2_with fail
  go_loop [0, 9] (fun x i => (x = .int .u64 l ∧ i = .int .i64 0) ∨ (x = .int .u64 r1 ∧ i = .int .i64 1) ∨ (x = .int .u64 r2 ∧ i = .int .i64 2) ∨ (x = .int .u64 r3 ∧ i = .int .i64 3)) (fun _ i => 3 - (intOf i).toNat)
  case atStart => exact .inl ⟨rfl, rfl⟩
  case round =>
    rcases hrel with ⟨rfl, rfl⟩ | ⟨rfl, rfl⟩ | ⟨rfl, rfl⟩ | ⟨rfl, rfl⟩
    · go_wp2_with (go_at_call 15; refine (M1.out _).mono ?_; rintro e w' ⟨rfl, rfl⟩)
      exact ⟨.inr (.inl ⟨rfl, rfl⟩), by simp [intOf]⟩
    · go_wp2_with (go_at_call 15; refine (M2.out _).mono ?_; rintro e w' ⟨rfl, rfl⟩)
      exact ⟨.inr (.inr (.inl ⟨rfl, rfl⟩)), by simp [intOf]⟩
    · go_wp2_with (go_at_call 15; refine (M3.out _).mono ?_; rintro e w' ⟨rfl, rfl⟩)
      exact ⟨.inr (.inr (.inr ⟨rfl, rfl⟩)), by simp [intOf]⟩
    · go_wp2
      go_ret
      exact ⟨rfl, rfl⟩

/-- what three numbers make of a luck -/
def V.jit (l a b c m : Nat) : Nat := V.mix (V.mix (V.mix l a) b) c % (m + 1)
theorem V.jit_le (l a b c m : Nat) : V.jit l a b c m ≤ m := by have := Nat.mod_lt (V.mix (V.mix (V.mix l a) b) c) (show 0 < m + 1 by omega); unfold V.jit; omega

theorem jitter_any (l a b c m : Nat) (ha : a < 9223372036854775808) (hb : b < 9223372036854775808) (hc : c < 9223372036854775808) (hm : m ≤ 1099511627776) (w : World) :
    Calls Try.prog 7 #[.int .u64 (l : Int), .int .i64 a, .int .i64 b, .int .i64 c, .int .i64 m] w fun e w' => e = .returned (.tuple #[.int .i64 (V.jit l a b c m : Nat), .int .i64 0]) ∧ Below w.heap.size w w' := by
  have d1 : decide (0 ≤ (m : Int) ∧ (m : Int) ≤ 1099511627776) = true := decide_eq_true (by omega)
  have hj := V.jit_le l a b c m
  have HJ := hide (show V.jit l a b c m = V.mix (V.mix (V.mix l a) b) c % (m + 1) from rfl)
  have hlt := V.mix_lt (V.mix (V.mix l a) b) c
  have hmi := hide (mixIn_any l a b c w.heap.size ha hb hc)
  generalize V.mix (V.mix (V.mix l a) b) c = r at *
  generalize V.jit l a b c m = j at *
  go_enter Try.func7, Try.ntmps7
  go_wp2_with (go_at_call 12; refine (isDelay_any _ _).mono ?_; rintro e w' ⟨rfl, rfl⟩; rw [d1])
  go_at_call 14
  refine (hmi.out _ ?_ ?_ ?_).mono ?_
  · rw [World.cell?_alloc_mark]; rfl
  · rw [World.cell?_alloc_mark]; rfl
  · rw [World.cell?_alloc_mark]; rfl
  rintro e w2 ⟨rfl, rfl⟩
  go_wp2_with fail
  go_ret2
  refine ⟨ret2 ?_, (Below.refl _ _).alloc (Nat.le_refl _) _⟩
  have e : ((r : Int) % ((m : Int) + 1)) = ((r % (m + 1) : Nat) : Int) := by rw [Int.natCast_emod]; rfl
  rw [e, ← HJ.out]
  unfold wrap64
  omega

theorem jitter_bad (l : Nat) (a b c m : Int) (h : ¬ (0 ≤ a ∧ 0 ≤ b ∧ 0 ≤ c ∧ 0 ≤ m ∧ m ≤ 1099511627776)) (w : World) :
    Calls Try.prog 7 #[.int .u64 (l : Int), .int .i64 a, .int .i64 b, .int .i64 c, .int .i64 m] w fun e w' => e = .returned (.tuple #[.int .i64 0, .int .i64 90]) ∧ w' = w := by
  by_cases hm : 0 ≤ m ∧ m ≤ 1099511627776
  · have d1 : decide (0 ≤ m ∧ m ≤ 1099511627776) = true := decide_eq_true hm
    have hk : a < 0 ∨ b < 0 ∨ c < 0 := by omega
    clear h hm
    rcases hk with hk | hk | hk
    all_goals go_enter Try.func7, Try.ntmps7
    all_goals go_wp2_with (go_at_call 12; refine (isDelay_any _ _).mono ?_; rintro e w' ⟨rfl, rfl⟩; rw [d1])
    all_goals go_ret2
    all_goals exact ⟨rfl, rfl⟩
  · have d1 : decide (0 ≤ m ∧ m ≤ 1099511627776) = false := decide_eq_false hm
    clear h hm
    go_enter Try.func7, Try.ntmps7
    go_wp2_with (go_at_call 12; refine (isDelay_any _ _).mono ?_; rintro e w' ⟨rfl, rfl⟩; rw [d1])
    go_ret2
    exact ⟨rfl, rfl⟩
end Go.Proofs.Ytgjjiomnbhildaa
