/- Package queue: numbers compared; the halving search; Ahead. -/
import Derived.Test.YtobmnkoohgkiiaaQNew
import Derived.Deep.LoopGhost
namespace Go.Proofs.Ytobmnkoohgkiiaa
namespace Qu
open Go.RowKit

/-- how two numbers lie -/
def cmpN (a b : Int) : Int := if a < b then -1 else if b < a then 1 else 0

theorem isNaN_any (x : Int) (w : World) : Calls Try.prog 58 #[.int .i64 x] w fun e w' => e = .returned (.bool false) ∧ w' = w := by
  go_enter Try.func58, Try.ntmps58
  go_wp2
  go_ret
  exact ⟨rfl, rfl⟩

set_option maxHeartbeats 2000000 in
theorem compare_any (a b : Int) (w : World) : Calls Try.prog 48 #[.int .i64 a, .int .i64 b] w fun e w' => e = .returned (.int .i64 (cmpN a b)) ∧ w' = w := by
  unfold cmpN
  by_cases h1 : a < b
  · rw [if_pos h1]
    go_enter Try.func48, Try.ntmps48
    go_wp2_with (go_at_call 58; refine (isNaN_any _ _).mono ?_; rintro e w1 ⟨rfl, rfl⟩)
    go_ret
    exact ⟨rfl, rfl⟩
  · rw [if_neg h1]
    by_cases h2 : b < a
    · rw [if_pos h2]
      go_enter Try.func48, Try.ntmps48
      go_wp2_with (go_at_call 58; refine (isNaN_any _ _).mono ?_; rintro e w1 ⟨rfl, rfl⟩)
      go_ret
      exact ⟨rfl, rfl⟩
    · rw [if_neg h2]
      go_enter Try.func48, Try.ntmps48
      go_wp2_with (go_at_call 58; refine (isNaN_any _ _).mono ?_; rintro e w1 ⟨rfl, rfl⟩)
      go_ret
      exact ⟨rfl, rfl⟩

set_option maxHeartbeats 2000000 in
theorem ahead1I (n : Int) (k : Value) (hk : ∃ y1, k = .int .i64 y1) (b : Int) (w : World) : Calls Try.prog 51 #[.agg #[.int .i64 n, k], .int .i64 b] w fun e w' => e = .returned (.int .i64 (cmpN n b)) ∧ Keep (fun _ => False) w w' := by
  obtain ⟨y1, rfl⟩ := hk
  go_enter Try.func51, Try.ntmps51
  go_wp2_with (go_at_call 48; refine (compare_any _ _ _).mono ?_; rintro e w1 ⟨rfl, rfl⟩)
  go_ret
  exact ⟨rfl, Keep.alloc _ _ _⟩
set_option maxHeartbeats 2000000 in
theorem ahead1S (n : Int) (k : Value) (hk : ∃ y1, k = .string y1) (b : Int) (w : World) : Calls Try.prog 47 #[.agg #[.int .i64 n, k], .int .i64 b] w fun e w' => e = .returned (.int .i64 (cmpN n b)) ∧ Keep (fun _ => False) w w' := by
  obtain ⟨y1, rfl⟩ := hk
  go_enter Try.func47, Try.ntmps47
  go_wp2_with (go_at_call 48; refine (compare_any _ _ _).mono ?_; rintro e w1 ⟨rfl, rfl⟩)
  go_ret
  exact ⟨rfl, Keep.alloc _ _ _⟩

end Qu
end Go.Proofs.Ytobmnkoohgkiiaa
