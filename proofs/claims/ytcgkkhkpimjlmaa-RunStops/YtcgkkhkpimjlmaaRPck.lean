/- The laws' pick. -/
import Derived.Test.YtcgkkhkpimjlmaaGRow
namespace Go.Proofs.Ytcgkkhkpimjlmaa
namespace Rn
open Go.RowKit Gr

theorem pick_any (c : Int) (n : Nat) (h1 : -9223372036854775808 ≤ c) (h2 : c ≤ 9223372036854775807) (hn : 1 ≤ n) (hn2 : n ≤ 64) (w : World) :
    Calls Try.prog 26 #[.int .i64 c, .int .i64 (n : Int)] w fun e w' => (∃ r : Nat, e = .returned (.int .i64 (r : Int)) ∧ r < n) ∧ w' = w := by
  by_cases hc : c < 0
  · go_enter Try.func26, Try.ntmps26
    go_wp2_with fail
    go_ret
    have e : -(c + 1).tmod n = (-(c + 1)) % n := by rw [← Int.neg_tmod, Int.tmod_eq_emod_of_nonneg (by omega)]
    have a1 := Int.emod_nonneg (-(c + 1)) (show (n : Int) ≠ 0 by omega)
    have a2 := Int.emod_lt_of_pos (-(c + 1)) (show (0 : Int) < n by omega)
    exact ⟨⟨((-(c + 1)) % n).toNat, by rw [Int.toNat_of_nonneg a1, ← e]; rfl, by omega⟩, rfl⟩
  · go_enter Try.func26, Try.ntmps26
    go_wp2_with fail
    go_ret
    have a1 := Int.emod_nonneg c (show (n : Int) ≠ 0 by omega)
    have a2 := Int.emod_lt_of_pos c (show (0 : Int) < n by omega)
    refine ⟨⟨(c % n).toNat, ?_, by omega⟩, rfl⟩
    rw [Int.toNat_of_nonneg a1]
    rfl
end Rn
end Go.Proofs.Ytcgkkhkpimjlmaa
