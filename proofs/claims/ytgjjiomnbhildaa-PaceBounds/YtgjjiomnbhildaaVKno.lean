/- Contracts of the laws' small functions: known, pick, delay, count. -/
import Derived.Test.YtgjjiomnbhildaaVDel
import Derived.Test.YtgjjiomnbhildaaVJit
namespace Go.Proofs.Ytgjjiomnbhildaa
open Go.RowKit

theorem mix_known : V.mix 0 0 = 16294208416658607535 := by decide
theorem dbl_known : V.dbl 3 100 3 = 24 := by decide
theorem jit_none (l a b c : Nat) : V.jit l a b c 0 = 0 := by have := V.jit_le l a b c 0; omega

theorem known_any (w : World) :
    Calls Try.prog 8 #[] w fun e w' => e = .returned (.bool true) ∧ Below w.heap.size w w' := by
  have hd := hide (fun w => delay_any 3 100 3 (by decide) (by decide) (by decide) w)
  have hj := hide (fun w => jitter_any 1 2 3 4 0 (by decide) (by decide) (by decide) (by decide) w)
  have hm := hide (fun w => mix_any 0 0 (by decide) w)
  rw [dbl_known] at hd
  rw [jit_none] at hj
  rw [mix_known] at hm
  go_enter Try.func8, Try.ntmps8
  go_wp2_with fail
  go_at_call 6
  refine (hd.out _).mono ?_
  rintro e w1 ⟨rfl, rfl⟩
  go_wp2_with fail
  go_at_call 7
  refine (hj.out _).mono ?_
  rintro e w2 ⟨rfl, hb⟩
  have HB := hide hb
  clear hb
  go_wp2_with fail
  go_at_call 15
  refine (hm.out _).mono ?_
  rintro e w3 ⟨rfl, rfl⟩
  go_wp2_with fail
  go_ret
  exact ⟨rfl, HB.out⟩

/-- which of n things a raw number speaks of -/
def V.pk (c : Int) (n : Nat) : Nat := (if c < 0 then (-(c + 1)).toNat else c.toNat) % n
theorem V.pk_lt (c : Int) (n : Nat) (hn : 0 < n) : V.pk c n < n := Nat.mod_lt _ hn

theorem pick_any (c : Int) (n : Nat) (h0 : -9223372036854775808 ≤ c) (h1 : c ≤ 9223372036854775807) (hn0 : 0 < n) (hn : n < 9223372036854775808) (w : World) :
    Calls Try.prog 10 #[.int .i64 c, .int .i64 (n : Int)] w fun e w' => e = .returned (.int .i64 (V.pk c n : Nat)) ∧ w' = w := by
  have HP := hide (show ((V.pk c n : Nat) : Int) = (if c < 0 then (-(c + 1)) else c) % (n : Int) by
    unfold V.pk
    rw [Int.natCast_emod]
    by_cases h : c < 0
    · rw [if_pos h, if_pos h, Int.toNat_of_nonneg (by omega)]
    · rw [if_neg h, if_neg h, Int.toNat_of_nonneg (by omega)])
  generalize V.pk c n = r at *
  by_cases hc : c < 0
  · have HP2 := hide (show (r : Int) = (-(c + 1)) % (n : Int) by rw [HP.out, if_pos hc])
    go_enter Try.func10, Try.ntmps10
    go_wp2
    go_ret
    refine ⟨ret_int ?_, rfl⟩
    rw [HP2.out]
    first
    | rw [← Int.neg_tmod, Int.tmod_eq_emod_of_nonneg (by omega)]
    | rw [Int.tmod_eq_emod_of_nonneg (by omega)]
    | rfl
  · have HP2 := hide (show (r : Int) = c % (n : Int) by rw [HP.out, if_neg hc])
    go_enter Try.func10, Try.ntmps10
    go_wp2
    go_ret
    refine ⟨ret_int ?_, rfl⟩
    rw [HP2.out]

theorem delayOf_any (c : Int) (h0 : -9223372036854775808 ≤ c) (h1 : c ≤ 9223372036854775807) (w : World) :
    Calls Try.prog 16 #[.int .i64 c] w fun e w' => e = .returned (.int .i64 (V.pk c 1099511627777 : Nat)) ∧ w' = w := by
  have hp := hide (fun w => pick_any c 1099511627777 h0 h1 (by decide) (by decide) w)
  go_enter Try.func16, Try.ntmps16
  go_wp2_with (go_at_call 10; refine (hp.out _).mono ?_; rintro e w' ⟨rfl, rfl⟩)
  go_ret
  exact ⟨rfl, rfl⟩
end Go.Proofs.Ytgjjiomnbhildaa
