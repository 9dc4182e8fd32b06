/- Pace: words below 2^64, what a draw makes of them, backoffs, as numbers. -/
import Derived.RowKit
namespace Go.Proofs.Ytgjjiomnbhildaa
namespace V

/-- a word, and itself moved right by n bits, bit against bit -/
def fold (z n : Nat) : Nat := z ^^^ z / 2 ^ n
def c1 : Nat := 13787848793156543929
def c2 : Nat := 10723151780598845931
def c3 : Nat := 11400714819323198485
def top : Nat := 18446744073709551616
/-- the luck behind a draw -/
def mix (l x : Nat) : Nat := fold (fold (fold (((l + c3) % top) ^^^ x) 30 * c1 % top) 27 * c2 % top) 31

theorem xor_lt (a b : Nat) (ha : a < top) (hb : b < top) : a ^^^ b < top := Nat.xor_lt_two_pow (n := 64) ha hb
theorem div_lt (z n : Nat) (hz : z < top) : z / 2 ^ n < top := Nat.lt_of_le_of_lt (Nat.div_le_self _ _) hz
theorem fold_lt (z n : Nat) (hz : z < top) : fold z n < top := xor_lt _ _ hz (div_lt z n hz)
theorem mod_lt (a : Nat) : a % top < top := Nat.mod_lt _ (by decide)
theorem mix_lt (l x : Nat) : mix l x < top := fold_lt _ _ (mod_lt _)

theorem xor_right (a b c : Nat) (h : a ^^^ c = b ^^^ c) : a = b := by
  have := congrArg (· ^^^ c) h
  simpa [Nat.xor_assoc] using this
theorem fold_inj (a b n : Nat) (hn : 0 < n) (h : fold a n = fold b n) : a = b := by
  unfold fold at h
  have e : (a ^^^ b) / 2 ^ n = a / 2 ^ n ^^^ b / 2 ^ n := by
    rw [← Nat.shiftRight_eq_div_pow, ← Nat.shiftRight_eq_div_pow, ← Nat.shiftRight_eq_div_pow, Nat.shiftRight_xor_distrib]
  have e2 : a ^^^ b = a / 2 ^ n ^^^ b / 2 ^ n := by
    have h2 : (a ^^^ a / 2 ^ n) ^^^ (b ^^^ a / 2 ^ n) = (b ^^^ b / 2 ^ n) ^^^ (b ^^^ a / 2 ^ n) := by rw [h]
    have l : (a ^^^ a / 2 ^ n) ^^^ (b ^^^ a / 2 ^ n) = a ^^^ b := by
      rw [Nat.xor_assoc, Nat.xor_comm b, ← Nat.xor_assoc (a / 2 ^ n), Nat.xor_self, Nat.zero_xor]
    have r : (b ^^^ b / 2 ^ n) ^^^ (b ^^^ a / 2 ^ n) = a / 2 ^ n ^^^ b / 2 ^ n := by
      rw [Nat.xor_comm b (b / 2 ^ n), Nat.xor_assoc, ← Nat.xor_assoc b b, Nat.xor_self, Nat.zero_xor, Nat.xor_comm]
    rw [l, r] at h2; exact h2
  have e3 : (a ^^^ b) / 2 ^ n = a ^^^ b := by rw [e, ← e2]
  have z : a ^^^ b = 0 := by
    rcases Nat.eq_zero_or_pos (a ^^^ b) with h0 | h0
    · exact h0
    · exfalso
      have := Nat.div_lt_self h0 (show 1 < 2 ^ n from Nat.one_lt_two_pow (by omega))
      omega
  exact xor_right a b b (by rw [z, Nat.xor_self])

theorem mul_inj (a b c d : Nat) (ha : a < top) (hb : b < top) (hc : c * d % top = 1) (h : a * c % top = b * c % top) : a = b := by
  have key : ∀ x, x < top → x * c % top * d % top = x := by
    intro x hx
    rw [Nat.mod_mul_mod, Nat.mul_assoc, Nat.mul_mod, hc, Nat.mul_one, Nat.mod_mod, Nat.mod_eq_of_lt hx]
  rw [← key a ha, ← key b hb, h]

theorem mix_iff (z z' : Nat) (hz : z < top) (hz' : z' < top) (h : fold (fold (fold z 30 * c1 % top) 27 * c2 % top) 31 = fold (fold (fold z' 30 * c1 % top) 27 * c2 % top) 31) : z = z' := by
  have a := fold_inj _ _ _ (by decide) h
  have b := mul_inj _ _ _ 3573116690164977347 (fold_lt _ _ (mod_lt _)) (fold_lt _ _ (mod_lt _)) (by decide) a
  have c := fold_inj _ _ _ (by decide) b
  have d := mul_inj _ _ _ 10871156337175269513 (fold_lt _ _ hz) (fold_lt _ _ hz') (by decide) c
  exact fold_inj _ _ _ (by decide) d

theorem xor_left (a b c : Nat) (h : c ^^^ a = c ^^^ b) : a = b := by
  rw [Nat.xor_comm c a, Nat.xor_comm c b] at h; exact xor_right _ _ _ h

theorem mix_luck (a b x : Nat) (ha : a < top) (hb : b < top) (hx : x < top) : mix a x = mix b x ↔ a = b := by
  refine ⟨fun h => ?_, fun h => by rw [h]⟩
  have h1 := mix_iff _ _ (xor_lt _ _ (mod_lt _) hx) (xor_lt _ _ (mod_lt _) hx) h
  have h2 := xor_right _ _ _ h1
  unfold top c3 at *
  omega
theorem mix_draw (a x y : Nat) (hx : x < top) (hy : y < top) : mix a x = mix a y ↔ x = y := by
  refine ⟨fun h => ?_, fun h => by rw [h]⟩
  exact xor_left _ _ _ (mix_iff _ _ (xor_lt _ _ (mod_lt _) hx) (xor_lt _ _ (mod_lt _) hy) h)

/-- the product bit by bit: behind i bits -/
theorem times_step (a b i : Nat) : a * (b % 2 ^ (i + 1)) = a * (b % 2 ^ i) + a * 2 ^ i * (b / 2 ^ i % 2) := by
  rw [Nat.pow_succ, Nat.mod_mul, Nat.mul_add, Nat.mul_assoc]

/-- the backoff behind n doublings -/
def dbl (b m : Nat) : Nat → Nat
  | 0 => min b m
  | n + 1 => min (2 * dbl b m n) m

theorem dbl_le (b m n : Nat) : dbl b m n ≤ m := by cases n <;> simp only [dbl] <;> omega
theorem dbl_eq (b m n : Nat) : dbl b m n = min (2 ^ n * b) m := by
  induction n with
  | zero => simp [dbl]
  | succ n ih => rw [dbl, ih, Nat.pow_succ, Nat.mul_comm (2 ^ n) 2, Nat.mul_assoc]; omega
theorem dbl_mono (b m n k : Nat) (h : n ≤ k) : dbl b m n ≤ dbl b m k := by
  rw [dbl_eq, dbl_eq]
  have := Nat.mul_le_mul_right b (Nat.pow_le_pow_right (show 0 < 2 by omega) h)
  omega
/-- often enough -/
theorem dbl_enough (b m n k : Nat) (hm : m < 2 ^ k) (h : k ≤ n) : dbl b m n = dbl b m k := by
  rw [dbl_eq, dbl_eq]
  rcases Nat.eq_zero_or_pos b with rfl | hb
  · simp
  · have h1 := Nat.mul_le_mul_right b (Nat.pow_le_pow_right (show 0 < 2 by omega) h)
    have h2 := Nat.mul_le_mul_left (2 ^ k) hb
    omega
theorem dbl_pos (b m n : Nat) (hb : 0 < b) (hm : m ≤ 2 ^ n) : dbl b m n = m := by
  rw [dbl_eq]
  have h2 := Nat.mul_le_mul_left (2 ^ n) hb
  omega

end V
end Go.Proofs.Ytgjjiomnbhildaa
