/- Contracts of the small functions on registers: zeroBit, times, moved, Join. -/
import Derived.Test.YtgjiaajeionofaaChecked
import Derived.WalkKit
import Derived.Laws.BitsAllLaws
import Derived.Test.YtgjiaajeionofaaMath
namespace Go.Proofs.Ytgjiaajeionofaa
open Go.RowKit

theorem xor32 (a b : Nat) (ha : a < 4294967296) (hb : b < 4294967296) : bits .xor .u32 (a : Int) (b : Int) = ((a ^^^ b : Nat) : Int) := u32_xor_nat a b ha hb
theorem hide {p : Prop} (h : p) : Hid p := h
theorem ret_int {k : IntKind} {a b : Int} (h : a = b) : Ending.returned (.int k a) = .returned (.int k b) := by rw [h]

theorem zeroBit_any (r : Nat) (hr : r < 4294967296) (w : World) :
    Calls Try.prog 46 #[.int .u32 (r : Int)] w fun e w' => e = .returned (.int .u32 (M.Z r : Nat)) ∧ w' = w := by
  have ha : bits .and .u32 (r : Int) 1 = ((r % 2 : Nat) : Int) := by
    have := u32_and_nat r 1 hr (by decide)
    rw [nat_mask1] at this; exact this
  have hx : bits .xor .u32 ((r : Int) / 2) 2197175160 = ((r / 2 ^^^ 2197175160 : Nat) : Int) := xor32 (r / 2) 2197175160 (by omega) (by decide)
  by_cases h : r % 2 = 1
  · have hz : M.Z r = r / 2 ^^^ 2197175160 := by unfold M.Z; rw [if_pos h]
    go_enter Try.func46, Try.ntmps46
    go_wp2
    go_ret
    exact ⟨ret_int (by rw [hz]), rfl⟩
  · have hz : M.Z r = r / 2 := by unfold M.Z; rw [if_neg h]
    go_enter Try.func46, Try.ntmps46
    go_wp2
    go_ret
    exact ⟨ret_int (by omega), rfl⟩

theorem top_bit (a k : Nat) (ha : a < 4294967296) (hk : k < 32) : bits .and .u32 (a : Int) (2147483648 / 2 ^ k) = ((a / 2 ^ (31 - k) % 2 * 2 ^ (31 - k) : Nat) : Int) := by
  have e : (2147483648 / 2 ^ k : Int) = ((2 ^ (31 - k) : Nat) : Int) := by
    have h : (2147483648 / 2 ^ k : Nat) = 2 ^ (31 - k) := by
      rw [show (2147483648 : Nat) = 2 ^ 31 from rfl, Nat.pow_div (by omega) (by omega)]
    rw [← h]; simp
  rw [e, u32_and_nat a _ ha (Nat.pow_lt_pow_right (by omega) (show 31 - k < 32 by omega)), nat_bit]

theorem top_true (a k : Nat) (ha : a < 4294967296) (hk : k < 32) (h : a / 2 ^ (31 - k) % 2 = 1) : (bits .and .u32 (a : Int) (2147483648 / 2 ^ k) != 0) = true := by
  rw [top_bit a k ha hk, h, Nat.one_mul, bne_iff_ne]
  have := Nat.two_pow_pos (31 - k)
  omega

theorem top_false (a k : Nat) (ha : a < 4294967296) (hk : k < 32) (h : ¬ a / 2 ^ (31 - k) % 2 = 1) : (bits .and .u32 (a : Int) (2147483648 / 2 ^ k) != 0) = false := by
  rw [top_bit a k ha hk, show a / 2 ^ (31 - k) % 2 = 0 by omega, Nat.zero_mul]
  rfl

theorem and1_i64 (n : Nat) (hn : n < 9223372036854775808) : bits .and .i64 (n : Int) 1 = ((n % 2 : Nat) : Int) := by
  have h1 : (BitVec.ofInt 64 (n : Int)).toNat = n := by
    rw [BitVec.ofInt_natCast, BitVec.toNat_ofNat]; exact Nat.mod_eq_of_lt (by omega)
  have h2 : (BitVec.ofInt 64 (1 : Int)).toNat = 1 := rfl
  show IntKind.i64.wrap ((BitVec.ofInt 64 (n : Int) &&& BitVec.ofInt 64 (1 : Int)).toNat : Int) = _
  rw [BitVec.toNat_and, h1, h2, nat_mask1]
  rcases Nat.mod_two_eq_zero_or_one n with h | h <;> rw [h] <;> rfl

theorem odd_i64 (n : Nat) (hn : n < 9223372036854775808) (h : n % 2 = 1) : (bits .and .i64 (n : Int) 1 == 1) = true := by
  rw [and1_i64 n hn, h]; rfl
theorem even_i64 (n : Nat) (hn : n < 9223372036854775808) (h : ¬ n % 2 = 1) : (bits .and .i64 (n : Int) 1 == 1) = false := by
  rw [and1_i64 n hn, show n % 2 = 0 by omega]; rfl

theorem step_odd (m q y : Nat) (h : m % 2 = 1) (hy : y < 4294967296) : M.itZ (m / 2 * (2 * q)) (M.tm y (M.itZ q 2147483648) 32) = M.itZ (m * q) y := by
  rw [M.tm_moved y q hy, ← M.itZ_add]
  congr 1
  have : m = 2 * (m / 2) + 1 := by omega
  generalize m / 2 = d at *
  subst this
  rw [Nat.add_mul, Nat.one_mul, Nat.mul_comm 2 d, Nat.mul_assoc, Nat.add_comm]

theorem step_even (m q y : Nat) (h : ¬ m % 2 = 1) : M.itZ (m / 2 * (2 * q)) y = M.itZ (m * q) y := by
  congr 1
  have : m = 2 * (m / 2) := by omega
  generalize m / 2 = d at *
  subst this
  rw [Nat.mul_comm 2 d, Nat.mul_assoc]

theorem squared (q : Nat) : M.tm (M.itZ q 2147483648) (M.itZ q 2147483648) 32 = M.itZ (2 * q) 2147483648 := by
  rw [M.tm_moved _ q (M.itZ_lt q (by decide)), ← M.itZ_add, Nat.two_mul]

end Go.Proofs.Ytgjiaajeionofaa
