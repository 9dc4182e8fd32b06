/- Contracts of pace's small functions, and of the document's. -/
import Derived.Test.YtgjjiomnbhildaaChecked
import Derived.WalkKit
import Derived.Laws.BitsAllLaws
import Derived.Below
import Derived.Test.YtgjjiomnbhildaaVMath
namespace Go.Proofs.Ytgjjiomnbhildaa
open Go.RowKit

theorem hide {p : Prop} (h : p) : Hid p := h
theorem ret_int {k : IntKind} {a b : Int} (h : a = b) : Ending.returned (.int k a) = .returned (.int k b) := by rw [h]
theorem ret2 {k : IntKind} {a b : Int} {c : Value} (h : a = b) : Ending.returned (.tuple #[.int k a, c]) = .returned (.tuple #[.int k b, c]) := by rw [h]
theorem xor64 (a b : Nat) (ha : a < 18446744073709551616) (hb : b < 18446744073709551616) : bits .xor .u64 (a : Int) (b : Int) = ((a ^^^ b : Nat) : Int) := u64_xor_nat a b ha hb
theorem wrapU (n : Nat) : IntKind.u64.wrap (n : Int) = ((n % 18446744073709551616 : Nat) : Int) := by
  show (n : Int) % 18446744073709551616 = _
  omega
theorem add64 (l : Nat) : IntKind.u64.wrap ((l : Int) + 11400714819323198485) = (((l + V.c3) % V.top : Nat) : Int) := by
  exact wrapU (l + V.c3)
theorem mul64 (a c : Nat) : IntKind.u64.wrap ((a : Int) * (c : Int)) = ((a * c % V.top : Nat) : Int) := by
  have := wrapU (a * c); rw [Int.natCast_mul] at this; exact this
theorem fold64 (z n : Nat) (d : Nat) (hd : d = 2 ^ n) (hz : z < V.top) : bits .xor .u64 (z : Int) ((z : Int) / (d : Int)) = ((V.fold z n : Nat) : Int) := by
  have := xor64 z (z / 2 ^ n) hz (V.div_lt z n hz)
  unfold V.fold; rw [← this, hd, Int.natCast_ediv]

theorem mix_any (l x : Nat) (hx : x < 18446744073709551616) (w : World) :
    Calls Try.prog 15 #[.int .u64 (l : Int), .int .u64 (x : Int)] w fun e w' => e = .returned (.int .u64 (V.mix l x : Nat)) ∧ w' = w := by
  go_enter Try.func15, Try.ntmps15
  go_wp2
  go_ret
  refine ⟨ret_int ?_, rfl⟩
  rw [add64, xor64 _ _ (V.mod_lt _) hx]
  have hz := V.xor_lt _ _ (V.mod_lt (l + V.c3)) hx
  have e1 := fold64 _ 30 1073741824 (by decide) hz
  have e2 := mul64 (V.fold ((l + V.c3) % V.top ^^^ x) 30) 13787848793156543929
  have e3 := fold64 _ 27 134217728 (by decide) (V.mod_lt (V.fold ((l + V.c3) % V.top ^^^ x) 30 * V.c1))
  have e4 := mul64 (V.fold (V.fold ((l + V.c3) % V.top ^^^ x) 30 * V.c1 % V.top) 27) 10723151780598845931
  have e5 := fold64 _ 31 2147483648 (by decide) (V.mod_lt (V.fold (V.fold ((l + V.c3) % V.top ^^^ x) 30 * V.c1 % V.top) 27 * V.c2))
  rw [show (1073741824 : Int) = ((1073741824 : Nat) : Int) from rfl, e1, show (13787848793156543929 : Int) = ((13787848793156543929 : Nat) : Int) from rfl, e2]
  rw [show (13787848793156543929 : Nat) = V.c1 from rfl, show (134217728 : Int) = ((134217728 : Nat) : Int) from rfl, e3, show (10723151780598845931 : Int) = ((10723151780598845931 : Nat) : Int) from rfl, e4]
  rw [show (10723151780598845931 : Nat) = V.c2 from rfl, show (2147483648 : Int) = ((2147483648 : Nat) : Int) from rfl, e5]
  rfl

theorem isDelay_any (t : Int) (w : World) :
    Calls Try.prog 12 #[.int .i64 t] w fun e w' => e = .returned (.bool (decide (0 ≤ t ∧ t ≤ 1099511627776))) ∧ w' = w := by
  by_cases h0 : 0 ≤ t
  · by_cases h1 : t ≤ 1099511627776
    · go_enter Try.func12, Try.ntmps12
      go_wp2
      go_ret
      exact ⟨by simp [h0, h1], rfl⟩
    · go_enter Try.func12, Try.ntmps12
      go_wp2
      go_ret
      exact ⟨by simp [h1], rfl⟩
  · have hd := hide (show false = (decide (0 ≤ t) && decide (t ≤ 1099511627776)) by rw [decide_eq_false (by omega : ¬ 0 ≤ t)]; rfl)
    go_enter Try.func12, Try.ntmps12
    go_wp2
    go_ret
    exact ⟨congrArg (fun b => Ending.returned (.bool b)) hd.out, rfl⟩

theorem delay_bad (b m k : Int) (h : ¬ (0 ≤ b ∧ b ≤ 1099511627776 ∧ 0 ≤ m ∧ m ≤ 1099511627776 ∧ 1 ≤ k)) (w : World) :
    Calls Try.prog 6 #[.int .i64 b, .int .i64 m, .int .i64 k] w fun e w' => e = .returned (.tuple #[.int .i64 0, .int .i64 90]) ∧ w' = w := by
  by_cases hb : 0 ≤ b ∧ b ≤ 1099511627776
  · by_cases hm : 0 ≤ m ∧ m ≤ 1099511627776
    · have hk : k < 1 := by omega
      have d1 : decide (0 ≤ b ∧ b ≤ 1099511627776) = true := decide_eq_true hb
      have d2 : decide (0 ≤ m ∧ m ≤ 1099511627776) = true := decide_eq_true hm
      clear h hb hm
      go_enter Try.func6, Try.ntmps6
      go_wp2_with (go_at_call 12; refine (isDelay_any _ _).mono ?_; rintro e w' ⟨rfl, rfl⟩; first | rw [d1] | rw [d2])
      go_ret2
      exact ⟨rfl, rfl⟩
    · have d1 : decide (0 ≤ b ∧ b ≤ 1099511627776) = true := decide_eq_true hb
      have d2 : decide (0 ≤ m ∧ m ≤ 1099511627776) = false := decide_eq_false hm
      clear h hb hm
      go_enter Try.func6, Try.ntmps6
      go_wp2_with (go_at_call 12; refine (isDelay_any _ _).mono ?_; rintro e w' ⟨rfl, rfl⟩; first | rw [d1] | rw [d2])
      go_ret2
      exact ⟨rfl, rfl⟩
  · have d1 : decide (0 ≤ b ∧ b ≤ 1099511627776) = false := decide_eq_false hb
    clear h hb
    go_enter Try.func6, Try.ntmps6
    go_wp2_with (go_at_call 12; refine (isDelay_any _ _).mono ?_; rintro e w' ⟨rfl, rfl⟩; rw [d1])
    go_ret2
    exact ⟨rfl, rfl⟩

end Go.Proofs.Ytgjjiomnbhildaa
