/- Delay, Jitter, Wait, whatever is asked. -/
import Derived.Test.YtgjjiomnbhildaaVDel
import Derived.Test.YtgjjiomnbhildaaVJit
namespace Go.Proofs.Ytgjjiomnbhildaa
open Go.RowKit

namespace V
def okD (b m k : Int) : Prop := 0 ≤ b ∧ b ≤ 1099511627776 ∧ 0 ≤ m ∧ m ≤ 1099511627776 ∧ 1 ≤ k
def okJ (a b c m : Int) : Prop := 0 ≤ a ∧ 0 ≤ b ∧ 0 ≤ c ∧ 0 ≤ m ∧ m ≤ 1099511627776
open Classical in
/-- a backoff: its ticks, its code -/
noncomputable def delI (b m k : Int) : Nat × Nat := if okD b m k then (dbl b.toNat m.toNat (k - 1).toNat, 0) else (0, 90)
open Classical in
noncomputable def jitI (l : Nat) (a b c m : Int) : Nat × Nat := if okJ a b c m then (jit l a.toNat b.toNat c.toNat m.toNat, 0) else (0, 90)
/-- both together -/
noncomputable def waitI (ba ca ji : Int) (l : Nat) (a b c : Int) : Nat × Nat :=
  if (delI ba ca c).2 = 0 then (if (jitI l a b c ji).2 = 0 then ((delI ba ca c).1 + (jitI l a b c ji).1, 0) else (0, 90)) else (0, 90)
theorem delI_pos {b m k : Int} (h : okD b m k) : delI b m k = (dbl b.toNat m.toNat (k - 1).toNat, 0) := if_pos h
theorem delI_neg {b m k : Int} (h : ¬ okD b m k) : delI b m k = (0, 90) := if_neg h
theorem jitI_pos {l : Nat} {a b c m : Int} (h : okJ a b c m) : jitI l a b c m = (jit l a.toNat b.toNat c.toNat m.toNat, 0) := if_pos h
theorem jitI_neg {l : Nat} {a b c m : Int} (h : ¬ okJ a b c m) : jitI l a b c m = (0, 90) := if_neg h
theorem delI_cases (b m k : Int) : ((delI b m k).2 = 0 ∧ (delI b m k).1 ≤ 1099511627776) ∨ delI b m k = (0, 90) := by
  by_cases h : okD b m k
  · left
    rw [delI_pos h]
    obtain ⟨_, _, h2, h3, _⟩ := h
    have := dbl_le b.toNat m.toNat (k - 1).toNat
    exact ⟨rfl, by show dbl _ _ _ ≤ _; omega⟩
  · exact .inr (delI_neg h)
theorem jitI_cases (l : Nat) (a b c m : Int) : ((jitI l a b c m).2 = 0 ∧ (jitI l a b c m).1 ≤ 1099511627776) ∨ jitI l a b c m = (0, 90) := by
  by_cases h : okJ a b c m
  · left
    rw [jitI_pos h]
    obtain ⟨_, _, _, h2, h3⟩ := h
    have := jit_le l a.toNat b.toNat c.toNat m.toNat
    exact ⟨rfl, by show jit _ _ _ _ _ ≤ _; omega⟩
  · exact .inr (jitI_neg h)
end V

theorem delay_all (b m k : Int) (hk : k ≤ 9223372036854775807) (w : World) :
    Calls Try.prog 6 #[.int .i64 b, .int .i64 m, .int .i64 k] w fun e w' => e = .returned (.tuple #[.int .i64 ((V.delI b m k).1 : Nat), .int .i64 ((V.delI b m k).2 : Nat)]) ∧ w' = w := by
  by_cases h : V.okD b m k
  · rw [V.delI_pos h]
    obtain ⟨h0, h1, h2, h3, h4⟩ := h
    have := delay_any b.toNat m.toNat (k - 1).toNat (by omega) (by omega) (by omega) w
    rw [show ((b.toNat : Nat) : Int) = b by omega, show ((m.toNat : Nat) : Int) = m by omega, show (((k - 1).toNat + 1 : Nat) : Int) = k by omega] at this
    exact this
  · rw [V.delI_neg h]
    exact delay_bad b m k h w

theorem jitter_all (l : Nat) (a b c m : Int) (ha : a ≤ 9223372036854775807) (hb : b ≤ 9223372036854775807) (hc : c ≤ 9223372036854775807) (w : World) :
    Calls Try.prog 7 #[.int .u64 (l : Int), .int .i64 a, .int .i64 b, .int .i64 c, .int .i64 m] w fun e w' => e = .returned (.tuple #[.int .i64 ((V.jitI l a b c m).1 : Nat), .int .i64 ((V.jitI l a b c m).2 : Nat)]) ∧ Below w.heap.size w w' := by
  by_cases h : V.okJ a b c m
  · rw [V.jitI_pos h]
    obtain ⟨h0, h1, h2, h3, h4⟩ := h
    have := jitter_any l a.toNat b.toNat c.toNat m.toNat (by omega) (by omega) (by omega) (by omega) w
    rw [show ((a.toNat : Nat) : Int) = a by omega, show ((b.toNat : Nat) : Int) = b by omega, show ((c.toNat : Nat) : Int) = c by omega, show ((m.toNat : Nat) : Int) = m by omega] at this
    exact this
  · rw [V.jitI_neg h]
    exact (jitter_bad l a b c m h w).mono fun _ _ h => ⟨h.1, h.2 ▸ Below.refl _ _⟩
end Go.Proofs.Ytgjjiomnbhildaa
