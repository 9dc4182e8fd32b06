/- The document's Delay, Jitter, Wait, whatever is asked. -/
import Derived.Test.YtfnndnceaddhgaaVRef
import Derived.Test.YtfnndnceaddhgaaVWai
namespace Go.Proofs.Ytfnndnceaddhgaa
open Go.RowKit

theorem rdelay_all (b m k : Int) (hk : k ≤ 9223372036854775807) (w : World) :
    Calls Try.prog 19 #[.int .i64 b, .int .i64 m, .int .i64 k] w fun e w' => e = .returned (.tuple #[.int .i64 ((V.delI b m k).1 : Nat), .int .i64 ((V.delI b m k).2 : Nat)]) ∧ w' = w := by
  by_cases h : V.okD b m k
  · rw [V.delI_pos h]
    obtain ⟨h0, h1, h2, h3, h4⟩ := h
    have := rdelay_any b.toNat m.toNat (k - 1).toNat (by omega) (by omega) (by omega) w
    rw [show ((b.toNat : Nat) : Int) = b by omega, show ((m.toNat : Nat) : Int) = m by omega, show (((k - 1).toNat + 1 : Nat) : Int) = k by omega] at this
    exact this
  · rw [V.delI_neg h]
    exact rdelay_bad b m k h w

theorem rjitter_bad (l : Nat) (a b c m : Int) (h : ¬ (0 ≤ a ∧ 0 ≤ b ∧ 0 ≤ c ∧ 0 ≤ m ∧ m ≤ 1099511627776)) (w : World) :
    Calls Try.prog 20 #[.int .u64 (l : Int), .int .i64 a, .int .i64 b, .int .i64 c, .int .i64 m] w fun e w' => e = .returned (.tuple #[.int .i64 0, .int .i64 90]) ∧ w' = w := by
  by_cases hm : 0 ≤ m ∧ m ≤ 1099511627776
  · have d1 : decide (0 ≤ m ∧ m ≤ 1099511627776) = true := decide_eq_true hm
    have hk : a < 0 ∨ b < 0 ∨ c < 0 := by omega
    clear h hm
    rcases hk with hk | hk | hk
    all_goals go_enter Try.func20, Try.ntmps20
    all_goals go_wp2_with (go_at_call 27; refine (within_any _ _ _ _).mono ?_; rintro e w' ⟨rfl, rfl⟩; rw [d1])
    all_goals go_ret2
    all_goals exact ⟨rfl, rfl⟩
  · have d1 : decide (0 ≤ m ∧ m ≤ 1099511627776) = false := decide_eq_false hm
    clear h hm
    go_enter Try.func20, Try.ntmps20
    go_wp2_with (go_at_call 27; refine (within_any _ _ _ _).mono ?_; rintro e w' ⟨rfl, rfl⟩; rw [d1])
    go_ret2
    exact ⟨rfl, rfl⟩

theorem rjitter_any (l a b c m : Nat) (ha : a < 9223372036854775808) (hb : b < 9223372036854775808) (hc : c < 9223372036854775808) (hm : m ≤ 1099511627776) (w : World) :
    Calls Try.prog 20 #[.int .u64 (l : Int), .int .i64 a, .int .i64 b, .int .i64 c, .int .i64 m] w fun e w' => e = .returned (.tuple #[.int .i64 (V.jit l a b c m : Nat), .int .i64 0]) ∧ w' = w := by
  have d1 : decide (0 ≤ (m : Int) ∧ (m : Int) ≤ 1099511627776) = true := decide_eq_true (by omega)
  have hj := V.jit_le l a b c m
  have HJ := hide (show V.jit l a b c m = V.mix (V.mix (V.mix l a) b) c % (m + 1) from rfl)
  have hlt := V.mix_lt (V.mix (V.mix l a) b) c
  have m1 := hide (fun w => rmix_any l a (by omega) w)
  have m2 := hide (fun w => rmix_any (V.mix l a) b (by omega) w)
  have m3 := hide (fun w => rmix_any (V.mix (V.mix l a) b) c (by omega) w)
  generalize V.mix (V.mix (V.mix l a) b) c = r at *
  generalize V.mix (V.mix l a) b = r2 at *
  generalize V.mix l a = r1 at *
  generalize V.jit l a b c m = j at *
  go_enter Try.func20, Try.ntmps20
  go_wp2_with (go_at_call 27; refine (within_any _ _ _ _).mono ?_; rintro e w' ⟨rfl, rfl⟩; rw [d1])
  go_at_call 11
  refine (m1.out _).mono ?_
  rintro e w2 ⟨rfl, rfl⟩
  go_wp2_with fail
  go_at_call 11
  refine (m2.out _).mono ?_
  rintro e w2 ⟨rfl, rfl⟩
  go_wp2_with fail
  go_at_call 11
  refine (m3.out _).mono ?_
  rintro e w2 ⟨rfl, rfl⟩
  go_wp2_with fail
  go_ret2
  refine ⟨ret2 ?_, rfl⟩
  have e : ((r : Int) % ((m : Int) + 1)) = ((r % (m + 1) : Nat) : Int) := by rw [Int.natCast_emod]; rfl
  rw [e, ← HJ.out]
  unfold wrap64
  omega

theorem rjitter_all (l : Nat) (a b c m : Int) (ha : a ≤ 9223372036854775807) (hb : b ≤ 9223372036854775807) (hc : c ≤ 9223372036854775807) (w : World) :
    Calls Try.prog 20 #[.int .u64 (l : Int), .int .i64 a, .int .i64 b, .int .i64 c, .int .i64 m] w fun e w' => e = .returned (.tuple #[.int .i64 ((V.jitI l a b c m).1 : Nat), .int .i64 ((V.jitI l a b c m).2 : Nat)]) ∧ w' = w := by
  by_cases h : V.okJ a b c m
  · rw [V.jitI_pos h]
    obtain ⟨h0, h1, h2, h3, h4⟩ := h
    have := rjitter_any l a.toNat b.toNat c.toNat m.toNat (by omega) (by omega) (by omega) (by omega) w
    rw [show ((a.toNat : Nat) : Int) = a by omega, show ((b.toNat : Nat) : Int) = b by omega, show ((c.toNat : Nat) : Int) = c by omega, show ((m.toNat : Nat) : Int) = m by omega] at this
    exact this
  · rw [V.jitI_neg h]
    exact rjitter_bad l a b c m h w

theorem rwait_all (q : V.Nd) (l : Nat) (a b c : Int) (ha : a ≤ 9223372036854775807) (hb : b ≤ 9223372036854775807) (hc : c ≤ 9223372036854775807) (w : World) :
    Calls Try.prog 22 #[.agg q.row.toArray, .int .u64 (l : Int), .int .i64 a, .int .i64 b, .int .i64 c] w fun e w' => e = .returned (.tuple #[.int .i64 ((V.waitI q.ba q.ca q.ji l a b c).1 : Nat), .int .i64 ((V.waitI q.ba q.ca q.ji l a b c).2 : Nat)]) ∧ Below w.heap.size w w' := by
  obtain ⟨nm, la, bu, cl, be, ba, ca, ji, ne, af⟩ := q
  have D := hide (fun w => rdelay_all ba ca c hc w)
  have J := hide (fun w => rjitter_all l a b c ji ha hb hc w)
  have HW := hide (show V.waitI ba ca ji l a b c = (if (V.delI ba ca c).2 = 0 then (if (V.jitI l a b c ji).2 = 0 then ((V.delI ba ca c).1 + (V.jitI l a b c ji).1, 0) else (0, 90)) else (0, 90)) from rfl)
  have d1 := V.delI_cases ba ca c
  have j1 := V.jitI_cases l a b c ji
  show Calls Try.prog 22 _ w fun e w' => e = .returned (.tuple #[.int .i64 ((V.waitI ba ca ji l a b c).1 : Nat), .int .i64 ((V.waitI ba ca ji l a b c).2 : Nat)]) ∧ Below w.heap.size w w'
  generalize V.waitI ba ca ji l a b c = r at *
  generalize V.delI ba ca c = d at *
  generalize V.jitI l a b c ji = j at *
  obtain ⟨dt, dc⟩ := d
  obtain ⟨jt, jc⟩ := j
  obtain ⟨rt, rc⟩ := r
  simp only [Prod.mk.injEq] at d1 j1
  simp only [V.Nd.row] at *
  have KW := hide ((Below.refl w.heap.size w).alloc (Nat.le_refl _) (Obj.cells #[.string nm, .int .i64 la, .int .i64 bu, .int .i64 cl, .int .i64 be, .int .i64 ba, .int .i64 ca, .int .i64 ji, .slice ne.1 ne.2.1 ne.2.2, .slice af.1 af.2.1 af.2.2] 31))
  rcases d1 with ⟨rfl, d2⟩ | ⟨rfl, rfl⟩
  · go_enter Try.func22, Try.ntmps22
    go_wp2_with fail
    go_at_call 19
    refine (D.out _).mono ?_
    rintro e w1 ⟨rfl, rfl⟩
    go_wp2_with fail
    go_at_call 20
    refine (J.out _).mono ?_
    rintro e w2 ⟨rfl, rfl⟩
    rcases j1 with ⟨rfl, j2⟩ | ⟨rfl, rfl⟩
    · have := HW.out
      simp only [if_true, Prod.mk.injEq] at this
      obtain ⟨rfl, rfl⟩ := this
      go_wp2_with fail
      go_ret2
      exact ⟨ret2 (by omega), KW.out⟩
    · have := HW.out
      simp only [if_true] at this
      obtain ⟨rfl, rfl⟩ := this
      go_wp2_with fail
      go_ret2
      exact ⟨rfl, KW.out⟩
  · have := HW.out
    simp at this
    obtain ⟨rfl, rfl⟩ := this
    go_enter Try.func22, Try.ntmps22
    go_wp2_with fail
    go_at_call 19
    refine (D.out _).mono ?_
    rintro e w1 ⟨rfl, rfl⟩
    go_wp2_with fail
    go_ret2
    exact ⟨rfl, KW.out⟩
end Go.Proofs.Ytfnndnceaddhgaa
