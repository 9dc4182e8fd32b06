/- The document's reader: flags and words. -/
import Derived.Test.YtochfpiomnlnmaaGreatPRefR
import Derived.Test.YtochfpiomnlnmaaGreatPWordR
namespace Go.Proofs.YtochfpiomnlnmaaGreat
open Go.RowKit

/-- what TakeFlag answers -/
def tf (l : List Nat) (at_ : Nat) : Bool × Nat × Nat := if l.length ≤ at_ then (false, at_, 21) else if 1 < l.getD at_ 0 then (false, at_, 22) else (l.getD at_ 0 == 1, at_ + 1, 0)

theorem TakeFlag_any (a : Option Addr) (n c : Nat) (l : List Nat) (at_ : Nat) (w : World) (h : Rd w a n l) (ha : at_ ≤ n) (hn : n ≤ 16777216) :
    Calls Tryz.prog 94 #[.slice a n c, .int .i64 (at_ : Nat)] w fun en w' => en = .returned (.tuple #[.bool (tf l at_).1, .int .i64 ((tf l at_).2.1 : Nat), .int .i64 ((tf l at_).2.2 : Nat)]) ∧ w' = w := by
  have hl := h.1
  by_cases hlt : at_ < n
  · obtain ⟨b, off, rfl, hc⟩ : ∃ b off, a = some ⟨b, off, none⟩ ∧ w.cell? ⟨b, off + at_, none⟩ = some (.int .u8 ((l.getD at_ 0 : Nat) : Int)) := by
      rcases h.2.2.2 with h0 | ⟨b, off, rfl, hc⟩
      · omega
      · exact ⟨b, off, rfl, hc at_ hlt⟩
    have hT : Hid (tf l at_ = if 1 < l.getD at_ 0 then (false, at_, 22) else (l.getD at_ 0 == 1, at_ + 1, 0)) := by show _ = _; unfold tf; rw [if_neg (by omega)]
    generalize tf l at_ = r at *
    generalize l.getD at_ 0 = d at *
    clear hl h
    by_cases hd : 1 < d
    · have e := hT.out
      rw [if_pos hd] at e
      subst e
      clear hT
      go_enter Tryz.func94, Tryz.ntmps94
      go_wp2
      go_ret3
      exact ⟨rfl, rfl⟩
    · have e := hT.out
      rw [if_neg hd] at e
      subst e
      clear hT
      go_enter Tryz.func94, Tryz.ntmps94
      go_wp2
      go_ret3
      refine ⟨?_, rfl⟩
      have hb : ((d : Int) == 1) = (d == 1) := by
        by_cases h1 : d = 1
        · subst h1; rfl
        · rw [beq_eq_false_iff_ne.2 h1, beq_eq_false_iff_ne]; omega
      simp [hb]
  · have e : tf l at_ = (false, at_, 21) := by unfold tf; rw [if_pos (by omega)]
    rw [e]
    clear e hl h
    go_enter Tryz.func94, Tryz.ntmps94
    go_wp2
    go_ret3
    exact ⟨rfl, rfl⟩

/-- what TakeWord answers -/
def tw (l : List Nat) (at_ : Nat) : Nat × Nat × Nat := if l.length < at_ + 8 then (0, at_, 21) else (wval (l.drop at_) 8, at_ + 8, 0)


theorem wval_digit {l : List Nat} (hd : ∀ i, l.getD i 0 < 256) (j : Nat) : ∀ m, j < m → wval l m / 256 ^ j % 256 = l.getD j 0
  | 0, h => by omega
  | m + 1, h => by
    show (wval l m + l.getD m 0 * 256 ^ m) / 256 ^ j % 256 = _
    have hp : 0 < 256 ^ j := Nat.pow_pos (by decide)
    rcases Nat.lt_or_ge j m with hj | hj
    · have e : l.getD m 0 * 256 ^ m = l.getD m 0 * 256 ^ (m - j - 1) * 256 * 256 ^ j := by
        rw [Nat.mul_assoc (l.getD m 0 * 256 ^ (m - j - 1)), ← Nat.pow_succ', Nat.mul_assoc, ← Nat.pow_add]
        congr 2
        omega
      rw [e, Nat.add_mul_div_right _ _ hp, Nat.add_mul_mod_self_right]
      exact wval_digit hd j m hj
    · obtain rfl : j = m := by omega
      rw [Nat.add_mul_div_right _ _ hp, Nat.div_eq_of_lt (wval_lt hd j), Nat.zero_add, Nat.mod_eq_of_lt (hd j)]

theorem wval_step {l : List Nat} (hd : ∀ i, l.getD i 0 < 256) (k : Nat) (hk : k < 8) : wval l 8 / 256 ^ (k + 1) * 256 + l.getD k 0 = wval l 8 / 256 ^ k := by
  have h1 := wval_digit hd k 8 hk
  have h2 : wval l 8 / 256 ^ (k + 1) = wval l 8 / 256 ^ k / 256 := by rw [Nat.div_div_eq_div_mul, Nat.pow_succ]
  rw [h2]
  omega

set_option maxRecDepth 10000 in
theorem TakeWord_any (a : Option Addr) (n c : Nat) (l : List Nat) (at_ : Nat) (w : World) (h : Rd w a n l) (ha : at_ ≤ n) (hn : n ≤ 16777216) :
    Calls Tryz.prog 91 #[.slice a n c, .int .i64 (at_ : Nat)] w fun en w' => en = .returned (.tuple #[.int .u64 ((tw l at_).1 : Nat), .int .i64 ((tw l at_).2.1 : Nat), .int .i64 ((tw l at_).2.2 : Nat)]) ∧ w' = w := by
  have hl := h.1
  by_cases hlt : n < at_ + 8
  · have e : tw l at_ = (0, at_, 21) := by unfold tw; rw [if_pos (by omega)]
    rw [e]
    clear e hl h
    go_enter Tryz.func91, Tryz.ntmps91
    go_wp2
    go_ret3
    exact ⟨rfl, rfl⟩
  · have e : tw l at_ = (wval (l.drop at_) 8, at_ + 8, 0) := by unfold tw; rw [if_neg (by omega)]
    rw [e]
    obtain ⟨b, off, rfl, hc⟩ : ∃ b off, a = some ⟨b, off, none⟩ ∧ ∀ i, i < 8 → w.cell? ⟨b, off + (at_ + i), none⟩ = some (.int .u8 (((l.drop at_).getD i 0 : Nat) : Int)) := by
      rcases h.2.2.2 with h0 | ⟨b, off, rfl, hc⟩
      · omega
      · refine ⟨b, off, rfl, fun i hi => ?_⟩
        rw [hc (at_ + i) (by omega)]
        simp [List.getD_eq_getElem?_getD, List.getElem?_drop]
    have hd : ∀ i, (l.drop at_).getD i 0 < 256 := by
      intro i
      rw [List.getD_eq_getElem?_getD]
      cases hx : (l.drop at_)[i]? with
      | none => simp
      | some x => exact h.2.2.1 x (List.mem_of_mem_drop (List.mem_of_getElem? hx))
    have HV : Hid (wval (l.drop at_) 8 < 18446744073709551616) := by show _ < _; have := wval_lt hd 8; exact Nat.lt_of_lt_of_eq this (by decide)
    have HD := hide hd
    have HC := hide hc
    clear e hl h hc hd
    generalize l.drop at_ = m at *
    go_enter Tryz.func91, Tryz.ntmps91
    go_wp2
    go_loop [7, 8] (fun x i => ∃ k : Nat, k ≤ 8 ∧ x = .int .u64 ((wval m 8 / 256 ^ k : Nat) : Int) ∧ ((k = 0 ∧ i = .int .i64 (-1)) ∨ ∃ j : Nat, k = j + 1 ∧ i = .int .i64 (j : Nat))) (fun _ i => (intOf i + 1).toNat)
    case atStart =>
      refine ⟨8, by omega, ?_, .inr ⟨7, rfl, rfl⟩⟩
      rw [Nat.div_eq_of_lt (Nat.lt_of_lt_of_eq HV.out (by decide))]
      rfl
    case round =>
      obtain ⟨k, hk, rfl, hi⟩ := hrel
      rcases hi with ⟨rfl, rfl⟩ | ⟨j, rfl, rfl⟩
      · go_wp2
        go_ret3
        exact ⟨rfl, rfl⟩
      · cases j with
        | zero =>
          have hs := wval_step HD.out 0 (by omega)
          have hv := HV.out
          have hle : wval m 8 / 256 ^ 0 ≤ wval m 8 := Nat.div_le_self _ _
          have hdl := HD.out 0
          have hcell := HC.out 0 (by omega)
          rw [Nat.add_zero] at hcell
          have HS : Hid (wval m 8 / 256 ^ (0 + 1) * 256 + m.getD 0 0 = wval m 8 / 256 ^ 0) := hs
          rw [← hs] at hle
          clear hs
          generalize hy : wval m 8 / 256 ^ (0 + 1) = y at *
          generalize hdd : m.getD 0 0 = d at *
          have hb : y * 256 + d < 18446744073709551616 := by omega
          clear hle hv hy hdd
          go_wp2
          have e := HS.out
          exact ⟨⟨0, by omega, by rw [← e]; simp, .inl ⟨rfl, rfl⟩⟩, by simp [intOf]⟩
        | succ j =>
          have hs := wval_step HD.out (j + 1) (by omega)
          have hv := HV.out
          have hle : wval m 8 / 256 ^ (j + 1) ≤ wval m 8 := Nat.div_le_self _ _
          have hdl := HD.out (j + 1)
          have hcell := HC.out (j + 1) (by omega)
          have HS : Hid (wval m 8 / 256 ^ ((j + 1) + 1) * 256 + m.getD (j + 1) 0 = wval m 8 / 256 ^ (j + 1)) := hs
          rw [← hs] at hle
          clear hs
          generalize hy : wval m 8 / 256 ^ ((j + 1) + 1) = y at *
          generalize hdd : m.getD (j + 1) 0 = d at *
          have hb : y * 256 + d < 18446744073709551616 := by omega
          clear hle hv hy hdd
          go_wp2
          have e := HS.out
          exact ⟨⟨j + 1, by omega, by rw [← e]; simp, .inr ⟨j, rfl, rfl⟩⟩, by simp [intOf]; omega⟩
end Go.Proofs.YtochfpiomnlnmaaGreat
