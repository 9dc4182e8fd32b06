/- flipped: the mathematics of a burst, and the contract. -/
import Derived.Test.YtciehainhhkikaaOpen
import Derived.RegionTactic
import Derived.ChangeAlike
namespace Go.Proofs.Ytciehainhhkikaa
open Go.RowKit

namespace M
/-- a text as one number, the first byte lowest -/
def val : List Nat → Nat
  | [] => 0
  | d :: l => d ^^^ 2 ^ 8 * val l

theorem pow_xor (n a b : Nat) : 2 ^ n * (a ^^^ b) = 2 ^ n * a ^^^ 2 ^ n * b := by
  have := Nat.shiftLeft_xor_distrib (a := a) (b := b) (i := n)
  simpa [Nat.shiftLeft_eq, Nat.mul_comm] using this

theorem eat_val (l : List Nat) (r : Nat) : eat r l = itZ (8 * l.length) (r ^^^ val l) := by
  induction l generalizing r with
  | nil => simp [eat, val, itZ]
  | cons d l ih =>
    show eat (itZ 8 (r ^^^ d)) l = itZ (8 * (l.length + 1)) (r ^^^ (d ^^^ 2 ^ 8 * val l))
    rw [ih, ← Nat.xor_assoc, Nat.mul_add, Nat.add_comm (8 * l.length), itZ_add, itZ_xor 8 (r ^^^ d), itZ_pow]

theorem val_set (l : List Nat) (i b : Nat) (h : i < l.length) : val (l.set i (l.getD i 0 ^^^ 2 ^ b)) = val l ^^^ 2 ^ (8 * i + b) := by
  induction l generalizing i with
  | nil => simp at h
  | cons d l ih =>
    cases i with
    | zero =>
      show (d ^^^ 2 ^ b) ^^^ 2 ^ 8 * val l = (d ^^^ 2 ^ 8 * val l) ^^^ 2 ^ (8 * 0 + b)
      rw [Nat.xor_assoc, Nat.xor_comm (2 ^ b), ← Nat.xor_assoc, Nat.mul_zero, Nat.zero_add]
    | succ i =>
      show d ^^^ 2 ^ 8 * val (l.set i (l.getD i 0 ^^^ 2 ^ b)) = (d ^^^ 2 ^ 8 * val l) ^^^ 2 ^ (8 * (i + 1) + b)
      rw [ih i (by simpa using h), pow_xor, ← Nat.pow_add, ← Nat.xor_assoc, show 8 + (8 * i + b) = 8 * (i + 1) + b by omega]

theorem Z_nonzero {x : Nat} (h : x < 4294967296) (hz : Z x = 0) : x = 0 := by
  unfold Z at hz
  split at hz
  · rename_i h1
    have e : x / 2 = 2197175160 := by
      have := congrArg (· ^^^ 2197175160) hz
      simpa [xor_cancel] using this
    omega
  · omega

theorem itZ_nonzero (n : Nat) {x : Nat} (h : x < 4294967296) (hz : itZ n x = 0) : x = 0 := by
  induction n generalizing x with
  | zero => exact hz
  | succ n ih => exact Z_nonzero h (ih (Z_lt h) hz)

/-- is bit k of the mask turned in a text of n bytes? -/
def turns (n p m k : Nat) : Bool := decide (m / 2 ^ k % 2 = 1) && decide (p + k < 8 * n)

/-- the text when k bits of the mask are done -/
def flipTo (l : List Nat) (p m : Nat) : Nat → List Nat
  | 0 => l
  | k + 1 => if turns l.length p m k = true then (flipTo l p m k).set ((p + k) / 8) ((flipTo l p m k).getD ((p + k) / 8) 0 ^^^ 2 ^ ((p + k) % 8)) else flipTo l p m k

/-- is it another one? -/
def othTo (n p m : Nat) : Nat → Bool
  | 0 => false
  | k + 1 => turns n p m k || othTo n p m k

/-- what is turned -/
def difTo (n p m : Nat) : Nat → Nat
  | 0 => 0
  | k + 1 => difTo n p m k ^^^ (if turns n p m k = true then 2 ^ k else 0)

theorem flip_length (l : List Nat) (p m k : Nat) : (flipTo l p m k).length = l.length := by
  induction k with
  | zero => rfl
  | succ k ih => rw [flipTo]; split; rw [List.length_set, ih]; exact ih

theorem flip_lt (l : List Nat) (p m k : Nat) (hl : ∀ d ∈ l, d < 256) : ∀ d ∈ flipTo l p m k, d < 256 := by
  induction k with
  | zero => exact hl
  | succ k ih =>
    rw [flipTo]
    split
    · intro d hd
      rcases List.mem_or_eq_of_mem_set hd with h | h
      · exact ih d h
      · rw [h]
        exact Nat.xor_lt_two_pow (n := 8) (getD_lt _ ih _) (Nat.pow_lt_pow_right (by omega) (Nat.mod_lt _ (by omega)))
    · exact ih

theorem val_flip (l : List Nat) (p m k : Nat) : val (flipTo l p m k) = val l ^^^ 2 ^ p * difTo l.length p m k := by
  induction k with
  | zero => simp [flipTo, difTo]
  | succ k ih =>
    rw [flipTo, difTo]
    by_cases h : turns l.length p m k = true
    · rw [if_pos h, if_pos h]
      have hb : p + k < 8 * l.length := by simp [turns] at h; exact h.2
      rw [val_set _ _ _ (by rw [flip_length]; omega), ih, pow_xor, ← Nat.pow_add, ← Nat.xor_assoc, show 8 * ((p + k) / 8) + (p + k) % 8 = p + k by omega]
    · rw [if_neg h, if_neg h, ih, Nat.xor_zero]

theorem dif_lt (n p m k : Nat) : difTo n p m k < 2 ^ k := by
  induction k with
  | zero => simp [difTo]
  | succ k ih =>
    rw [difTo]
    exact Nat.xor_lt_two_pow (Nat.lt_of_lt_of_le ih (Nat.pow_le_pow_right (by omega) (by omega))) (by split; exact Nat.pow_lt_pow_right (by omega) (by omega); exact Nat.two_pow_pos _)

theorem dif_zero (n p m k : Nat) : difTo n p m k = 0 ↔ othTo n p m k = false := by
  induction k with
  | zero => simp [difTo, othTo]
  | succ k ih =>
    rw [difTo, othTo]
    by_cases h : turns n p m k = true
    · rw [if_pos h, h]
      have ht : (difTo n p m k ^^^ 2 ^ k).testBit k = true := by
        rw [Nat.testBit_xor, Nat.testBit_lt_two_pow (dif_lt n p m k), Nat.testBit_two_pow_self]; rfl
      constructor
      · intro h0; rw [h0] at ht; simp at ht
      · intro h0; simp at h0
    · rw [if_neg h, Nat.xor_zero, ih]
      simp [h]

/-- texts that differ within 32 neighbouring bits have unlike sums -/
theorem burst (l : List Nat) (p m : Nat) (hl : ∀ d ∈ l, d < 256) (hp : p ≤ 8 * l.length) : (othTo l.length p m 32 == (more 0 l != more 0 (flipTo l p m 32))) = true := by
  have e1 := eat_val l (neg 0)
  have e2 := eat_val (flipTo l p m 32) (neg 0)
  rw [flip_length, val_flip, ← Nat.xor_assoc, itZ_xor, ← e1] at e2
  have e3 : itZ (8 * l.length) (2 ^ p * difTo l.length p m 32) = itZ (8 * l.length - p) (difTo l.length p m 32) := by
    conv => lhs; rw [show 8 * l.length = p + (8 * l.length - p) by omega]
    rw [itZ_add, itZ_pow]
  rw [e3] at e2
  have hlt : difTo l.length p m 32 < 4294967296 := dif_lt _ _ _ 32
  have b1 := eat_lt l hl (neg_lt 0)
  have b2 := eat_lt _ (flip_lt l p m 32 hl) (neg_lt 0)
  cases ho : othTo l.length p m 32 with
  | false =>
    rw [(dif_zero _ _ _ _).2 ho, itZ_zero, Nat.xor_zero] at e2
    simp [more, e2]
  | true =>
    have hne : eat (neg 0) (flipTo l p m 32) ≠ eat (neg 0) l := by
      intro h
      rw [h] at e2
      have : itZ (8 * l.length - p) (difTo l.length p m 32) = 0 := by
        have h2 := congrArg (eat (neg 0) l ^^^ ·) e2
        simp only [Nat.xor_self, ← Nat.xor_assoc, Nat.zero_xor] at h2
        exact h2.symm
      have h0 := (dif_zero l.length p m 32).1 (itZ_nonzero _ hlt this)
      rw [ho] at h0
      cases h0
    have hne2 : more 0 l ≠ more 0 (flipTo l p m 32) := by
      intro h
      apply hne
      have := congrArg neg h
      unfold more at this
      rw [neg_neg b1, neg_neg b2] at this
      exact this.symm
    simp [hne2]
end M

theorem bit_at (m k : Nat) (hm : m < 4294967296) : bits .and .u32 ((m : Int) / 2 ^ k) 1 = ((m / 2 ^ k % 2 : Nat) : Int) := by
  have h := u32_and_nat (m / 2 ^ k) 1 (Nat.lt_of_le_of_lt (Nat.div_le_self _ _) hm) (by decide)
  rw [nat_mask1] at h
  rw [← h]
  congr 1

theorem xor_pow (d j : Nat) (hd : d < 256) (hj : j < 8) : bits .xor .u8 (d : Int) (2 ^ j % 256) = ((d ^^^ 2 ^ j : Nat) : Int) := by
  have hp : 2 ^ j < 256 := Nat.pow_lt_pow_right (n := 8) (by omega) hj
  rw [← u8_xor_nat d (2 ^ j) hd hp]
  congr 1
  have e : ((2 ^ j : Nat) : Int) = (2 : Int) ^ j := by simp
  rw [← e]
  exact Int.emod_eq_of_lt (Int.natCast_nonneg _) (Int.ofNat_lt.2 hp)

set_option maxHeartbeats 1000000 in
theorem flipped_any (a : Option Addr) (n c : Nat) (l : List Nat) (p m : Nat) (w : World) (h : Rd w a n l) (hp : p ≤ 8 * n) (hm : m < 4294967296) :
    Calls Try.prog 23 #[.slice a n c, .int .i64 (p : Int), .int .u32 (m : Int)] w fun e w' => ∃ g, e = .returned (.tuple #[.slice (some ⟨g, 0, none⟩) n n, .bool (M.othTo n p m 32)]) ∧ Own w' g (M.flipTo l p m 32) ∧ Below w.heap.size w w' := by
  have hn := h.2.1
  have HH := hide h
  clear h
  go_enter Try.func23, Try.ntmps23
  go_wp2_with fail
  refine (twin_ex _ _ _ _ _ HH.out).mono ?_
  rintro e w1 ⟨g, rfl, hg, ho, r, hb⟩
  go_wp2_with fail
  go_loopw [9, 10] (fun o i wx => ∃ k : Nat, k ≤ 32 ∧ i = .int .i64 k ∧ o = .bool (M.othTo n p m k) ∧ Own wx g (M.flipTo l p m k) ∧ Below w.heap.size w wx) (fun _ i _ => 32 - (intOf i).toNat)
  case atStart => exact ⟨0, by omega, rfl, rfl, ho, hb⟩
  case round =>
    obtain ⟨k, hk, rfl, rfl, ho', hb'⟩ := hrel
    have HO := hide ho'
    have HB := hide hb'
    have HG := hide hg
    clear ho ho' hb hb' r hg
    by_cases hlt : k < 32
    · have hd : decide ((k : Int) < 32) = true := decide_eq_true (by omega)
      obtain ⟨b, hb⟩ : ∃ b, b = p + k := ⟨_, rfl⟩
      have hbit : (p : Int) + (k : Int) = (b : Int) := by omega
      have HBE := hide hb
      clear hb
      have hba := bit_at m k hm
      by_cases h1 : m / 2 ^ k % 2 = 1
      · have hb1 : (bits .and .u32 ((m : Int) / 2 ^ k) 1 == 1) = true := by rw [hba, h1]; rfl
        have H1 := hide h1
        clear hba h1
        by_cases h2 : b < 8 * n
        · have h2' : decide ((b : Int) < 8 * (n : Int)) = true := decide_eq_true (by omega)
          obtain ⟨i, hi⟩ : ∃ i, i = b / 8 := ⟨_, rfl⟩
          obtain ⟨j, hj⟩ : ∃ j, j = b % 8 := ⟨_, rfl⟩
          have h8 : (b : Int) / 8 = (i : Int) := by omega
          have hr : (b : Int) % 8 = (j : Int) := by omega
          have hin : i < n := by omega
          have hj8 : j < 8 := by omega
          have hc := HO.out.cell i (by rw [M.flip_length]; have := HH.out.1; omega)
          have hf := HO.out.free i
          have HI := hide hi
          have HJ := hide hj
          clear hi hj
          generalize hdd : (M.flipTo l p m k).getD i 0 = d at hc
          have hd256 : d < 256 := by rw [← hdd]; exact getD_lt _ (M.flip_lt l p m k HH.out.2.2.1) i
          have hx := xor_pow d j hd256 hj8
          have HT : Hid (M.turns n p m k = true) := by
            show _ = _
            unfold M.turns
            rw [decide_eq_true H1.out, decide_eq_true (show p + k < 8 * n by have := HBE.out; omega)]
            rfl
          have HN : Hid (M.flipTo l p m (k + 1) = (M.flipTo l p m k).set i (d ^^^ 2 ^ j)) := by
            show _ = _
            rw [M.flipTo, if_pos (by rw [← HH.out.1]; exact HT.out), ← hdd, HI.out, HJ.out, HBE.out]
          have HP : Hid (M.othTo n p m (k + 1) = true) := by
            show _ = _
            rw [M.othTo, HT.out, Bool.true_or]
          clear hdd
          go_wp2_with fail
          go_region
          go_wp2
          refine ⟨⟨k + 1, by omega, by go_num, by rw [HP.out], ?_, ?_⟩, by simp [intOf]; omega⟩
          · rw [HN.out]
            exact HO.out.set i (d ^^^ 2 ^ j)
          · exact (HB.out.setCell HG.out _).drew
        · have h2' : decide ((b : Int) < 8 * (n : Int)) = false := decide_eq_false (by omega)
          have HT : Hid (M.turns n p m k = false) := by
            show _ = _
            unfold M.turns
            rw [decide_eq_false (show ¬ p + k < 8 * n by have := HBE.out; omega), Bool.and_false]
          have HN : Hid (M.flipTo l p m (k + 1) = M.flipTo l p m k) := by
            show _ = _
            rw [M.flipTo, if_neg (by rw [← HH.out.1, HT.out]; decide)]
          have HP : Hid (M.othTo n p m (k + 1) = M.othTo n p m k) := by
            show _ = _
            rw [M.othTo, HT.out, Bool.false_or]
          go_wp2
          exact ⟨⟨k + 1, by omega, by go_num, by rw [HP.out], by rw [HN.out]; exact HO.out, HB.out⟩, by simp [intOf]; omega⟩
      · have hb1 : (bits .and .u32 ((m : Int) / 2 ^ k) 1 == 1) = false := by rw [hba, show m / 2 ^ k % 2 = 0 by omega]; rfl
        have HT : Hid (M.turns n p m k = false) := by
          show _ = _
          unfold M.turns
          rw [decide_eq_false h1, Bool.false_and]
        have HN : Hid (M.flipTo l p m (k + 1) = M.flipTo l p m k) := by
          show _ = _
          rw [M.flipTo, if_neg (by rw [← HH.out.1, HT.out]; decide)]
        have HP : Hid (M.othTo n p m (k + 1) = M.othTo n p m k) := by
          show _ = _
          rw [M.othTo, HT.out, Bool.false_or]
        clear hba h1
        go_wp2
        exact ⟨⟨k + 1, by omega, by go_num, by rw [HP.out], by rw [HN.out]; exact HO.out, HB.out⟩, by simp [intOf]; omega⟩
    · obtain rfl : k = 32 := by omega
      go_wp2
      go_ret2
      exact ⟨g, rfl, HO.out, HB.out⟩

end Go.Proofs.Ytciehainhhkikaa
