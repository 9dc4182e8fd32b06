/- Words and flags: written, then read. -/
import Derived.Test.YtinhpanpjamjlaaGreatPBackM
import Derived.Test.YtinhpanpjamjlaaGreatPWordR
import Derived.Test.YtinhpanpjamjlaaGreatPFlag
namespace Go.Proofs.YtinhpanpjamjlaaGreat
open Go.RowKit

theorem word_getD (X k : Nat) (hk : k < 8) : (word X).getD k 0 = wbyte X k := by
  unfold word
  rw [List.getD_eq_getElem?_getD, List.getElem?_map, List.getElem?_range hk]
  rfl

theorem wval_word (X : Nat) : ∀ k, k ≤ 8 → wval (word X) k = X % 256 ^ k
  | 0, _ => by simp [wval, Nat.mod_one]
  | k + 1, hk => by
    simp only [wval]
    rw [wval_word X k (by omega), word_getD X k (by omega), Nat.mod_pow_succ, Nat.mul_comm]
    rfl

/-- a word as a value below 2^64 -/
abbrev W64 : Type := Fin 18446744073709551616

theorem wr_word : WR wordR (fun s => (Fin.ofNat 18446744073709551616 (wordV s) : W64)) (fun x => wordW x.val) := by
  intro x s0 hz hl ht hf
  dsimp only at hf ⊢
  unfold wordW at hf ⊢
  have hfit := lay_ok hz hf
  refine ⟨word x.val, by rw [word_len]; decide, hfit, lay_fits hfit, fun s tail hs hr => ?_⟩
  have hlen : (rest s).length = 8 + tail.length := by rw [hr, List.length_append, word_len]
  constructor
  · unfold wordR
    rw [if_pos (by omega)]
    rfl
  · have ht8 : (rest s).take 8 = word x.val := by rw [hr, List.take_append_of_le_length (by rw [word_len]; exact Nat.le_refl _), List.take_of_length_le (by rw [word_len]; exact Nat.le_refl _)]
    have hv : wordV s = x.val := by
      unfold wordV
      rw [ht8, wval_word _ 8 (Nat.le_refl _)]
      exact Nat.mod_eq_of_lt (Nat.lt_of_lt_of_eq x.isLt (by decide))
    rw [hv]
    exact Fin.ext (Nat.mod_eq_of_lt x.isLt)

theorem wr_flag : WR flagR flagV (fun b => flagW b) := by
  intro b s0 hz hl ht hf
  dsimp only at hf ⊢
  unfold flagW at hf ⊢
  have hfit := lay_ok hz hf
  refine ⟨[if b then 1 else 0], Nat.le_refl _, hfit, lay_fits hfit, fun s tail hs hr => ?_⟩
  have hr' : rest s = (if b then 1 else 0) :: tail := hr
  constructor
  · unfold flagR
    rw [hr']
    exact if_neg (by cases b <;> simp)
  · unfold flagV
    rw [hr']
    cases b <;> rfl

/-- what was written at one stroke is read at one stroke -/
theorem wr_back {α : Type} {g : K.RS → K.RS} {val : K.RS → α} {f : α → K.WS → K.WS} (h : WR g val f) (x : α) (m : Nat) (hm : m ≤ 16777216) (s2 : K.WS) (h2 : f x ⟨[], m, 0⟩ = s2) (hz : s2.fault = 0) :
    endR (takeR g (newR (told s2))) = 0 ∧ val (newR (told s2)) = x := by
  obtain ⟨bs, h1, hfit, heq, hread⟩ := h x ⟨[], m, 0⟩ rfl (Nat.zero_le _) hm (by rw [h2]; exact hz)
  have hs2 : s2 = ⟨bs, m, 0⟩ := by rw [← h2, heq]; rfl
  have hfit' : bs.length ≤ m := by simpa using hfit
  have ht : told s2 = bs := by rw [hs2]; rfl
  have hn : newR bs = ⟨bs, 0, 0⟩ := by unfold newR; rw [if_pos (by omega)]
  obtain ⟨hg, hv⟩ := hread (newR bs) [] (by rw [hn]) (by rw [hn, List.append_nil]; rfl)
  rw [ht]
  refine ⟨?_, hv⟩
  unfold takeR
  rw [if_pos (by rw [hn]), hg, hn]
  unfold endR
  rw [if_neg (by rintro ⟨_, h⟩; simp [K.RS.go] at h)]
  rfl

end Go.Proofs.YtinhpanpjamjlaaGreat
