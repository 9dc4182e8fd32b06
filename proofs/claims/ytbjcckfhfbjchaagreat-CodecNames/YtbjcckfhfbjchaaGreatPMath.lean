/- The mathematics of package pack: how a number stands in bytes, what is taken off bytes, writers and readers as values. No program. -/
namespace Go.Proofs.YtbjcckfhfbjchaaGreat.K

/-- a number in bytes, in at most so many steps -/
def numF : Nat → Nat → List Nat
  | 0, n => [n]
  | f + 1, n => if n < 128 then [n] else (n % 128 + 128) :: numF f (n / 128)
/-- a number in bytes -/
def num (n : Nat) : List Nat := numF n n

theorem numF_any (f : Nat) : ∀ g n : Nat, n ≤ f → n ≤ g → numF f n = numF g n := by
  induction f with
  | zero =>
    intro g n hf hg
    obtain rfl : n = 0 := by omega
    cases g with
    | zero => rfl
    | succ g => rfl
  | succ f ih =>
    intro g n hf hg
    cases g with
    | zero =>
      obtain rfl : n = 0 := by omega
      rfl
    | succ g =>
      by_cases h : n < 128
      · simp only [numF, if_pos h]
      · simp only [numF, if_neg h]
        rw [ih g (n / 128) (by omega) (by omega)]
theorem num_small {n : Nat} (h : n < 128) : num n = [n] := by
  unfold num
  cases n with
  | zero => rfl
  | succ n => simp only [numF, if_pos h]
theorem num_big {n : Nat} (h : 128 ≤ n) : num n = (n % 128 + 128) :: num (n / 128) := by
  cases n with
  | zero => omega
  | succ n =>
    have h' : ¬ n + 1 < 128 := by omega
    unfold num
    simp only [numF, if_neg h']
    rw [numF_any n ((n + 1) / 128) ((n + 1) / 128) (by omega) (Nat.le_refl _)]

theorem num_lt (n : Nat) : ∀ d ∈ num n, d < 256 := by
  induction n using Nat.strongRecOn with
  | _ n ih =>
    intro d hd
    by_cases h : n < 128
    · rw [num_small h] at hd; simp at hd; omega
    · rw [num_big (by omega)] at hd
      simp only [List.mem_cons] at hd
      rcases hd with rfl | hd
      · omega
      · exact ih _ (by omega) d hd

theorem num_pos (n : Nat) : 1 ≤ (num n).length := by
  by_cases h : n < 128
  · rw [num_small h]; simp
  · rw [num_big (by omega)]; simp

theorem num_len (k : Nat) : ∀ n : Nat, n < 128 ^ (k + 1) → (num n).length ≤ k + 1 := by
  induction k with
  | zero => intro n hn; rw [num_small (by simpa using hn)]; simp
  | succ k ih =>
    intro n hn
    by_cases h : n < 128
    · rw [num_small h]; simp
    · rw [num_big (by omega)]
      simp only [List.length_cons]
      have : n / 128 < 128 ^ (k + 1) := by rw [Nat.div_lt_iff_lt_mul (by decide)]; rw [Nat.pow_succ] at hn; exact hn
      have := ih _ this
      omega

theorem num_len9 {n : Nat} (h : n ≤ 9223372036854775807) : (num n).length ≤ 9 :=
  num_len 8 n (Nat.lt_of_le_of_lt h (by decide))

/-- the number that stands at the front of bytes, and how many bytes it has: k bytes may be looked at yet, i were, they say n -/
def pkGo : Nat → Nat → Nat → List Nat → Except Nat (Nat × Nat)
  | 0, _, _, _ => .error 22
  | _ + 1, _, _, [] => .error 21
  | k + 1, i, n, b :: l => if 128 ≤ b then pkGo k (i + 1) (n + (b - 128) * 128 ^ i) l else if b = 0 ∧ 0 < i then .error 22 else .ok (n + b * 128 ^ i, i + 1)

def pk (l : List Nat) : Except Nat (Nat × Nat) := pkGo 9 0 0 l

theorem pkGo_num (k : Nat) : ∀ (i m n : Nat) (r : List Nat), (num n).length ≤ k → (0 < n ∨ i = 0) → pkGo k i m (num n ++ r) = .ok (m + n * 128 ^ i, i + (num n).length) := by
  induction k with
  | zero => intro i m n r h; have := num_pos n; omega
  | succ k ih =>
    intro i m n r h h0
    by_cases hs : n < 128
    · rw [num_small hs]
      simp only [List.cons_append, List.nil_append, pkGo, List.length_cons, List.length_nil]
      rw [if_neg (by omega), if_neg (by omega)]
    · have e : num n = (n % 128 + 128) :: num (n / 128) := num_big (by omega)
      rw [e] at h ⊢
      simp only [List.length_cons] at h ⊢
      simp only [List.cons_append, pkGo]
      rw [if_pos (by omega), ih (i + 1) _ (n / 128) r (by omega) (.inl (by omega))]
      have : m + (n % 128 + 128 - 128) * 128 ^ i + n / 128 * 128 ^ (i + 1) = m + n * 128 ^ i := by
        rw [Nat.add_sub_cancel, Nat.pow_succ]
        have h1 : n = n % 128 + 128 * (n / 128) := by omega
        have h2 : n * 128 ^ i = n % 128 * 128 ^ i + n / 128 * (128 ^ i * 128) := by
          calc n * 128 ^ i = (n % 128 + 128 * (n / 128)) * 128 ^ i := by rw [← h1]
            _ = n % 128 * 128 ^ i + n / 128 * (128 ^ i * 128) := by rw [Nat.add_mul, Nat.mul_comm 128 (n / 128), Nat.mul_assoc, Nat.mul_comm 128 (128 ^ i)]
        omega
      rw [this]
      congr 2
      omega

theorem pk_num {n : Nat} (h : n ≤ 9223372036854775807) (r : List Nat) : pk (num n ++ r) = .ok (n, (num n).length) := by
  unfold pk
  rw [pkGo_num 9 0 0 n r (num_len9 h) (.inr rfl)]
  simp

/-- what is taken lies in the bytes, and is the number's one row -/
theorem pkGo_ok (k : Nat) : ∀ (i m n s : Nat) (l : List Nat), (∀ d ∈ l, d < 256) → pkGo k i m l = .ok (n, s) → i < s ∧ s ≤ i + k ∧ s - i ≤ l.length ∧ ∃ x, n = m + x * 128 ^ i ∧ num x = l.take (s - i) ∧ (0 < x ∨ i = 0) ∧ x < 128 ^ (s - i) := by
  induction k with
  | zero => intro i m n s l _ h; simp [pkGo] at h
  | succ k ih =>
    intro i m n s l hl h
    cases l with
    | nil => simp [pkGo] at h
    | cons b l =>
      have hb8 : b < 256 := hl b (by simp)
      simp only [pkGo] at h
      split at h
      · rename_i hb
        obtain ⟨h1, h2, h3, x, h4, h5, h6, h7⟩ := ih _ _ _ _ _ (fun d hd => hl d (by simp [hd])) h
        have hx : 0 < x := by rcases h6 with h6 | h6 <;> omega
        refine ⟨by omega, by omega, by simp only [List.length_cons]; omega, b - 128 + 128 * x, ?_, ?_, .inl (by omega), ?_⟩
        · rw [h4, Nat.pow_succ, Nat.add_mul, Nat.mul_comm 128 x, Nat.mul_assoc x 128, Nat.mul_comm 128 (128 ^ i)]
          omega
        · rw [num_big (by omega), show s - i = (s - (i + 1)) + 1 by omega, List.take_succ_cons, ← h5, show (b - 128 + 128 * x) % 128 + 128 = b by omega, show (b - 128 + 128 * x) / 128 = x by omega]
        · rw [show s - i = (s - (i + 1)) + 1 by omega, Nat.pow_succ]
          omega
      · split at h
        · cases h
        · simp only [Except.ok.injEq, Prod.mk.injEq] at h
          obtain ⟨h1, h2⟩ := h
          rename_i hb hc
          refine ⟨by omega, by omega, by simp only [List.length_cons]; omega, b, h1.symm, ?_, by omega, ?_⟩
          · rw [← h2, show i + 1 - i = 1 by omega, num_small (by omega)]
            simp
          · rw [← h2, show i + 1 - i = 1 by omega]; omega

theorem pk_ok {l : List Nat} (hl : ∀ d ∈ l, d < 256) {n s : Nat} (h : pk l = .ok (n, s)) : 0 < s ∧ s ≤ 9 ∧ s ≤ l.length ∧ num n = l.take s ∧ n ≤ 9223372036854775807 := by
  obtain ⟨h1, h2, h3, x, h4, h5, _, h7⟩ := pkGo_ok 9 0 0 n s l hl h
  simp only [Nat.pow_zero, Nat.mul_one, Nat.zero_add, Nat.sub_zero] at h4 h5 h7 h3
  subst h4
  have h9 : 128 ^ s ≤ 128 ^ 9 := Nat.pow_le_pow_right (by decide) (by omega)
  have : 128 ^ 9 = 9223372036854775808 := by decide
  exact ⟨h1, by omega, h3, h5, by omega⟩

/-- a writer: what was laid, how many bytes at most, the fault -/
structure WS where
  laid : List Nat
  most : Nat
  fault : Nat

def WS.fail (s : WS) (e : Nat) : WS := if s.fault = 0 then { s with fault := e } else s
/-- bytes of a primitive value -/
def WS.lay (s : WS) (bs : List Nat) : WS := if s.laid.length + bs.length ≤ s.most then { s with laid := s.laid ++ bs } else s.fail 20

/-- a reader -/
structure RS where
  data : List Nat
  taken : Nat
  fault : Nat

def RS.fail (s : RS) (e : Nat) : RS := if s.fault = 0 then { s with fault := e } else s

end Go.Proofs.YtbjcckfhfbjchaaGreat.K
