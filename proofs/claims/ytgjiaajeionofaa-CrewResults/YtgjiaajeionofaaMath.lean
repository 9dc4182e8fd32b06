/- Plain mathematics of the sum: registers as numbers below 2^32, one step by a bit 0 (Z), what is moved on (itZ). Nothing of the program stands here. -/
namespace Go.Proofs.Ytgjiaajeionofaa.M

/-- A register behind a bit 0. -/
def Z (r : Nat) : Nat := if r % 2 = 1 then (r / 2) ^^^ 2197175160 else r / 2

/-- So many bits 0. -/
def itZ : Nat → Nat → Nat
  | 0, r => r
  | n + 1, r => itZ n (Z r)

theorem xor_div2 (a b : Nat) : (a ^^^ b) / 2 = a / 2 ^^^ b / 2 := by
  have := Nat.shiftRight_xor_distrib (a := a) (b := b) (i := 1)
  simpa [Nat.shiftRight_eq_div_pow] using this

theorem xor_mod2 (a b : Nat) : (a ^^^ b) % 2 = (a % 2 + b % 2) % 2 := by
  have h := Nat.xor_mod_two_pow (a := a) (b := b) (n := 1)
  rw [Nat.pow_one] at h
  rw [h]
  rcases Nat.mod_two_eq_zero_or_one a with ha | ha <;> rcases Nat.mod_two_eq_zero_or_one b with hb | hb <;> rw [ha, hb] <;> rfl

theorem xor_lt32 {a b : Nat} (ha : a < 4294967296) (hb : b < 4294967296) : a ^^^ b < 4294967296 := Nat.xor_lt_two_pow (n := 32) ha hb

theorem Z_lt {r : Nat} (h : r < 4294967296) : Z r < 4294967296 := by
  unfold Z
  split
  · exact xor_lt32 (by omega) (by omega)
  · omega

theorem Z_zero : Z 0 = 0 := rfl

theorem xor_mid (a b c d : Nat) : (a ^^^ b) ^^^ (c ^^^ d) = (a ^^^ c) ^^^ (b ^^^ d) := by
  rw [Nat.xor_assoc, ← Nat.xor_assoc b c d, Nat.xor_comm b c, Nat.xor_assoc, Nat.xor_assoc]

theorem xor_cancel (a f : Nat) : (a ^^^ f) ^^^ f = a := by rw [Nat.xor_assoc, Nat.xor_self, Nat.xor_zero]

theorem Z_xor (a b : Nat) : Z (a ^^^ b) = Z a ^^^ Z b := by
  unfold Z
  rw [xor_mod2, xor_div2]
  rcases Nat.mod_two_eq_zero_or_one a with ha | ha <;> rcases Nat.mod_two_eq_zero_or_one b with hb | hb <;> simp only [ha, hb] <;> simp
  · rw [Nat.xor_assoc]
  · rw [Nat.xor_assoc, Nat.xor_assoc, Nat.xor_comm 2197175160 (b / 2)]
  · rw [xor_mid, Nat.xor_self, Nat.xor_zero]

theorem Z_two (k : Nat) : Z (2 * k) = k := by
  unfold Z
  rw [if_neg (by omega)]
  omega

theorem itZ_lt (n : Nat) {r : Nat} (h : r < 4294967296) : itZ n r < 4294967296 := by
  induction n generalizing r with
  | zero => exact h
  | succ n ih => exact ih (Z_lt h)

theorem itZ_xor (n a b : Nat) : itZ n (a ^^^ b) = itZ n a ^^^ itZ n b := by
  induction n generalizing a b with
  | zero => rfl
  | succ n ih => show itZ n (Z _) = _; rw [Z_xor, ih]; rfl

theorem itZ_zero (n : Nat) : itZ n 0 = 0 := by
  induction n with
  | zero => rfl
  | succ n ih => exact ih

theorem itZ_add (m n r : Nat) : itZ (m + n) r = itZ n (itZ m r) := by
  induction m generalizing r with
  | zero => simp [itZ]
  | succ m ih => rw [Nat.succ_add]; exact ih (Z r)

theorem itZ_Z (n r : Nat) : itZ n (Z r) = Z (itZ n r) := by
  have h1 : itZ (1 + n) r = itZ n (Z r) := by rw [itZ_add]; rfl
  have h2 : itZ (n + 1) r = Z (itZ n r) := by rw [itZ_add]; rfl
  rw [← h1, ← h2, Nat.add_comm]

theorem itZ_succ (n r : Nat) : itZ (n + 1) r = Z (itZ n r) := itZ_Z n r

theorem itZ_pow (n k : Nat) : itZ n (2 ^ n * k) = k := by
  induction n generalizing k with
  | zero => simp [itZ]
  | succ n ih =>
    show itZ n (Z _) = k
    rw [show 2 ^ (n + 1) * k = 2 * (2 ^ n * k) by rw [Nat.pow_succ, Nat.mul_comm (2 ^ n) 2, Nat.mul_assoc], Z_two, ih]

/-- bits from place k on and those below it, apart -/
theorem split_xor (d k : Nat) : d = 2 ^ k * (d / 2 ^ k) ^^^ d % 2 ^ k := by
  apply Nat.eq_of_testBit_eq
  intro i
  rw [Nat.testBit_xor, Nat.testBit_two_pow_mul, Nat.testBit_mod_two_pow, Nat.testBit_div_two_pow]
  by_cases h : i < k
  · simp [h, show ¬ k ≤ i by omega]
  · simp [h, show k ≤ i by omega, show i - k + k = i by omega]

theorem mod_succ_xor (d k : Nat) : d % 2 ^ (k + 1) = d % 2 ^ k ^^^ 2 ^ k * (d / 2 ^ k % 2) := by
  apply Nat.eq_of_testBit_eq
  intro i
  rw [Nat.testBit_xor, Nat.testBit_two_pow_mul, Nat.testBit_mod_two_pow, Nat.testBit_mod_two_pow]
  rw [show d / 2 ^ k % 2 = (d / 2 ^ k) % 2 ^ 1 by simp, Nat.testBit_mod_two_pow, Nat.testBit_div_two_pow]
  by_cases h : i < k
  · simp [h, show ¬ k ≤ i by omega, show i < k + 1 by omega]
  · by_cases h' : i = k
    · subst h'; simp
    · simp [h, show ¬ i < k + 1 by omega, show ¬ i - k < 1 by omega]

/-- what becomes of a register behind the lowest k bits of d, the lowest first -/
def feed : Nat → Nat → Nat → Nat
  | 0, r, _ => r
  | k + 1, r, d => Z (feed k r d ^^^ (d / 2 ^ k % 2))

theorem feed_eq (k r d : Nat) : feed k r d = itZ k (r ^^^ d % 2 ^ k) := by
  induction k with
  | zero => simp [feed, itZ, Nat.mod_one]
  | succ k ih => rw [mod_succ_xor, ← Nat.xor_assoc, itZ_succ, itZ_xor, itZ_pow, feed, ih]

theorem feed8 (r d : Nat) (h : d < 256) : feed 8 r d = itZ 8 (r ^^^ d) := by rw [feed_eq, Nat.mod_eq_of_lt (by simpa using h)]

theorem feed_lt (k d : Nat) {r : Nat} (hr : r < 4294967296) : feed k r d < 4294967296 := by
  induction k with
  | zero => exact hr
  | succ k ih => exact Z_lt (xor_lt32 ih (by omega))

/-- a register behind bytes -/
def eat (r : Nat) (l : List Nat) : Nat := l.foldl (fun r d => itZ 8 (r ^^^ d)) r

theorem eat_nil (r : Nat) : eat r [] = r := rfl
theorem eat_append (r : Nat) (a b : List Nat) : eat r (a ++ b) = eat (eat r a) b := by simp [eat]
theorem eat_snoc (r : Nat) (a : List Nat) (d : Nat) : eat r (a ++ [d]) = itZ 8 (eat r a ^^^ d) := by rw [eat_append]; rfl

theorem eat_lt (l : List Nat) (hl : ∀ d ∈ l, d < 256) {r : Nat} (hr : r < 4294967296) : eat r l < 4294967296 := by
  induction l generalizing r with
  | nil => exact hr
  | cons d l ih =>
    exact ih (fun x hx => hl x (List.mem_cons_of_mem _ hx)) (itZ_lt 8 (xor_lt32 hr (by have := hl d (List.mem_cons_self ..); omega)))

/-- the step by a table: what the lowest byte makes, and the rest moved down -/
theorem table_step (r d : Nat) : itZ 8 (r % 256 ^^^ d) ^^^ r / 256 = itZ 8 (r ^^^ d) := by
  have h := split_xor r 8
  have h2 : r ^^^ d = (r % 2 ^ 8 ^^^ d) ^^^ 2 ^ 8 * (r / 2 ^ 8) := by
    conv => lhs; rw [h]
    rw [Nat.xor_comm (2 ^ 8 * _) _, Nat.xor_assoc, Nat.xor_comm _ d, Nat.xor_assoc]
  rw [h2, itZ_xor (a := r % 2 ^ 8 ^^^ d), itZ_pow]

/-- a linear thing: eaten together -/
theorem eat_xor (r s : Nat) (a b : List Nat) (h : a.length = b.length) : eat (r ^^^ s) (List.zipWith (· ^^^ ·) a b) = eat r a ^^^ eat s b := by
  induction a generalizing r s b with
  | nil => cases b with
    | nil => rfl
    | cons _ _ => simp at h
  | cons x a ih => cases b with
    | nil => simp at h
    | cons y b =>
      show eat (itZ 8 (r ^^^ s ^^^ (x ^^^ y))) (List.zipWith _ a b) = eat (itZ 8 (r ^^^ x)) a ^^^ eat (itZ 8 (s ^^^ y)) b
      rw [xor_mid, itZ_xor]
      exact ih _ _ b (by simpa using h)

/-- the product of two registers, i bits done -/
def tm (a b : Nat) : Nat → Nat
  | 0 => 0
  | i + 1 => tm a b i ^^^ (if a / 2 ^ (31 - i) % 2 = 1 then itZ i b else 0)

theorem tm_lt (a : Nat) {b : Nat} (hb : b < 4294967296) (i : Nat) : tm a b i < 4294967296 := by
  induction i with
  | zero => simp [tm]
  | succ i ih => exact xor_lt32 ih (by split; exact itZ_lt i hb; omega)

theorem tm_lin (n a b : Nat) (i : Nat) : itZ n (tm a b i) = tm a (itZ n b) i := by
  induction i with
  | zero => exact itZ_zero n
  | succ i ih =>
    rw [tm, tm, itZ_xor, ih]
    congr 1
    split
    · rw [← itZ_add, ← itZ_add, Nat.add_comm]
    · exact itZ_zero n

theorem tm_one (a : Nat) (i : Nat) (h : i ≤ 32) : tm a 2147483648 i = 2 ^ (32 - i) * (a % 2 ^ 32 / 2 ^ (32 - i)) := by
  induction i with
  | zero => rw [tm, Nat.div_eq_of_lt (Nat.mod_lt _ (by decide))]
  | succ i ih =>
    rw [tm, ih (by omega)]
    have e : itZ i 2147483648 = 2 ^ (31 - i) := by
      have := itZ_pow i (2 ^ (31 - i))
      rw [← Nat.pow_add, show i + (31 - i) = 31 by omega] at this
      exact this
    rw [e]
    obtain ⟨m, hm⟩ : ∃ m, 31 - i = m := ⟨_, rfl⟩
    rw [hm, show 32 - i = m + 1 by omega, show 32 - (i + 1) = m by omega]
    have hm2 : m < 32 := by omega
    clear hm e ih h
    apply Nat.eq_of_testBit_eq
    intro j
    rw [Nat.testBit_xor, Nat.testBit_two_pow_mul, Nat.testBit_two_pow_mul, Nat.testBit_div_two_pow, Nat.testBit_div_two_pow]
    have hb : (if a / 2 ^ m % 2 = 1 then 2 ^ m else 0).testBit j = (decide (m = j) && a.testBit j) := by
      by_cases hj : m = j
      · subst hj
        have : a.testBit m = decide (a / 2 ^ m % 2 = 1) := by
          rw [Nat.testBit_eq_decide_div_mod_eq]
        rw [this]
        split <;> rename_i hc <;> simp [hc]
      · split <;> simp [hj]
    rw [hb, Nat.testBit_mod_two_pow, Nat.testBit_mod_two_pow]
    by_cases h1 : m + 1 ≤ j
    · have e1 : j - (m + 1) + (m + 1) = j := by omega
      have e2 : j - m + m = j := by omega
      rw [e1, e2]
      simp [h1, show m ≤ j by omega, show ¬ m = j by omega]
    · by_cases h2 : m = j
      · subst h2
        have e3 : decide (m + 1 ≤ m) = false := by simp
        simp [hm2, e3]
      · simp [h1, h2, show ¬ m ≤ j by omega]

/-- a register times what one is moved on is that register moved on -/
theorem tm_moved (a n : Nat) (ha : a < 4294967296) : tm a (itZ n 2147483648) 32 = itZ n a := by
  rw [← tm_lin, tm_one a 32 (by omega)]
  simp [Nat.mod_eq_of_lt ha]

/-- what a list of 32 numbers makes of a number, i bits done -/
def byTo (t : Nat → Nat) (x : Nat) : Nat → Nat
  | 0 => 0
  | i + 1 => byTo t x i ^^^ (if x / 2 ^ i % 2 = 1 then t i else 0)

theorem byTo_moved (t : Nat → Nat) (x p i : Nat) (ht : ∀ j, j < i → t j = itZ p (2 ^ j)) : byTo t x i = itZ p (x % 2 ^ i) := by
  induction i with
  | zero => simp [byTo, Nat.mod_one, itZ_zero]
  | succ i ih =>
    rw [byTo, ih (fun j hj => ht j (by omega)), mod_succ_xor, itZ_xor, ht i (by omega)]
    congr 1
    rcases Nat.mod_two_eq_zero_or_one (x / 2 ^ i) with h | h
    · rw [h, if_neg (by decide), Nat.mul_zero, itZ_zero]
    · rw [h, if_pos rfl, Nat.mul_one]

theorem byTo_lt (t : Nat → Nat) (x i : Nat) (ht : ∀ j, j < i → t j < 4294967296) : byTo t x i < 4294967296 := by
  induction i with
  | zero => simp [byTo]
  | succ i ih => exact xor_lt32 (ih fun j hj => ht j (by omega)) (by split; exact ht i (by omega); omega)

theorem by_all (t : Nat → Nat) (x p : Nat) (hx : x < 4294967296) (ht : ∀ j, j < 32 → t j = itZ p (2 ^ j)) : byTo t x 32 = itZ p x := by
  rw [byTo_moved t x p 32 ht, Nat.mod_eq_of_lt (by simpa using hx)]

/-- the turned register -/
def neg (r : Nat) : Nat := 4294967295 - r

theorem neg_lt (r : Nat) : neg r < 4294967296 := by unfold neg; omega
theorem neg_neg {r : Nat} (h : r < 4294967296) : neg (neg r) = r := by unfold neg; omega
theorem neg_xor {r : Nat} (h : r < 4294967296) : neg r = r ^^^ 4294967295 := by
  unfold neg
  have h0 : 4294967295 - r = 2 ^ 32 - (r + 1) := by omega
  apply Nat.eq_of_testBit_eq
  intro i
  rw [h0, Nat.testBit_two_pow_sub_succ (by simpa using h), Nat.testBit_xor]
  rw [show (4294967295 : Nat) = 2 ^ 32 - 1 by decide, Nat.testBit_two_pow_sub_one]
  by_cases hi : i < 32
  · simp [hi]
  · have hr : r.testBit i = false := Nat.testBit_lt_two_pow (Nat.lt_of_lt_of_le h (Nat.pow_le_pow_right (n := 2) (by decide) (show 32 ≤ i by omega)))
    simp [hi, hr]

/-- the sum of a text of sum s with l behind it -/
def more (s : Nat) (l : List Nat) : Nat := neg (eat (neg s) l)

theorem more_lt (s : Nat) (l : List Nat) : more s l < 4294967296 := neg_lt _

theorem more_append (s : Nat) (a b : List Nat) (ha : ∀ d ∈ a, d < 256) : more s (a ++ b) = more (more s a) b := by
  unfold more
  rw [eat_append, neg_neg (eat_lt a ha (neg_lt s))]

theorem more_nil {s : Nat} (h : s < 4294967296) : more s [] = s := by unfold more; rw [eat_nil, neg_neg h]

/-- bytes eaten by two registers: they stay as far apart as the way is long -/
theorem eat_apart (r s : Nat) (l : List Nat) : eat (r ^^^ s) l = itZ (8 * l.length) r ^^^ eat s l := by
  induction l generalizing r s with
  | nil => simp [eat, itZ]
  | cons d l ih =>
    show eat (itZ 8 ((r ^^^ s) ^^^ d)) l = itZ (8 * (l.length + 1)) r ^^^ eat (itZ 8 (s ^^^ d)) l
    rw [Nat.xor_assoc, itZ_xor, ih, Nat.mul_add, Nat.add_comm (8 * l.length), itZ_add]

/-- the sum of two texts out of their sums -/
theorem more_join (a : Nat) (ha : a < 4294967296) (l : List Nat) (hl : ∀ d ∈ l, d < 256) : more a l = itZ (8 * l.length) a ^^^ more 0 l := by
  unfold more
  rw [neg_xor ha, eat_apart]
  have e := eat_lt l hl (r := 4294967295) (by decide)
  have e0 : neg 0 = 4294967295 := rfl
  rw [e0, neg_xor e, neg_xor (xor_lt32 (itZ_lt _ ha) e), Nat.xor_assoc]

theorem awake : more 0 [49, 50, 51, 52, 53, 54, 55, 56, 57] = 3808858755 := by decide +kernel

end Go.Proofs.Ytgjiaajeionofaa.M
