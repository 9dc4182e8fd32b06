/- Package wheel: the mathematics: digits and levels, the rows of slots, the order, what each call does. -/
import Derived.Test.YtbjapgajbljhfaaWBase
import Derived.Lib.ItoaNum
namespace Go.Proofs.Ytbjapgajbljhfaa
namespace Wh

theorem p64 (l : Nat) : 0 < 64 ^ l := Nat.pow_pos (by decide)
theorem p2 (l : Nat) : 64 ^ l = 2 ^ (6 * l) := by rw [Nat.pow_mul]

/-- the digits of a time from a level on, and the digit of a level -/
def hi (t l : Nat) : Nat := t / 64 ^ l
def dg (t l : Nat) : Nat := hi t l % 64
theorem hi_zero (t : Nat) : hi t 0 = t := by simp [hi]
theorem hi_succ (t l : Nat) : hi t (l + 1) = hi t l / 64 := by simp [hi, Nat.pow_succ, Nat.div_div_eq_div_mul]
theorem hi_split (t l : Nat) : hi t l = 64 * hi t (l + 1) + dg t l := by rw [hi_succ]; unfold dg; omega
theorem dg_lt (t l : Nat) : dg t l < 64 := Nat.mod_lt _ (by decide)
theorem hi_mono {a b : Nat} (h : a ≤ b) (l : Nat) : hi a l ≤ hi b l := Nat.div_le_div_right h
theorem lt_of_hi {a b l : Nat} (h : hi a l < hi b l) : a < b := by
  rcases Nat.lt_or_ge a b with h' | h'
  · exact h'
  · have := hi_mono h' l; omega
theorem hi_eq_up {a b l : Nat} (h : hi a l = hi b l) : ∀ k, hi a (l + k) = hi b (l + k)
  | 0 => h
  | k + 1 => by rw [← Nat.add_assoc, hi_succ, hi_succ, hi_eq_up h k]
theorem hi_eq_of_le {a b l m : Nat} (h : hi a l = hi b l) (hm : l ≤ m) : hi a m = hi b m := by
  have := hi_eq_up h (m - l)
  rwa [show l + (m - l) = m by omega] at this

/-- the level on which a time stands -/
def lev (n t : Nat) : Nat := (Lib.bitLen (t ^^^ n) - 1) / 6

theorem xor_zero {a b : Nat} (h : a ^^^ b = 0) : a = b := by
  have : a ^^^ b ^^^ b = a := by rw [Nat.xor_assoc, Nat.xor_self, Nat.xor_zero]
  rw [h, Nat.zero_xor] at this
  exact this.symm
theorem xor_hi (t n k : Nat) : hi t k = hi n k ↔ t ^^^ n < 2 ^ (6 * k) := by
  unfold hi
  rw [p2]
  have h : (t ^^^ n) / 2 ^ (6 * k) = t / 2 ^ (6 * k) ^^^ n / 2 ^ (6 * k) := Nat.xor_div_two_pow
  constructor
  · intro e
    rw [e, Nat.xor_self] at h
    rcases Nat.lt_or_ge (t ^^^ n) (2 ^ (6 * k)) with h' | h'
    · exact h'
    · have := Nat.div_pos h' (Nat.pow_pos (by decide)); omega
  · intro e
    rw [Nat.div_eq_of_lt e] at h
    exact xor_zero h.symm

theorem bl_bounds {x : Nat} (h : x < 2 ^ 64) (h0 : x ≠ 0) : 1 ≤ Lib.bitLen x ∧ 2 ^ (Lib.bitLen x - 1) ≤ x ∧ x < 2 ^ Lib.bitLen x := Lib.bitLenAux_bounds 64 x h h0

theorem lev_eq {t n L : Nat} (ht : t < 2 ^ 63) (hn : n < 2 ^ 63) (h1 : hi t (L + 1) = hi n (L + 1)) (h2 : L = 0 ∨ hi t L ≠ hi n L) : lev n t = L := by
  have hx : t ^^^ n < 2 ^ 63 := Nat.xor_lt_two_pow ht hn
  have hx' : t ^^^ n < 2 ^ 64 := by omega
  rw [xor_hi] at h1
  have h2' : L = 0 ∨ 2 ^ (6 * L) ≤ t ^^^ n := h2.imp id fun h => by rw [Ne, xor_hi] at h; omega
  unfold lev
  by_cases h0 : t ^^^ n = 0
  · rw [h0]
    rcases h2' with rfl | h
    · decide
    · have := Nat.pow_pos (n := 6 * L) (show 0 < 2 by decide); omega
  · obtain ⟨b1, b2, b3⟩ := bl_bounds hx' h0
    have c1 : Lib.bitLen (t ^^^ n) - 1 < 6 * (L + 1) := (Nat.pow_lt_pow_iff_right (by decide : 1 < 2)).1 (Nat.lt_of_le_of_lt b2 h1)
    rcases h2' with rfl | h
    · omega
    · have c2 : 6 * L < Lib.bitLen (t ^^^ n) := (Nat.pow_lt_pow_iff_right (by decide : 1 < 2)).1 (Nat.lt_of_le_of_lt h b3)
      omega

theorem lev_spec {t n : Nat} (ht : t < 2 ^ 63) (hn : n < 2 ^ 63) : hi t (lev n t + 1) = hi n (lev n t + 1) ∧ (lev n t = 0 ∨ hi t (lev n t) ≠ hi n (lev n t)) := by
  have hx : t ^^^ n < 2 ^ 63 := Nat.xor_lt_two_pow ht hn
  have hx' : t ^^^ n < 2 ^ 64 := by omega
  by_cases h0 : t ^^^ n = 0
  · have e : t = n := xor_zero h0
    subst e
    refine ⟨rfl, .inl ?_⟩
    unfold lev
    rw [h0]; decide
  · obtain ⟨b1, b2, b3⟩ := bl_bounds hx' h0
    refine ⟨?_, ?_⟩
    · rw [xor_hi]
      refine Nat.lt_of_lt_of_le b3 (Nat.pow_le_pow_right (by decide) ?_)
      unfold lev; omega
    · rcases Nat.eq_zero_or_pos (lev n t) with h | h
      · exact .inl h
      · refine .inr ?_
        rw [Ne, xor_hi]
        have : 2 ^ (6 * lev n t) ≤ 2 ^ (Lib.bitLen (t ^^^ n) - 1) := Nat.pow_le_pow_right (by decide) (by unfold lev; omega)
        omega

def M : Nat := 4611686018427387904
theorem M_lt {t : Nat} (h : t ≤ M) : t < 2 ^ 63 := by unfold M at h; omega
theorem lev_lt {t n : Nat} (ht : t ≤ M) (hn : n ≤ M) : lev n t < 11 := by
  have hx : t ^^^ n < 2 ^ 63 := Nat.xor_lt_two_pow (M_lt ht) (M_lt hn)
  have := Lib.bitLen_le (t ^^^ n) 63 (by decide) hx
  unfold lev; omega

/-- a time not behind now stands at a digit not behind now's, above it but on the lowest level -/
theorem dg_ge {t n : Nat} (ht : t < 2 ^ 63) (hn : n < 2 ^ 63) (h : n ≤ t) : dg n (lev n t) ≤ dg t (lev n t) ∧ (lev n t ≠ 0 → dg n (lev n t) < dg t (lev n t)) := by
  obtain ⟨h1, h2⟩ := lev_spec ht hn
  have a := hi_split t (lev n t)
  have b := hi_split n (lev n t)
  have c := hi_mono h (lev n t)
  rw [h1] at a
  refine ⟨by omega, fun h0 => ?_⟩
  rcases h2 with h2 | h2
  · exact absurd h2 h0
  · omega

/-- where a slot begins -/
def bg (n l i : Nat) : Nat := (hi n (l + 1) * 64 + i) * 64 ^ l
theorem hi_mul (a l : Nat) : hi (a * 64 ^ l) l = a := Nat.mul_div_cancel _ (p64 l)
theorem hi_bg (n l i : Nat) : hi (bg n l i) l = hi n (l + 1) * 64 + i := hi_mul _ _
theorem hi_bg_up (n l i : Nat) (h : i < 64) : hi (bg n l i) (l + 1) = hi n (l + 1) := by rw [hi_succ, hi_bg]; omega
theorem dg_bg (n l i : Nat) (h : i < 64) : dg (bg n l i) l = i := by unfold dg; rw [hi_bg]; omega
theorem hi_at {t n : Nat} (ht : t < 2 ^ 63) (hn : n < 2 ^ 63) : hi t (lev n t) = hi n (lev n t + 1) * 64 + dg t (lev n t) := by
  have := hi_split t (lev n t)
  rw [(lev_spec ht hn).1] at this
  omega
theorem bg_le {t n : Nat} (ht : t < 2 ^ 63) (hn : n < 2 ^ 63) : bg n (lev n t) (dg t (lev n t)) ≤ t := by
  unfold bg
  rw [← hi_at ht hn]
  exact Nat.div_mul_le_self t _
theorem bg_gt {t n to : Nat} (ht : t < 2 ^ 63) (hn : n < 2 ^ 63) {i : Nat} (hi' : i ≤ dg t (lev n t)) (h : to < bg n (lev n t) i) : to < t := by
  have := bg_le ht hn
  have h2 : bg n (lev n t) i ≤ bg n (lev n t) (dg t (lev n t)) := Nat.mul_le_mul_right _ (by omega)
  omega
/-- what stands on a higher level comes behind the slots of a lower one -/
theorem bg_up {t n to l i : Nat} (ht : t < 2 ^ 63) (hn : n < 2 ^ 63) (hnt : n ≤ t) (hl : l < lev n t) (hi64 : i < 64) (h : to < bg n l i) : to < t := by
  obtain ⟨h1, h2⟩ := lev_spec ht hn
  have h2' : hi t (lev n t) ≠ hi n (lev n t) := h2.resolve_left (by omega)
  have h3 : hi n (l + 1) ≠ hi t (l + 1) := fun e => h2' (hi_eq_of_le e.symm (by omega))
  have h4 := hi_mono hnt (l + 1)
  have h5 : bg n l i < t := lt_of_hi (l := l + 1) (by rw [hi_bg_up _ _ _ hi64]; omega)
  omega

/-- the order of places is that of times -/
theorem lt_of_lev {a b n : Nat} (ha : a < 2 ^ 63) (hb : b < 2 ^ 63) (hn : n < 2 ^ 63) (hnb : n ≤ b) (h : lev n a < lev n b) : a < b := by
  obtain ⟨a1, _⟩ := lev_spec ha hn
  obtain ⟨_, b2⟩ := lev_spec hb hn
  have b2' := b2.resolve_left (by omega)
  have c := hi_eq_of_le a1 (show lev n a + 1 ≤ lev n b by omega)
  have d := hi_mono hnb (lev n b)
  exact lt_of_hi (l := lev n b) (by omega)
theorem lt_of_dg {a b n : Nat} (ha : a < 2 ^ 63) (hb : b < 2 ^ 63) (hn : n < 2 ^ 63) (h : lev n a = lev n b) (hd : dg a (lev n b) < dg b (lev n b)) : a < b := by
  have h1 := hi_at ha hn
  have h2 := hi_at hb hn
  rw [h] at h1
  exact lt_of_hi (l := lev n b) (by omega)
theorem eq_of_low {a b n : Nat} (ha : a < 2 ^ 63) (hb : b < 2 ^ 63) (hn : n < 2 ^ 63) (h1 : lev n a = 0) (h2 : lev n b = 0) (hd : dg a 0 = dg b 0) : a = b := by
  have e1 := hi_at ha hn
  have e2 := hi_at hb hn
  rw [h1] at e1; rw [h2] at e2
  rw [hi_zero] at e1 e2
  omega

/-- now goes on, no further than a time: that time's level falls at most -/
theorem lev_to {t n to : Nat} (ht : t < 2 ^ 63) (hn : n < 2 ^ 63) (hto : to < 2 ^ 63) (h1 : n ≤ to) (h2 : to < bg n (lev n t) (dg t (lev n t)) ∨ lev n t = 0 ∧ to ≤ t) : lev to t = lev n t := by
  obtain ⟨a1, a2⟩ := lev_spec ht hn
  have hle : to ≤ t := h2.elim (fun h => Nat.le_of_lt (Nat.lt_of_lt_of_le h (bg_le ht hn))) (fun h => h.2)
  have b1 := hi_mono h1 (lev n t + 1)
  have b2 := hi_mono hle (lev n t + 1)
  refine lev_eq ht hto (by omega) ?_
  rcases h2 with h2 | ⟨h2, _⟩
  · refine .inr fun e => ?_
    have : bg n (lev n t) (dg t (lev n t)) ≤ to := by
      unfold bg
      rw [← hi_at ht hn, e]
      exact Nat.div_mul_le_self to _
    omega
  · exact .inl h2
/-- now goes on to where a slot begins: its own times fall below its level -/
theorem lev_open {t n : Nat} (ht : t < 2 ^ 63) (hn : n < 2 ^ 63) (h0 : lev n t ≠ 0) : lev (bg n (lev n t) (dg t (lev n t))) t < lev n t := by
  have hb : bg n (lev n t) (dg t (lev n t)) < 2 ^ 63 := Nat.lt_of_le_of_lt (bg_le ht hn) ht
  rcases Nat.lt_or_ge (lev (bg n (lev n t) (dg t (lev n t))) t) (lev n t) with h | h
  · exact h
  · exfalso
    obtain ⟨_, c2⟩ := lev_spec ht hb
    have c3 := c2.resolve_left (by omega)
    exact c3 (hi_eq_of_le (l := lev n t) (by rw [hi_bg, hi_at ht hn]) h)
/-- .. and those of the slots behind stand where they stood -/
theorem lev_other {t n l i : Nat} (ht : t < 2 ^ 63) (hn : n < 2 ^ 63) (hi64 : i < 64) (hb : bg n l i < 2 ^ 63) (h : l < lev n t ∨ l = lev n t ∧ l ≠ 0 ∧ i < dg t l) : lev (bg n l i) t = lev n t := by
  obtain ⟨a1, a2⟩ := lev_spec ht hn
  rcases h with h | ⟨rfl, h0, h⟩
  · have e := hi_bg_up n l i hi64
    refine lev_eq ht hb ?_ ?_
    · rw [hi_eq_of_le e (show l + 1 ≤ lev n t + 1 by omega)]; exact a1
    · refine a2.imp id fun a2 e' => a2 ?_
      rw [hi_eq_of_le e (show l + 1 ≤ lev n t by omega)] at e'
      exact e'
  · refine lev_eq ht hb ?_ (.inr ?_)
    · rw [hi_bg_up _ _ _ hi64]; exact a1
    · rw [hi_bg, hi_at ht hn]; omega

/-- a wheel: its time, the number that was given last, the numbers that are there by rising, their times and things -/
structure St where
  now : Nat
  last : Nat
  ids : List Nat
  due : Nat → Nat
  what : Nat → Value

structure Ok (s : St) : Prop where
  nowM : s.now ≤ M
  srt : s.ids.Pairwise (· < ·)
  inn : ∀ id ∈ s.ids, 1 ≤ id ∧ id ≤ s.last ∧ s.now ≤ s.due id ∧ s.due id ≤ M

/-- the row of a slot, by a time that is now -/
def rowAt (n : Nat) (due : Nat → Nat) (ids : List Nat) (l i : Nat) : List Nat := ids.filter fun id => lev n (due id) == l && dg (due id) l == i
def St.row (s : St) (l i : Nat) : List Nat := rowAt s.now s.due s.ids l i
theorem mem_row {s : St} {l i id : Nat} : id ∈ s.row l i ↔ id ∈ s.ids ∧ lev s.now (s.due id) = l ∧ dg (s.due id) l = i := by simp [St.row, rowAt]

/-- the order of timers -/
def St.bef (s : St) (a b : Nat) : Prop := s.due a < s.due b ∨ s.due a = s.due b ∧ a < b

/-- all slots ahead of a place are empty -/
def Emp (row : Nat → Nat → List Nat) (l i : Nat) : Prop := ∀ l' i', (l' < l ∨ l' = l ∧ i' < i) → row l' i' = []

theorem Ok.place {s : St} (_ : Ok s) {id : Nat} (hm : id ∈ s.ids) : id ∈ s.row (lev s.now (s.due id)) (dg (s.due id) (lev s.now (s.due id))) := mem_row.2 ⟨hm, rfl, rfl⟩

/-- slots that now has passed are empty -/
theorem Ok.low {s : St} (h : Ok s) {l i : Nat} (hi' : i < dg s.now l) : s.row l i = [] := by
  apply List.eq_nil_iff_forall_not_mem.2
  intro id hid
  obtain ⟨h1, rfl, rfl⟩ := mem_row.1 hid
  obtain ⟨_, _, h4, h5⟩ := h.inn id h1
  have := (dg_ge (M_lt h5) (M_lt h.nowM) h4).1
  omega
theorem Ok.high {s : St} (h : Ok s) {l i : Nat} (hi' : 11 ≤ l ∨ 64 ≤ i) : s.row l i = [] := by
  apply List.eq_nil_iff_forall_not_mem.2
  intro id hid
  obtain ⟨h1, rfl, rfl⟩ := mem_row.1 hid
  obtain ⟨_, _, h4, h5⟩ := h.inn id h1
  have := lev_lt h5 h.nowM
  have := dg_lt (s.due id) (lev s.now (s.due id))
  omega

/-- nothing is due: all slots that begin by then are empty -/
theorem Ok.none_of_stop {s : St} (h : Ok s) {to l i : Nat} (he : Emp s.row l i) (hi64 : i < 64) (hb : to < bg s.now l i) : ∀ id ∈ s.ids, to < s.due id := by
  intro id hid
  obtain ⟨_, _, h4, h5⟩ := h.inn id hid
  have hp := h.place hid
  rcases Nat.lt_trichotomy (lev s.now (s.due id)) l with c | c | c
  · rw [he _ _ (.inl c)] at hp; cases hp
  · rcases Nat.lt_or_ge (dg (s.due id) l) i with d | d
    · rw [he _ _ (.inr ⟨c, by rw [c]; exact d⟩)] at hp; cases hp
    · subst c; exact bg_gt (M_lt h5) (M_lt h.nowM) d hb
  · exact bg_up (M_lt h5) (M_lt h.nowM) h4 c hi64 hb
theorem Ok.none_of_end {s : St} (h : Ok s) (he : Emp s.row 11 0) : ∀ id ∈ s.ids, False := by
  intro id hid
  have hp := h.place hid
  obtain ⟨_, _, h4, h5⟩ := h.inn id hid
  rw [he _ _ (.inl (lev_lt h5 h.nowM))] at hp
  cases hp

/-- Next, where nothing is due -/
def St.go (s : St) (to : Nat) : St := { s with now := to }
theorem Ok.go {s : St} (h : Ok s) {to : Nat} (h2 : to ≤ M) (hn : ∀ id ∈ s.ids, to < s.due id) : Ok (s.go to) :=
  ⟨h2, h.srt, fun id hid => by obtain ⟨a, b, c, d⟩ := h.inn id hid; exact ⟨a, b, Nat.le_of_lt (hn id hid), d⟩⟩
theorem row_congr {n n' : Nat} {due : Nat → Nat} {ids : List Nat} (h : ∀ id ∈ ids, lev n' (due id) = lev n (due id)) (l i : Nat) : rowAt n' due ids l i = rowAt n due ids l i := by
  unfold rowAt
  refine List.filter_congr fun id hid => ?_
  rw [h id hid]
theorem Ok.go_row {s : St} (h : Ok s) {to l i : Nat} (h1 : s.now ≤ to) (h2 : to ≤ M) (he : Emp s.row l i) (hi64 : i < 64) (hb : to < bg s.now l i) : (s.go to).row = s.row := by
  funext l' i'
  refine row_congr (fun id hid => ?_) l' i'
  change lev to (s.due id) = lev s.now (s.due id)
  obtain ⟨_, _, h4, h5⟩ := h.inn id hid
  have hlt := h.none_of_stop he hi64 hb id hid
  have hp := h.place hid
  rcases Nat.lt_trichotomy (lev s.now (s.due id)) l with c | c | c
  · rw [he _ _ (.inl c)] at hp; cases hp
  · rcases Nat.lt_or_ge (dg (s.due id) l) i with d | d
    · rw [he _ _ (.inr ⟨c, by rw [c]; exact d⟩)] at hp; cases hp
    · subst c
      refine lev_to (M_lt h5) (M_lt h.nowM) (M_lt h2) h1 (.inl (Nat.lt_of_lt_of_le hb (Nat.mul_le_mul_right _ (by omega))))
  · refine lev_to (M_lt h5) (M_lt h.nowM) (M_lt h2) h1 (.inl ?_)
    obtain ⟨a1, a2⟩ := lev_spec (M_lt h5) (M_lt h.nowM)
    have a2' := a2.resolve_left (by omega)
    have d1 := hi_mono h4 (lev s.now (s.due id))
    have d2 : hi to (lev s.now (s.due id)) ≤ hi (bg s.now l i) (lev s.now (s.due id)) := hi_mono (Nat.le_of_lt hb) _
    rw [hi_eq_of_le (hi_bg_up s.now l i hi64) (show l + 1 ≤ lev s.now (s.due id) by omega)] at d2
    exact lt_of_hi (l := lev s.now (s.due id)) (by rw [hi_bg, ← hi_at (M_lt h5) (M_lt h.nowM)]; omega)
theorem go_row_nil {s : St} (h : s.ids = []) (to : Nat) : (s.go to).row = s.row := by
  funext l i
  simp [St.row, rowAt, St.go, h]

/-- the slot that comes first -/
theorem Ok.first {s : St} (h : Ok s) {i id : Nat} {r : List Nat} (he : Emp s.row 0 i) (hr : s.row 0 i = id :: r) : id ∈ s.ids ∧ ∀ j ∈ s.ids, j ≠ id → s.bef id j := by
  have hm : id ∈ s.row 0 i := by rw [hr]; simp
  obtain ⟨h1, h2, h3⟩ := mem_row.1 hm
  refine ⟨h1, fun j hj hne => ?_⟩
  obtain ⟨_, _, h4, h5⟩ := h.inn id h1
  obtain ⟨_, _, j4, j5⟩ := h.inn j hj
  by_cases hl : lev s.now (s.due j) = 0
  · have hp := h.place hj
    rw [hl] at hp
    rcases Nat.lt_trichotomy (dg (s.due j) 0) i with d | d | d
    · rw [he _ _ (.inr ⟨rfl, d⟩)] at hp; cases hp
    · refine .inr ⟨eq_of_low (M_lt h5) (M_lt j5) (M_lt h.nowM) h2 hl (by rw [h3, d]), ?_⟩
      rw [d, hr] at hp
      have hs : (id :: r).Pairwise (· < ·) := by rw [← hr]; exact h.srt.filter _
      rcases List.mem_cons.1 hp with e | e
      · exact absurd e hne
      · exact (List.pairwise_cons.1 hs).1 j e
    · exact .inl (lt_of_dg (M_lt h5) (M_lt j5) (M_lt h.nowM) (by rw [h2, hl]) (by rw [hl, h3]; exact d))
  · exact .inl (lt_of_lev (M_lt h5) (M_lt j5) (M_lt h.nowM) j4 (by omega))

/-- a timer is taken away -/
def St.del (s : St) (id : Nat) : St := { s with ids := s.ids.filter (· != id) }
theorem Ok.del {s : St} (h : Ok s) (id : Nat) : Ok (s.del id) :=
  ⟨h.nowM, h.srt.filter _, fun j hj => h.inn j (List.mem_filter.1 hj).1⟩
theorem del_row (s : St) (id l i : Nat) : (s.del id).row l i = (s.row l i).filter (· != id) := by
  unfold St.row rowAt St.del
  rw [List.filter_filter, List.filter_filter]
  simp only [Bool.and_comm]

/-- Next, where a timer is taken off -/
theorem Ok.took {s : St} (h : Ok s) {i id : Nat} {r : List Nat} (he : Emp s.row 0 i) (hr : s.row 0 i = id :: r) : Ok ((s.del id).go (s.due id)) ∧ ((s.del id).go (s.due id)).row = (s.del id).row := by
  obtain ⟨h1, hb⟩ := h.first he hr
  obtain ⟨_, _, h4, h5⟩ := h.inn id h1
  have hm : id ∈ s.row 0 i := by rw [hr]; simp
  obtain ⟨_, h2, h3⟩ := mem_row.1 hm
  have hle : ∀ j ∈ (s.del id).ids, s.due id ≤ s.due j := fun j hj => by
    obtain ⟨a, b⟩ := List.mem_filter.1 hj
    rcases hb j a (by simpa using b) with c | ⟨c, _⟩ <;> omega
  refine ⟨⟨h5, (h.del id).srt, fun j hj => by obtain ⟨a, b, c, d⟩ := (h.del id).inn j hj; exact ⟨a, b, hle j hj, d⟩⟩, ?_⟩
  funext l' i'
  refine row_congr (fun j hj => ?_) l' i'
  obtain ⟨_, _, j4, j5'⟩ := (h.del id).inn j hj
  have j5 : s.due j ≤ M := j5'
  obtain ⟨a1, a2⟩ := lev_spec (M_lt h5) (M_lt h.nowM)
  obtain ⟨b1, b2⟩ := lev_spec (M_lt j5) (M_lt h.nowM)
  rw [h2, Nat.zero_add] at a1
  change lev (s.due id) (s.due j) = lev s.now (s.due j)
  refine lev_eq (M_lt j5) (M_lt h5) ?_ ?_
  · exact b1.trans (hi_eq_of_le a1 (show 1 ≤ lev s.now (s.due j) + 1 by omega)).symm
  · rcases Nat.eq_zero_or_pos (lev s.now (s.due j)) with c | c
    · exact .inl c
    · exact .inr fun e => b2.resolve_left (by omega) (e.trans (hi_eq_of_le a1 (show 1 ≤ lev s.now (s.due j) by omega)))

/-- a slot is opened: the rows, when so many of its timers are laid out -/
def opened (s : St) (l i : Nat) (done : List Nat) (l' i' : Nat) : List Nat :=
  (if l' = l ∧ i' = i then [] else s.row l' i') ++ rowAt (bg s.now l i) s.due done l' i'

theorem Ok.open_low {s : St} (h : Ok s) {l i id : Nat} (h0 : l ≠ 0) (hm : id ∈ s.row l i) : lev (bg s.now l i) (s.due id) < l ∧ bg s.now l i ≤ s.due id ∧ dg (s.due id) (lev (bg s.now l i) (s.due id)) < 64 := by
  obtain ⟨h1, rfl, rfl⟩ := mem_row.1 hm
  obtain ⟨_, _, h4, h5⟩ := h.inn id h1
  exact ⟨lev_open (M_lt h5) (M_lt h.nowM) h0, bg_le (M_lt h5) (M_lt h.nowM), dg_lt _ _⟩
theorem Ok.open_bg {s : St} (h : Ok s) {l i id : Nat} (hm : id ∈ s.row l i) : bg s.now l i ≤ M ∧ i < 64 ∧ l < 11 ∧ s.now ≤ bg s.now l i ∨ l = 0 := by
  obtain ⟨h1, rfl, rfl⟩ := mem_row.1 hm
  obtain ⟨_, _, h4, h5⟩ := h.inn id h1
  by_cases h0 : lev s.now (s.due id) = 0
  · exact .inr h0
  · refine .inl ⟨Nat.le_trans (bg_le (M_lt h5) (M_lt h.nowM)) h5, dg_lt _ _, lev_lt h5 h.nowM, ?_⟩
    refine Nat.le_of_lt (lt_of_hi (l := lev s.now (s.due id)) ?_)
    rw [hi_bg]
    have := hi_split s.now (lev s.now (s.due id))
    have := (dg_ge (M_lt h5) (M_lt h.nowM) h4).2 h0
    omega
theorem Ok.opened_all {s : St} (h : Ok s) {l i : Nat} (h0 : l ≠ 0) (hi64 : i < 64) (he : Emp s.row l i) (hne : s.row l i ≠ []) : opened s l i (s.row l i) = (s.go (bg s.now l i)).row ∧ Ok (s.go (bg s.now l i)) := by
  obtain ⟨x, hx⟩ := List.exists_mem_of_ne_nil _ hne
  obtain ⟨c1, _, _, c2⟩ := (h.open_bg hx).resolve_right h0
  have hcase : ∀ id ∈ s.ids, (id ∈ s.row l i) ∨ (id ∉ s.row l i ∧ lev (bg s.now l i) (s.due id) = lev s.now (s.due id) ∧ l ≤ lev s.now (s.due id) ∧ bg s.now l i ≤ s.due id) := fun id hid => by
    obtain ⟨_, _, h4, h5⟩ := h.inn id hid
    have hp := h.place hid
    rcases Nat.lt_trichotomy (lev s.now (s.due id)) l with c | c | c
    · rw [he _ _ (.inl c)] at hp; cases hp
    · rcases Nat.lt_trichotomy (dg (s.due id) l) i with d | d | d
      · rw [he _ _ (.inr ⟨c, by rw [c]; exact d⟩)] at hp; cases hp
      · exact .inl (mem_row.2 ⟨hid, c, d⟩)
      · refine .inr ⟨fun e => ?_, lev_other (M_lt h5) (M_lt h.nowM) hi64 (M_lt c1) (.inr ⟨c.symm, h0, d⟩), by omega, ?_⟩
        · have := (mem_row.1 e).2.2; omega
        · subst c
          exact Nat.le_trans (Nat.mul_le_mul_right _ (by omega)) (bg_le (M_lt h5) (M_lt h.nowM))
    · refine .inr ⟨fun e => ?_, lev_other (M_lt h5) (M_lt h.nowM) hi64 (M_lt c1) (.inl c), by omega, ?_⟩
      · have := (mem_row.1 e).2.1; omega
      · rcases Nat.lt_or_ge (s.due id) (bg s.now l i) with d | d
        · have := bg_up (M_lt h5) (M_lt h.nowM) h4 c hi64 d; omega
        · exact d
  refine ⟨?_, c1, h.srt, fun id hid => ?_⟩
  · funext l' i'
    rcases Nat.lt_or_ge l' l with hl | hl
    · have e1 : (if l' = l ∧ i' = i then [] else s.row l' i') = [] := by rw [if_neg (by omega)]; exact he _ _ (.inl hl)
      unfold opened
      rw [e1, List.nil_append]
      unfold St.row St.go rowAt
      rw [List.filter_filter]
      refine List.filter_congr fun id hid => ?_
      rcases hcase id hid with hc | ⟨_, hc, hc2, _⟩
      · obtain ⟨_, a, b⟩ := mem_row.1 hc
        simp [a, b]
      · simp only [hc]
        have : (lev s.now (s.due id) == l') = false := by simp; omega
        simp [this]
    · have e2 : rowAt (bg s.now l i) s.due (s.row l i) l' i' = [] := by
        apply List.eq_nil_iff_forall_not_mem.2
        intro id hid
        obtain ⟨a, b⟩ := List.mem_filter.1 hid
        have := (h.open_low h0 a).1
        simp at b
        omega
      unfold opened
      rw [e2, List.append_nil]
      by_cases hp : l' = l ∧ i' = i
      · rw [if_pos hp]
        symm
        apply List.eq_nil_iff_forall_not_mem.2
        intro id hid
        obtain ⟨a, b, c⟩ := mem_row.1 hid
        change lev (bg s.now l i) (s.due id) = l' at b
        change dg (s.due id) l' = i' at c
        rcases hcase id a with hc | ⟨hc, hd, _⟩
        · have := (h.open_low h0 hc).1; omega
        · exact hc (mem_row.2 ⟨a, by omega, by rw [hp.1] at c; omega⟩)
      · rw [if_neg hp]
        unfold St.row St.go rowAt
        refine List.filter_congr fun id hid => ?_
        rcases hcase id hid with hc | ⟨_, hc, _⟩
        · obtain ⟨_, a, b⟩ := mem_row.1 hc
          have g := (h.open_low h0 hc).1
          have e3 : (lev (bg s.now l i) (s.due id) == l') = false := by simp; omega
          simp only [e3, Bool.false_and]
          by_cases e : l' = l
          · subst e
            have : (dg (s.due id) l' == i') = false := by simp; exact fun e => hp ⟨rfl, by omega⟩
            simp [this]
          · have : (lev s.now (s.due id) == l') = false := by simp; omega
            simp [this]
        · simp only [hc]
  · obtain ⟨a, b, c, d⟩ := h.inn id hid
    refine ⟨a, b, ?_, d⟩
    rcases hcase id hid with hc | ⟨_, _, _, hc⟩
    · exact (h.open_low h0 hc).2.1
    · exact hc
theorem opened_none (s : St) (l i l' i' : Nat) : opened s l i [] l' i' = if l' = l ∧ i' = i then [] else s.row l' i' := by simp [opened, rowAt]
theorem opened_more (s : St) (l i : Nat) (done : List Nat) (id l' i' : Nat) : opened s l i (done ++ [id]) l' i' = opened s l i done l' i' ++ (if lev (bg s.now l i) (s.due id) = l' ∧ dg (s.due id) l' = i' then [id] else []) := by
  unfold opened rowAt
  rw [List.filter_append, List.append_assoc]
  congr 1
  congr 1
  by_cases h : lev (bg s.now l i) (s.due id) = l' ∧ dg (s.due id) l' = i'
  · rw [if_pos h]; simp [h]
  · rw [if_neg h]; simp only [List.filter_cons, List.filter_nil]
    rw [if_neg (by simpa using h)]

/-- Schedule -/
def updN (f : Nat → Nat) (k v : Nat) (j : Nat) : Nat := if j = k then v else f j
def updV (f : Nat → Value) (k : Nat) (v : Value) (j : Nat) : Value := if j = k then v else f j
def St.add (s : St) (d : Nat) (x : Value) : St := { s with last := s.last + 1, ids := s.ids ++ [s.last + 1], due := updN s.due (s.last + 1) d, what := updV s.what (s.last + 1) x }
theorem Ok.new_ne {s : St} (h : Ok s) {id : Nat} (hid : id ∈ s.ids) : id ≠ s.last + 1 := by have := (h.inn id hid).2.1; omega
theorem Ok.add {s : St} (h : Ok s) {d : Nat} (h1 : s.now ≤ d) (h2 : d ≤ M) (x : Value) : Ok (s.add d x) := by
  refine ⟨h.nowM, ?_, fun id hid => ?_⟩
  · refine List.pairwise_append.2 ⟨h.srt, by simp, fun a ha b hb => ?_⟩
    have := (h.inn a ha).2.1
    simp at hb
    omega
  · rcases List.mem_append.1 hid with hm | hm
    · obtain ⟨a, b, c, e⟩ := h.inn id hm
      have hne := h.new_ne hm
      simp only [St.add, updN, if_neg hne]
      exact ⟨a, by omega, c, e⟩
    · simp at hm
      subst hm
      simp only [St.add, updN, if_pos]
      exact ⟨by omega, by omega, h1, h2⟩
theorem Ok.add_row {s : St} (h : Ok s) (d : Nat) (x : Value) (l i : Nat) : (s.add d x).row l i = s.row l i ++ (if lev s.now d = l ∧ dg d l = i then [s.last + 1] else []) := by
  unfold St.row St.add rowAt
  rw [List.filter_append]
  congr 1
  · refine List.filter_congr fun id hid => ?_
    simp [updN, h.new_ne hid]
  · by_cases hc : lev s.now d = l ∧ dg d l = i
    · rw [if_pos hc]; simp [updN, hc]
    · rw [if_neg hc]; simp only [List.filter_cons, List.filter_nil, updN, if_pos]
      rw [if_neg (by simpa using hc)]

/-- what Next does -/
def NextNone (s : St) (to : Nat) (s' : St) : Prop := (∀ id ∈ s.ids, to < s.due id) ∧ s' = s.go to
def NextSome (s : St) (to id : Nat) (s' : St) : Prop := id ∈ s.ids ∧ s.due id ≤ to ∧ (∀ j ∈ s.ids, j ≠ id → s.bef id j) ∧ s' = (s.del id).go (s.due id)

/-- what Advance does -/
def St.adv (s : St) (to : Nat) : St := { s with now := to, ids := s.ids.filter fun id => to < s.due id }
structure Adv (s : St) (to : Nat) (out : List Nat) : Prop where
  ord : out.Pairwise s.bef
  mem : ∀ id, id ∈ out ↔ id ∈ s.ids ∧ s.due id ≤ to
theorem Ok.adv {s : St} (h : Ok s) {to : Nat} (h2 : to ≤ M) : Ok (s.adv to) :=
  ⟨h2, h.srt.filter _, fun id hid => by obtain ⟨a, b⟩ := List.mem_filter.1 hid; obtain ⟨c, d, e, f⟩ := h.inn id a; simp at b; exact ⟨c, d, Nat.le_of_lt b, f⟩⟩

/-- Advance, timer by timer: what came so far, and the state between -/
structure Mid (s : St) (to : Nat) (out : List Nat) (m : St) : Prop where
  ord : out.Pairwise s.bef
  due : ∀ id ∈ out, id ∈ s.ids ∧ s.due id ≤ to ∧ ∀ j ∈ m.ids, s.bef id j
  eqD : m.due = s.due
  eqW : m.what = s.what
  eqL : m.last = s.last
  ids : m.ids = s.ids.filter fun id => !out.contains id
  ok : Ok m
  le : m.now ≤ to
theorem Mid.start {s : St} (h : Ok s) {to : Nat} (h1 : s.now ≤ to) : Mid s to [] s := ⟨List.Pairwise.nil, by simp, rfl, rfl, rfl, (List.filter_eq_self.2 (by simp)).symm, h, h1⟩
theorem Mid.some {s m m' : St} {to id : Nat} {out : List Nat} (h : Mid s to out m) (hn : NextSome m to id m') (hok : Ok m') : Mid s to (out ++ [id]) m' := by
  obtain ⟨h1, h2, h3, rfl⟩ := hn
  rw [h.eqD] at h2
  have hb : ∀ j ∈ m.ids, j ≠ id → s.bef id j := fun j hj hne => by have := h3 j hj hne; unfold St.bef at this ⊢; rw [h.eqD] at this; exact this
  have hms : id ∈ s.ids := by have := h1; rw [h.ids] at this; exact (List.mem_filter.1 this).1
  refine ⟨List.pairwise_append.2 ⟨h.ord, by simp, fun a ha b hbb => ?_⟩, fun a ha => ?_, h.eqD, h.eqW, h.eqL, ?_, hok, by change m.due id ≤ to; rw [h.eqD]; exact h2⟩
  · simp at hbb; subst hbb; exact (h.due a ha).2.2 b h1
  · rcases List.mem_append.1 ha with ha | ha
    · obtain ⟨c, d, e⟩ := h.due a ha
      exact ⟨c, d, fun j hj => e j (List.mem_filter.1 hj).1⟩
    · simp at ha; subst ha
      exact ⟨hms, h2, fun j hj => by obtain ⟨c, d⟩ := List.mem_filter.1 hj; exact hb j c (by simpa using d)⟩
  · change m.ids.filter (· != id) = _
    rw [h.ids, List.filter_filter]
    refine List.filter_congr fun j _ => ?_
    simp [List.mem_append, Bool.and_comm, bne]
    rw [Bool.eq_iff_iff]; simp
theorem Mid.none {s m m' : St} {to : Nat} {out : List Nat} (h : Mid s to out m) (hn : NextNone m to m') : Adv s to out ∧ m' = s.adv to := by
  obtain ⟨h1, rfl⟩ := hn
  rw [h.eqD] at h1
  have hmem : ∀ id, id ∈ out ↔ id ∈ s.ids ∧ s.due id ≤ to := fun id => by
    refine ⟨fun hm => ⟨(h.due id hm).1, (h.due id hm).2.1⟩, fun ⟨a, b⟩ => ?_⟩
    apply Classical.byContradiction
    intro hc
    have := h1 id (by rw [h.ids]; exact List.mem_filter.2 ⟨a, by simpa using hc⟩)
    omega
  refine ⟨⟨h.ord, hmem⟩, ?_⟩
  have e : m.ids = s.ids.filter fun id => decide (to < s.due id) := by
    rw [h.ids]
    refine List.filter_congr fun j hj => ?_
    have := hmem j
    rw [Bool.eq_iff_iff]
    simp [this, hj]
  have hD := h.eqD; have hW := h.eqW; have hL := h.eqL
  obtain ⟨n, la, ids, due, what⟩ := m
  simp only at e hD hW hL
  subst hD hW hL e
  rfl

end Wh
end Go.Proofs.Ytbjapgajbljhfaa
