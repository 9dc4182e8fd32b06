/- Package disk: what the document says of a disk, as mathematics: both views, what each call does, what is kept. -/
import Derived.Test.YtilpidioengnbaaProg
namespace Go.Proofs.Ytilpidioengnbaa

def upd {α : Type} (f : Int → α) (k : Int) (v : α) : Int → α := fun j => if j = k then v else f j
theorem upd_same {α : Type} (f : Int → α) (k : Int) (v : α) : upd f k v k = v := by simp [upd]
theorem upd_other {α : Type} (f : Int → α) {k j : Int} (v : α) (h : j ≠ k) : upd f k v j = f j := by simp [upd, h]
theorem upd_id {α : Type} (f : Int → α) (k : Int) : upd f k (f k) = f := by
  funext j
  unfold upd
  split
  · rename_i h; rw [h]
  · rfl

/-- a disk: its capacity, what is used, both views, with how many further calls it is armed, whether the power is off -/
structure St where
  cap : Nat
  used : Nat
  there : Int → Option (List Nat)
  safe : Int → Option (List Nat)
  left : Option Nat
  down : Bool

/-- bits of one byte turned -/
def flip (l : List Nat) (i m : Nat) : List Nat := l.set i (l.getD i 0 ^^^ m)
theorem flip_length (l : List Nat) (i m : Nat) : (flip l i m).length = l.length := by simp [flip]

/-- what a fate leaves of a segment -/
def struck (t s : Option (List Nat)) (f : Nat) : Option (List Nat) :=
  match t, s with
  | some l, some m => some (l.take (m.length + f))
  | some l, none => if f = 0 then none else some (l.take (f - 1))
  | none, s => if f = 0 then none else s

namespace St
def held (s : St) (k : Int) : Option (List Nat) := match s.there k with | some l => some l | none => s.safe k
def away (s : St) (k : Int) : Option (List Nat) := match s.there k with | some _ => none | none => s.safe k
def room (s : St) : Nat := s.cap - s.used
def spend (s : St) : Int × St := match s.left with | none => (0, s) | some 0 => (56, { s with down := true }) | some (n + 1) => (0, { s with left := some n })
def create (s : St) (k : Int) : Int × St :=
  if s.down then (56, s) else if k < 1 ∨ 1099511627776 < k then (51, s) else if s.held k ≠ none then (52, s) else if s.room < 64 then (54, s) else
  { s with there := upd s.there k (some []), used := s.used + 64 }.spend
def find (s : St) (k : Int) : Int := if s.down then 56 else if s.there k = none then 53 else 0
def append (s : St) (k : Int) (b : List Nat) : Int × St :=
  if s.down then (56, s) else match s.there k with
  | none => (53, s)
  | some l => if s.room < b.length then (54, s) else { s with there := upd s.there k (some (l ++ b)), used := s.used + b.length }.spend
def remove (s : St) (k : Int) : Int × St :=
  if s.down then (56, s) else match s.there k with
  | none => (53, s)
  | some l => { s with there := upd s.there k none, used := s.used - (64 + l.length) }.spend
def sync (s : St) : Int × St :=
  if s.down then (56, s) else match s.left with
  | none => (0, { s with safe := s.there })
  | some 0 => (56, { s with down := true })
  | some (n + 1) => (0, { s with safe := s.there, left := some n })
def arm (s : St) (n : Int) : Int × St := if s.down then (56, s) else if n < 0 then (1, s) else (0, { s with left := some n.toNat })
def turn (s : St) (k : Int) (i m : Nat) : St := { s with there := upd s.there k ((s.there k).map fun l => flip l i m), safe := upd s.safe k ((s.safe k).map fun l => flip l i m) }
def spoil (s : St) (k at_ : Int) (m : Nat) : Int × St :=
  if s.down then (56, s) else match s.there k with
  | none => (53, s)
  | some l => if at_ < 0 ∨ (l.length : Int) ≤ at_ then (55, s) else (0, s.turn k at_.toNat m)
end St

/-- a sum over the first numbers -/
def sumTo (c : Nat → Nat) : Nat → Nat
  | 0 => 0
  | n + 1 => sumTo c n + c n

theorem sumTo_mono {c d : Nat → Nat} (h : ∀ i, c i ≤ d i) : ∀ n, sumTo c n ≤ sumTo d n
  | 0 => Nat.le_refl _
  | n + 1 => by have := sumTo_mono h n; have := h n; simp only [sumTo]; omega
theorem sumTo_add {c d e : Nat → Nat} (h : ∀ i, c i = d i + e i) : ∀ n, sumTo c n = sumTo d n + sumTo e n
  | 0 => rfl
  | n + 1 => by have := sumTo_add h n; have := h n; simp only [sumTo]; omega
theorem sumTo_congr {c d : Nat → Nat} {n : Nat} (h : ∀ i, i < n → c i = d i) : sumTo c n = sumTo d n := by
  induction n with
  | zero => rfl
  | succ n ih => simp only [sumTo]; rw [ih fun i hi => h i (by omega), h n (by omega)]
theorem sumTo_one {c d : Nat → Nat} {k : Nat} (h : ∀ i, i ≠ k → c i = d i) : ∀ n, k < n → sumTo c n + d k = sumTo d n + c k
  | 0, hk => by omega
  | n + 1, hk => by
    simp only [sumTo]
    by_cases e : n = k
    · subst e
      have := sumTo_congr (c := c) (d := d) (n := n) fun i hi => h i (by omega)
      omega
    · have := sumTo_one h n (by omega)
      have := h n e
      omega
theorem sumTo_le {c : Nat → Nat} {M : Nat} {k : Nat} : ∀ n, k < n → c k ≤ sumTo c n
  | 0, hk => by omega
  | n + 1, hk => by
    simp only [sumTo]
    by_cases e : n = k
    · subst e; omega
    · have := sumTo_le (c := c) (M := M) (k := k) n (by omega); omega
theorem sumTo_zero {c : Nat → Nat} (h : ∀ i, c i = 0) : ∀ n, sumTo c n = 0
  | 0 => rfl
  | n + 1 => by have := sumTo_zero h n; have := h n; simp only [sumTo]; omega
/-- numbers that are each counted once are at most all -/
theorem sumTo_list {c : Nat → Nat} : ∀ (n : Nat) (l : List Nat), l.Nodup → (∀ x ∈ l, x < n ∧ 1 ≤ c x) → l.length ≤ sumTo c n
  | 0, l, _, h => by
    cases l with
    | nil => exact Nat.le_refl _
    | cons a r => exact absurd (h a (by simp)).1 (by omega)
  | n + 1, l, hn, h => by
    simp only [sumTo]
    by_cases hm : n ∈ l
    · have h1 := sumTo_list (c := c) n (l.erase n) (hn.erase n) (fun x hx => by
        have h2 := h x (List.mem_of_mem_erase hx)
        have h3 : x ≠ n := fun e => by subst e; exact (List.Nodup.not_mem_erase hn) hx
        exact ⟨by omega, h2.2⟩)
      have h4 := List.length_erase_of_mem hm
      have := (h n hm).2
      omega
    · have := sumTo_list (c := c) n l hn (fun x hx => by
        have h2 := h x hx
        have h3 : x ≠ n := fun e => hm (e ▸ hx)
        exact ⟨by omega, h2.2⟩)
      omega

/-- how many segments there may be -/
def segMax : Nat := 1099511627776
/-- a sum over all segments -/
def over (c : Int → Nat) : Nat := sumTo (fun i => c ((i : Int) + 1)) segMax
theorem over_mono {c d : Int → Nat} (h : ∀ k, c k ≤ d k) : over c ≤ over d := sumTo_mono (fun _ => h _) _
theorem over_add {c d e : Int → Nat} (h : ∀ k, c k = d k + e k) : over c = over d + over e := sumTo_add (fun _ => h _) _
theorem over_zero {c : Int → Nat} (h : ∀ k, c k = 0) : over c = 0 := sumTo_zero (fun _ => h _) _
theorem over_one {c d : Int → Nat} {k : Int} (h1 : 1 ≤ k) (h2 : k ≤ 1099511627776) (h : ∀ j, j ≠ k → c j = d j) : over c + d k = over d + c k := by
  have e : ((k - 1).toNat : Int) + 1 = k := by omega
  have := sumTo_one (c := fun i => c ((i : Int) + 1)) (d := fun i => d ((i : Int) + 1)) (k := (k - 1).toNat) (fun i hi => h _ (by omega)) segMax (by unfold segMax; omega)
  simp only [e] at this
  exact this
theorem over_congr {c d : Int → Nat} (h : ∀ k, 1 ≤ k → c k = d k) : over c = over d := sumTo_congr fun i _ => h _ (by omega)
theorem over_list {c : Int → Nat} {l : List Int} (hn : l.Nodup) (h : ∀ x ∈ l, 1 ≤ x ∧ x ≤ 1099511627776 ∧ 1 ≤ c x) : l.length ≤ over c := by
  have h1 : (l.map fun x => (x - 1).toNat).Nodup := by
    unfold List.Nodup at hn ⊢
    rw [List.pairwise_map]
    refine List.Pairwise.imp_of_mem (fun {a b} ha hb hab => ?_) hn
    have := h a ha; have := h b hb
    omega
  have := sumTo_list (c := fun i => c ((i : Int) + 1)) segMax _ h1 (fun y hy => by
    obtain ⟨x, hx, rfl⟩ := List.mem_map.1 hy
    have h3 := h x hx
    refine ⟨by unfold segMax; omega, ?_⟩
    show 1 ≤ c (((x - 1).toNat : Int) + 1)
    rw [show ((x - 1).toNat : Int) + 1 = x by omega]
    exact h3.2.2)
  rw [List.length_map] at this
  exact this

/-- what is used: the bytes of all that are there, and 64 for each -/
def cost (o : Option (List Nat)) : Nat := match o with | some l => 64 + l.length | none => 0
def totS (f : Int → Option (List Nat)) : Nat := over fun k => cost (f k)

theorem tot_upd (f : Int → Option (List Nat)) {k : Int} (h1 : 1 ≤ k) (h2 : k ≤ 1099511627776) (v : Option (List Nat)) : totS (upd f k v) + cost (f k) = totS f + cost v := by
  have := over_one (c := fun j => cost (upd f k v j)) (d := fun j => cost (f j)) h1 h2 (fun j hj => by show cost (upd f k v j) = cost (f j); rw [upd_other _ _ hj])
  simp only [upd_same] at this
  exact this
theorem tot_mono {f g : Int → Option (List Nat)} (h : ∀ k, cost (f k) ≤ cost (g k)) : totS f ≤ totS g := over_mono h
theorem tot_le (f : Int → Option (List Nat)) {k : Int} (h1 : 1 ≤ k) (h2 : k ≤ 1099511627776) : cost (f k) ≤ totS f := by
  have := tot_upd f h1 h2 none
  simp only [cost] at this
  show cost (f k) ≤ _
  unfold cost
  omega

/-- one for each segment that is open to loss -/
def opn (s : St) (k : Int) : Nat := if s.there k = s.safe k then 0 else 1

/-- what every disk keeps to -/
structure Ok (s : St) : Prop where
  cap : s.cap ≤ 67108864
  tot : s.used = totS s.there
  big : s.used < 1152921504606846976
  seg : ∀ k, s.held k ≠ none → 1 ≤ k ∧ k ≤ 1099511627776
  pre : ∀ k l m, s.there k = some l → s.safe k = some m → m.length ≤ l.length ∧ l.take m.length = m
  len : ∀ k l, s.held k = some l → l.length ≤ 67108864
  left : ∀ n, s.left = some n → n ≤ 9223372036854775807

/-- how much it can have come to behind n steps -/
def Bud (n : Nat) (s : St) : Prop := over (opn s) ≤ n ∧ ∃ i r b : Nat, i * (i - 1) ≤ 2 * b ∧ b + r ≤ n ∧ totS s.safe ≤ i * 67108928 ∧ totS s.away ≤ r * 67108928 ∧ (totS s.there + totS s.away ≤ i * 67108928 ∨ totS s.there ≤ 67108928)

/-- what every disk keeps to behind n steps -/
structure Good (n : Nat) (s : St) : Prop where
  cap : s.cap ≤ 67108864
  tot : s.used = totS s.there
  seg : ∀ k, s.held k ≠ none → 1 ≤ k ∧ k ≤ 1099511627776
  pre : ∀ k l m, s.there k = some l → s.safe k = some m → m.length ≤ l.length ∧ l.take m.length = m
  len : ∀ k l, s.held k = some l → l.length ≤ 67108864
  left : ∀ n, s.left = some n → n ≤ 9223372036854775807
  bud : Bud n s

theorem cost_away (s : St) (k : Int) : cost (s.held k) = cost (s.there k) + cost (s.away k) := by
  unfold St.held St.away
  cases s.there k <;> simp [cost]
theorem tot_away (s : St) : totS s.held = totS s.there + totS s.away := over_add (cost_away s)
theorem tot_away_le (s : St) : totS s.away ≤ totS s.safe := tot_mono fun k => by
  unfold St.away
  cases s.there k <;> simp [cost]

theorem root {i n : Nat} (h : i * (i - 1) ≤ 2 * n) (hn : n ≤ 70368744177664) : i ≤ 16777216 := by
  rcases Nat.lt_or_ge 16777216 i with h1 | h1
  · have h2 : 16777217 * 16777216 ≤ i * (i - 1) := Nat.mul_le_mul (by omega) (by omega)
    omega
  · exact h1
theorem Bud.held {n : Nat} {s : St} (h : Bud n s) (hn : n ≤ 70368744177664) : totS s.there + totS s.away < 1152921504606846976 := by
  obtain ⟨_, i, r, b, h1, h2, h3, h4, h5⟩ := h
  have h6 := root h1 (by omega)
  have h7 := tot_away_le s
  have h8 : i * 67108928 ≤ 16777216 * 67108928 := Nat.mul_le_mul_right _ h6
  omega
theorem Good.ok {n : Nat} {s : St} (h : Good n s) (hn : n ≤ 70368744177664) : Ok s :=
  ⟨h.cap, h.tot, by have := h.bud.held hn; rw [h.tot]; omega, h.seg, h.pre, h.len, h.left⟩

theorem Bud.more {n m : Nat} {s : St} (h : Bud n s) (hm : n ≤ m) : Bud m s := by
  obtain ⟨h0, i, r, b, h1, h2, h3⟩ := h
  exact ⟨by omega, i, r, b, h1, by omega, h3⟩
theorem Good.more {n m : Nat} {s : St} (h : Good n s) (hm : n ≤ m) : Good m s := ⟨h.cap, h.tot, h.seg, h.pre, h.len, h.left, h.bud.more hm⟩

/-- views alone matter -/
theorem Good.with {n : Nat} {s t : St} (h : Good n s) (h1 : t.cap = s.cap) (h2 : t.used = s.used) (h3 : t.there = s.there) (h4 : t.safe = s.safe) (h5 : ∀ n, t.left = some n → n ≤ 9223372036854775807) : Good n t := by
  obtain ⟨a1, a2, a3, a4, a5, a6, a7⟩ := h
  obtain ⟨c, u, th, sa, le, d⟩ := t
  obtain ⟨c', u', th', sa', le', d'⟩ := s
  simp only at h1 h2 h3 h4 h5
  subst h1 h2 h3 h4
  exact ⟨a1, a2, a3, a4, a5, h5, a7⟩
theorem Good.spend {n : Nat} {s : St} (h : Good n s) : Good n s.spend.2 := by
  have hl := h.left
  unfold St.spend
  split
  · exact h
  · exact h.with rfl rfl rfl rfl hl
  · rename_i m e
    exact h.with rfl rfl rfl rfl fun n hn => by injection hn with hn; have := hl _ e; omega

/-- one segment that is there changes -/
theorem opn_upd {s t : St} {k : Int} (h1 : 1 ≤ k) (h2 : k ≤ 1099511627776) (h : ∀ j, j ≠ k → t.there j = s.there j ∧ t.safe j = s.safe j) : over (opn t) ≤ over (opn s) + 1 := by
  have := over_one (c := opn t) (d := opn s) h1 h2 (fun j hj => by unfold opn; rw [(h j hj).1, (h j hj).2])
  have : opn t k ≤ 1 := by unfold opn; split <;> omega
  omega

theorem Good.grow {n : Nat} {s t : St} {k : Int} {l : List Nat} (h : Good n s) (h1 : 1 ≤ k) (h2 : k ≤ 1099511627776) (hc : t.cap = s.cap) (hl : t.left = s.left) (ht : t.there = upd s.there k (some l)) (hs : t.safe = s.safe)
    (hu : t.used + cost (s.there k) = s.used + (64 + l.length)) (hr : t.used ≤ s.cap) (hp : ∀ m, s.safe k = some m → m.length ≤ l.length ∧ l.take m.length = m) : Good (n + 1) t := by
  have htot : t.used = totS t.there := by
    have := tot_upd s.there h1 h2 (some l)
    rw [ht]
    have := h.tot
    simp only [cost] at *
    omega
  have hcap := h.cap
  have hlen : l.length ≤ 67108864 := by
    have h3 := tot_le t.there h1 h2
    rw [ht, upd_same, ← ht, ← htot] at h3
    simp only [cost] at h3
    omega
  have hh : ∀ j, j ≠ k → t.held j = s.held j := fun j hj => by unfold St.held; rw [ht, hs, upd_other _ _ hj]
  refine ⟨by omega, htot, fun j hj => ?_, fun j a m ha hm => ?_, fun j a ha => ?_, by rw [hl]; exact h.left, ?_⟩
  · by_cases e : j = k
    · subst e; exact ⟨h1, h2⟩
    · rw [hh j e] at hj; exact h.seg j hj
  · rw [hs] at hm
    rw [ht] at ha
    by_cases e : j = k
    · subst e
      rw [upd_same] at ha
      injection ha with ha; subst ha
      exact hp m hm
    · rw [upd_other _ _ e] at ha
      exact h.pre j a m ha hm
  · by_cases e : j = k
    · subst e
      unfold St.held at ha
      rw [ht, upd_same] at ha
      injection ha with ha; subst ha
      exact hlen
    · rw [hh j e] at ha; exact h.len j a ha
  · obtain ⟨b0, i, r, b, b1, b2, b3, b4, b5⟩ := h.bud
    have ho := opn_upd (s := s) (t := t) h1 h2 fun j hj => ⟨by rw [ht, upd_other _ _ hj], by rw [hs]⟩
    refine ⟨by omega, i, r, b, b1, by omega, by rw [hs]; exact b3, Nat.le_trans (tot_mono fun j => ?_) b4, .inr (by rw [← htot]; omega)⟩
    unfold St.away
    rw [ht, hs]
    by_cases e : j = k
    · subst e; rw [upd_same]; simp [cost]
    · rw [upd_other _ _ e]; exact Nat.le_refl _

theorem Good.create {n : Nat} {s : St} (h : Good n s) (k : Int) : Good (n + 1) (s.create k).2 := by
  unfold St.create
  by_cases h1 : s.down = true
  · rw [if_pos h1]; exact h.more (Nat.le_succ _)
  rw [if_neg h1]
  by_cases h2 : k < 1 ∨ 1099511627776 < k
  · rw [if_pos h2]; exact h.more (Nat.le_succ _)
  rw [if_neg h2]
  by_cases h3 : s.held k ≠ none
  · rw [if_pos h3]; exact h.more (Nat.le_succ _)
  rw [if_neg h3]
  by_cases h4 : s.room < 64
  · rw [if_pos h4]; exact h.more (Nat.le_succ _)
  rw [if_neg h4]
  have h5 : s.there k = none ∧ s.safe k = none := by
    have h3' : s.held k = none := Classical.byContradiction h3
    unfold St.held at h3'
    cases e : s.there k with
    | none => rw [e] at h3'; exact ⟨rfl, h3'⟩
    | some l => rw [e] at h3'; cases h3'
  unfold St.room at h4
  refine (h.grow (t := { s with there := upd s.there k (some []), used := s.used + 64 }) (k := k) (l := []) (by omega) (by omega) rfl rfl rfl rfl ?_ ?_ ?_).spend
  · rw [h5.1]; simp [cost]
  · show s.used + 64 ≤ s.cap; omega
  · intro m hm; rw [h5.2] at hm; cases hm

theorem Good.append {n : Nat} {s : St} (h : Good n s) (k : Int) (b : List Nat) : Good (n + 1) (s.append k b).2 := by
  unfold St.append
  by_cases h1 : s.down = true
  · rw [if_pos h1]; exact h.more (Nat.le_succ _)
  rw [if_neg h1]
  cases ht : s.there k with
  | none => exact h.more (Nat.le_succ _)
  | some l =>
    show Good (n + 1) (if s.room < b.length then (54, s) else ({ s with there := upd s.there k (some (l ++ b)), used := s.used + b.length } : St).spend).2
    by_cases h4 : s.room < b.length
    · rw [if_pos h4]; exact h.more (Nat.le_succ _)
    rw [if_neg h4]
    unfold St.room at h4
    have hsg := h.seg k (by unfold St.held; rw [ht]; simp)
    have hpre := h.pre k l
    by_cases hb : b = []
    · subst hb
      have e : upd s.there k (some (l ++ [])) = s.there := by rw [List.append_nil, ← ht]; exact upd_id _ _
      rw [e]
      exact ((h.with (t := { s with there := s.there, used := s.used + ([] : List Nat).length }) rfl rfl rfl rfl h.left).more (Nat.le_succ _)).spend
    · have hpos : 0 < b.length := List.length_pos_iff.2 hb
      refine (h.grow (t := { s with there := upd s.there k (some (l ++ b)), used := s.used + b.length }) (k := k) (l := l ++ b) hsg.1 hsg.2 rfl rfl rfl rfl ?_ ?_ ?_).spend
      · rw [ht]; simp [cost]; omega
      · show s.used + b.length ≤ s.cap; omega
      · intro m hm
        have := hpre m ht hm
        exact ⟨by rw [List.length_append]; omega, by rw [List.take_append_of_le_length this.1]; exact this.2⟩

theorem Good.remove {n : Nat} {s : St} (h : Good n s) (k : Int) : Good (n + 1) (s.remove k).2 := by
  unfold St.remove
  by_cases h1 : s.down = true
  · rw [if_pos h1]; exact h.more (Nat.le_succ _)
  rw [if_neg h1]
  cases ht : s.there k with
  | none => exact h.more (Nat.le_succ _)
  | some l =>
    show Good (n + 1) ({ s with there := upd s.there k none, used := s.used - (64 + l.length) } : St).spend.2
    have hsg := h.seg k (by unfold St.held; rw [ht]; simp)
    have hpre := h.pre k l
    refine Good.spend ?_
    obtain ⟨t, et⟩ : ∃ t : St, t = { s with there := upd s.there k none, used := s.used - (64 + l.length) } := ⟨_, rfl⟩
    have e1 : t.there = upd s.there k none := by rw [et]
    have e2 : t.safe = s.safe := by rw [et]
    have e3 : t.used = s.used - (64 + l.length) := by rw [et]
    have e4 : t.cap = s.cap := by rw [et]
    have e5 : t.left = s.left := by rw [et]
    rw [← et]
    clear et
    have htu := tot_upd s.there hsg.1 hsg.2 none
    rw [ht] at htu
    have htl := tot_le s.there hsg.1 hsg.2
    rw [ht] at htl
    have hst := h.tot
    simp only [cost] at htu htl
    have htot : t.used = totS t.there := by rw [e1, e3]; omega
    have hcst : ∀ m, s.safe k = some m → cost (some m) ≤ cost (some l) := fun m hm => by
      have := hpre m ht hm
      simp only [cost]; omega
    have hlen := h.len k l (by unfold St.held; rw [ht])
    refine ⟨by rw [e4]; exact h.cap, htot, fun j hj => ?_, fun j a m ha hm => ?_, fun j a ha => ?_, by rw [e5]; exact h.left, ?_⟩
    · by_cases e : j = k
      · subst e; exact hsg
      · refine h.seg j ?_
        unfold St.held at hj ⊢
        rw [e1, e2, upd_other _ _ e] at hj
        exact hj
    · rw [e2] at hm
      rw [e1] at ha
      by_cases e : j = k
      · subst e; rw [upd_same] at ha; cases ha
      · rw [upd_other _ _ e] at ha; exact h.pre j a m ha hm
    · by_cases e : j = k
      · subst e
        unfold St.held at ha
        rw [e1, e2, upd_same] at ha
        have := hcst a ha
        simp only [cost] at this
        omega
      · refine h.len j a ?_
        unfold St.held at ha ⊢
        rw [e1, e2, upd_other _ _ e] at ha
        exact ha
    · obtain ⟨b0, i, r, b, b1, b2, b3, b4, b5⟩ := h.bud
      have ho := opn_upd (s := s) (t := t) hsg.1 hsg.2 fun j hj => ⟨by rw [e1, upd_other _ _ hj], by rw [e2]⟩
      have haw := over_one (c := fun j => cost (t.away j)) (d := fun j => cost (s.away j)) hsg.1 hsg.2 (fun j hj => by
        show cost (t.away j) = cost (s.away j)
        unfold St.away
        rw [e1, e2, upd_other _ _ hj])
      have ea : cost (s.away k) = 0 := by unfold St.away; rw [ht]; rfl
      have eb : cost (t.away k) ≤ 64 + l.length := by
        unfold St.away
        rw [e1, e2, upd_same]
        cases hs : s.safe k with
        | none => simp [cost]
        | some m => exact hcst m hs
      simp only [ea, Nat.add_zero] at haw
      have haw' : totS t.away = totS s.away + cost (t.away k) := haw
      refine ⟨by omega, i, r + 1, b, b1, by omega, by rw [e2]; exact b3, by rw [haw', Nat.add_mul]; omega, ?_⟩
      rw [e1]
      rcases b5 with b5 | b5
      · exact .inl (by omega)
      · exact .inr (by omega)

/-- all that is there is safe: a Sync, and a Crash -/
theorem Good.commit {n : Nat} {s t : St} (h : Good n s) (hc : t.cap = s.cap) (hs : t.safe = t.there) (hu : t.used = totS t.there) (hl : ∀ n, t.left = some n → n ≤ 9223372036854775807) (hle : ∀ k, cost (t.there k) ≤ cost (s.held k)) : Good (n + 1) t := by
  have hh : ∀ k, t.held k = t.there k := fun k => by unfold St.held; rw [hs]; cases t.there k <;> rfl
  have hwk : ∀ k, t.there k ≠ none → s.held k ≠ none := fun k h1 h2 => by
    have := hle k
    rw [h2] at this
    cases e : t.there k with
    | none => exact h1 e
    | some l => rw [e] at this; simp only [cost] at this; omega
  have ht : totS t.there ≤ totS s.there + totS s.away := by rw [← tot_away]; exact tot_mono hle
  refine ⟨by rw [hc]; exact h.cap, hu, fun k hk => h.seg k (hwk k (by rw [← hh]; exact hk)), fun k l m h1 h2 => ?_, fun k l hk => ?_, hl, ?_⟩
  · rw [hs, h1] at h2
    injection h2 with h2; subst h2
    exact ⟨Nat.le_refl _, List.take_length⟩
  · rw [hh] at hk
    have h1 := hle k
    rw [hk] at h1
    cases e : s.held k with
    | none => exact absurd e (hwk k (by rw [hk]; simp))
    | some m =>
      have h2 := h.len k m e
      rw [e] at h1
      simp only [cost] at h1
      omega
  · obtain ⟨b0, i, r, b, b1, b2, b3, b4, b5⟩ := h.bud
    have ho : over (opn t) = 0 := over_zero fun k => by unfold opn; rw [hs, if_pos rfl]
    have ha : totS t.away = 0 := over_zero fun k => by
      show cost (t.away k) = 0
      unfold St.away
      rw [hs]
      cases t.there k <;> rfl
    have hal := tot_away_le s
    by_cases hi : totS s.there + totS s.away ≤ i * 67108928
    · exact ⟨by omega, i, 0, n, by omega, by omega, by rw [hs]; omega, by omega, .inl (by omega)⟩
    · have b6 : totS s.there ≤ 67108928 := b5.resolve_left hi
      by_cases hr : r < i
      · exfalso
        have : (r + 1) * 67108928 ≤ i * 67108928 := Nat.mul_le_mul_right _ hr
        rw [Nat.add_mul] at this
        omega
      · refine ⟨by omega, i + 1, 0, n, ?_, by omega, by rw [hs, Nat.add_mul]; omega, by omega, .inl (by rw [Nat.add_mul]; omega)⟩
        have e1 : (i + 1) * (i + 1 - 1) = i * (i - 1) + 2 * i := by
          cases i with
          | zero => rfl
          | succ i =>
            simp only [Nat.add_sub_cancel]
            rw [Nat.add_mul (i + 1) 1 (i + 1), Nat.mul_add (i + 1) i 1]
            omega
        omega

theorem Good.sync {n : Nat} {s : St} (h : Good n s) : Good (n + 1) s.sync.2 := by
  have hle : ∀ k, cost (s.there k) ≤ cost (s.held k) := fun k => by rw [cost_away]; omega
  have hl := h.left
  unfold St.sync
  split
  · exact h.more (Nat.le_succ _)
  · split
    · exact h.commit rfl rfl h.tot hl hle
    · exact (h.with (t := { s with down := true }) rfl rfl rfl rfl hl).more (Nat.le_succ _)
    · rename_i m e
      exact h.commit rfl rfl h.tot (fun n hn => by injection hn with hn; have := hl _ e; omega) hle

theorem Good.arm {n : Nat} {s : St} (h : Good n s) {c : Int} (hc : c ≤ 9223372036854775807) : Good (n + 1) (s.arm c).2 := by
  unfold St.arm
  split
  · exact h.more (Nat.le_succ _)
  · split
    · exact h.more (Nat.le_succ _)
    · exact (h.with (t := { s with left := some c.toNat }) rfl rfl rfl rfl fun n hn => by injection hn with hn; omega).more (Nat.le_succ _)

theorem flip_take (l m : List Nat) (i x : Nat) (h2 : l.take m.length = m) : (flip l i x).take m.length = flip m i x := by
  unfold flip
  by_cases hi : i < m.length
  · rw [List.take_set, h2]
    congr 1
    rw [← h2]
    simp [List.getD, hi]
  · rw [List.take_set, h2, List.set_eq_of_length_le (by omega), List.set_eq_of_length_le (by omega)]

theorem cost_flip (o : Option (List Nat)) (i x : Nat) : cost (o.map fun l => flip l i x) = cost o := by cases o <;> simp [cost, flip_length]

theorem Good.turn {n : Nat} {s : St} (h : Good n s) (k : Int) (i x : Nat) : Good n (s.turn k i x) := by
  have ct : ∀ j, cost ((s.turn k i x).there j) = cost (s.there j) := fun j => by
    show cost (upd s.there k _ j) = _
    by_cases e : j = k
    · subst e; rw [upd_same, cost_flip]
    · rw [upd_other _ _ e]
  have cs : ∀ j, cost ((s.turn k i x).safe j) = cost (s.safe j) := fun j => by
    show cost (upd s.safe k _ j) = _
    by_cases e : j = k
    · subst e; rw [upd_same, cost_flip]
    · rw [upd_other _ _ e]
  have hh : ∀ j, (s.turn k i x).held j = if j = k then (s.held j).map (fun l => flip l i x) else s.held j := fun j => by
    unfold St.held
    show (match upd s.there k _ j with | some l => some l | none => upd s.safe k _ j) = _
    by_cases e : j = k
    · subst e
      rw [upd_same, upd_same, if_pos rfl]
      cases s.there j <;> rfl
    · rw [upd_other _ _ e, upd_other _ _ e, if_neg e]
  have ca : ∀ j, cost ((s.turn k i x).away j) = cost (s.away j) := fun j => by
    have h1 := cost_away (s.turn k i x) j
    have h2 := cost_away s j
    rw [ct, hh] at h1
    split at h1
    · rw [cost_flip] at h1; omega
    · omega
  have tt : totS (s.turn k i x).there = totS s.there := Nat.le_antisymm (tot_mono fun j => by rw [ct]; exact Nat.le_refl _) (tot_mono fun j => by rw [ct]; exact Nat.le_refl _)
  have ts : totS (s.turn k i x).safe = totS s.safe := Nat.le_antisymm (tot_mono fun j => by rw [cs]; exact Nat.le_refl _) (tot_mono fun j => by rw [cs]; exact Nat.le_refl _)
  have ta : totS (s.turn k i x).away = totS s.away := Nat.le_antisymm (tot_mono fun j => by rw [ca]; exact Nat.le_refl _) (tot_mono fun j => by rw [ca]; exact Nat.le_refl _)
  refine ⟨h.cap, by rw [tt]; exact h.tot, fun j hj => h.seg j ?_, fun j l m hl hm => ?_, fun j l hl => ?_, h.left, ?_⟩
  · rw [hh] at hj
    split at hj
    · intro e; rw [e] at hj; exact hj rfl
    · exact hj
  · have hl' : upd s.there k ((s.there k).map fun l => flip l i x) j = some l := hl
    have hm' : upd s.safe k ((s.safe k).map fun l => flip l i x) j = some m := hm
    by_cases e : j = k
    · subst e
      rw [upd_same] at hl' hm'
      obtain ⟨l0, h1, rfl⟩ := Option.map_eq_some_iff.1 hl'
      obtain ⟨m0, h2, rfl⟩ := Option.map_eq_some_iff.1 hm'
      obtain ⟨h3, h4⟩ := h.pre j l0 m0 h1 h2
      rw [flip_length, flip_length]
      exact ⟨h3, flip_take l0 m0 i x h4⟩
    · rw [upd_other _ _ e] at hl' hm'
      exact h.pre j l m hl' hm'
  · rw [hh] at hl
    split at hl
    · obtain ⟨l0, h1, rfl⟩ := Option.map_eq_some_iff.1 hl
      rw [flip_length]
      exact h.len j l0 h1
    · exact h.len j l hl
  · obtain ⟨b0, i', r, b, b1, b2, b3, b4, b5⟩ := h.bud
    refine ⟨Nat.le_trans (over_mono fun j => ?_) b0, i', r, b, b1, b2, by rw [ts]; exact b3, by rw [ta]; exact b4, by rw [tt, ta]; exact b5⟩
    unfold opn
    by_cases e : s.there j = s.safe j
    · rw [if_pos e, if_pos]
      · exact Nat.le_refl _
      · show upd s.there k _ j = upd s.safe k _ j
        by_cases e' : j = k
        · subst e'; rw [upd_same, upd_same, e]
        · rw [upd_other _ _ e', upd_other _ _ e', e]
    · rw [if_neg e]
      split <;> omega

theorem Good.spoil {n : Nat} {s : St} (h : Good n s) (k a : Int) (x : Nat) : Good (n + 1) (s.spoil k a x).2 := by
  refine Good.more ?_ (Nat.le_succ _)
  unfold St.spoil
  split
  · exact h
  · split
    · exact h
    · split
      · exact h
      · exact h.turn k _ x

theorem cost_struck (t s : Option (List Nat)) (f : Nat) : cost (struck t s f) ≤ cost (match t with | some l => some l | none => s) := by
  unfold struck
  cases t with
  | none => simp only; split <;> simp [cost]
  | some l =>
    cases s with
    | none => simp only; split <;> simp [cost, List.length_take, Nat.min_le_right]
    | some m => simp [cost, List.length_take, Nat.min_le_right]

/-- a fate's number -/
def fateN (z : List Int) (i : Nat) : Nat := (z.getD i 0).toNat

/-- what a Crash makes of a disk -/
structure Crash (s : St) (z : List Int) (t : St) : Prop where
  ex : ∃ os : List Int, os.Pairwise (· < ·) ∧ (∀ k, k ∈ os ↔ s.there k ≠ s.safe k) ∧ ∀ k, t.there k = struck (s.there k) (s.safe k) (fateN z (os.idxOf k))
  safe : t.safe = t.there
  cap : t.cap = s.cap
  used : t.used = totS t.there
  left : t.left = none
  down : t.down = false

theorem Good.crash {n : Nat} {s t : St} {z : List Int} (h : Good n s) (hc : Crash s z t) : Good (n + 1) t := by
  obtain ⟨os, _, _, h3⟩ := hc.ex
  refine h.commit hc.cap hc.safe hc.used (fun n hn => by rw [hc.left] at hn; cases hn) fun k => ?_
  rw [h3]
  exact cost_struck _ _ _

/-- a new disk -/
def St.new (c : Nat) : St := ⟨c, 0, fun _ => none, fun _ => none, none, false⟩
theorem Good.new {c : Nat} (hc : c ≤ 67108864) : Good 0 (St.new c) := by
  have h0 : totS (fun _ => none) = 0 := over_zero fun _ => rfl
  refine ⟨hc, h0.symm, (fun k hk => absurd rfl hk), (fun k l m h => by cases h), (fun k l h => by cases h), (fun n h => by cases h), Nat.le_of_eq (over_zero fun k => rfl), 0, 0, 0, Nat.le_refl _, Nat.le_refl _, ?_, ?_, .inl ?_⟩
  · exact Nat.le_of_eq (over_zero fun _ => rfl)
  · exact Nat.le_of_eq (over_zero fun _ => rfl)
  · have h1 : totS (St.new c).away = 0 := over_zero fun _ => rfl
    have h2 : totS (St.new c).there = 0 := h0
    omega

end Go.Proofs.Ytilpidioengnbaa
