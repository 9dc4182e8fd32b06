/- Package run: the mathematics of a run: outlooks, what settles on, how a run may stand. -/
namespace Go.Proofs.Ytiackejbpcjmeaa
namespace Rn

/-- a node of a plan, as a run sees it -/
structure Nx where
  bu : Int
  nl : List Int
  al : List Int
/-- a node of a run -/
structure Pt where
  st : Int
  tr : Int
  rs : List Nat

def doneS (s : Int) : Bool := decide (s = 5)
def lostS (s : Int) : Bool := decide (s = 6) || decide (s = 7)
def setS (s : Int) : Bool := doneS s || lostS s
def sAt (ss : List Int) (e : Int) : Int := (ss[e.toNat]?).getD 0
def outl (ss : List Int) (x : Nx) : Int :=
  if x.nl.any (fun e => lostS (sAt ss e)) then 2 else if x.nl.any (fun e => !doneS (sAt ss e)) || x.al.any (fun e => !setS (sAt ss e)) then 0 else 1
def qual (xs : List Nx) (how : Int) (ss : List Int) (i : Nat) : Bool := match xs[i]? with
  | some x => decide (sAt ss i = 1) && decide (outl ss x = how)
  | none => false
def leastN (xs : List Nx) (how : Int) (ss : List Int) : Option Nat := (List.range xs.length).find? (qual xs how ss)
def turnF (xs : List Nx) (how st : Int) : Nat → List Int → List Nat × List Int
  | 0, ss => ([], ss)
  | f + 1, ss => match leastN xs how ss with
    | none => ([], ss)
    | some t => (t :: (turnF xs how st f (ss.set t st)).1, (turnF xs how st f (ss.set t st)).2)

theorem outl_cases (ss : List Int) (x : Nx) : outl ss x = 0 ∨ outl ss x = 1 ∨ outl ss x = 2 := by
  unfold outl
  split
  · exact .inr (.inr rfl)
  · split
    · exact .inl rfl
    · exact .inr (.inl rfl)
theorem outl_two {ss : List Int} {x : Nx} : outl ss x = 2 ↔ ∃ e ∈ x.nl, lostS (sAt ss e) = true := by
  unfold outl
  split
  · rename_i h; simp only [List.any_eq_true] at h; simp [h]
  · rename_i h
    simp only [List.any_eq_true] at h
    constructor
    · intro g; split at g <;> cases g
    · intro g; exact absurd g h
theorem done_not_lost {s : Int} (h : doneS s = true) : lostS s = false := by
  unfold doneS at h; unfold lostS
  simp at h; subst h; rfl
theorem outl_one {ss : List Int} {x : Nx} : outl ss x = 1 ↔ (∀ e ∈ x.nl, doneS (sAt ss e) = true) ∧ ∀ e ∈ x.al, setS (sAt ss e) = true := by
  constructor
  · intro h
    unfold outl at h
    split at h
    · cases h
    · split at h
      · cases h
      · rename_i h2
        simp only [Bool.or_eq_true, List.any_eq_true, not_or, not_exists, not_and, Bool.not_eq_true', Bool.not_eq_false] at h2
        exact h2
  · rintro ⟨h1, h2⟩
    unfold outl
    rw [if_neg, if_neg]
    · simp only [Bool.or_eq_true, List.any_eq_true, not_or, not_exists, not_and, Bool.not_eq_true', Bool.not_eq_false]
      exact ⟨h1, h2⟩
    · simp only [List.any_eq_true, not_exists, not_and]
      intro e he hl
      rw [done_not_lost (h1 e he)] at hl
      cases hl
theorem sAt_lt {ss : List Int} {i : Nat} {v : Int} (h : ss[i]? = some v) : sAt ss i = v := by
  unfold sAt; simp [h]
theorem sAt_set {ss : List Int} {t : Nat} {v : Int} (ht : t < ss.length) (e : Int) : sAt (ss.set t v) e = if e.toNat = t then v else sAt ss e := by
  unfold sAt
  rw [List.getElem?_set]
  by_cases h : t = e.toNat
  · subst h; simp [ht]
  · rw [if_neg h, if_neg (Ne.symm h)]
theorem sAt_set_ne {ss : List Int} {t : Nat} {v : Int} {e : Int} (h : e.toNat ≠ t) : sAt (ss.set t v) e = sAt ss e := by
  unfold sAt
  rw [List.getElem?_set, if_neg (Ne.symm h)]

theorem leastN_some {xs : List Nx} {how : Int} {ss : List Int} {i : Nat} : leastN xs how ss = some i ↔ i < xs.length ∧ qual xs how ss i = true ∧ ∀ j, j < i → qual xs how ss j = false := by
  unfold leastN
  rw [List.find?_range_eq_some]
  constructor
  · rintro ⟨h1, h2, h3⟩; exact ⟨by simpa using h2, h1, fun j hj => by simpa using h3 j hj⟩
  · rintro ⟨h1, h2, h3⟩; exact ⟨h2, by simpa using h1, fun j hj => by simpa using h3 j hj⟩
theorem leastN_none {xs : List Nx} {how : Int} {ss : List Int} : leastN xs how ss = none ↔ ∀ j, j < xs.length → qual xs how ss j = false := by
  unfold leastN
  simp [List.find?_eq_none]
theorem qual_true {xs : List Nx} {how : Int} {ss : List Int} {i : Nat} : qual xs how ss i = true ↔ ∃ x, xs[i]? = some x ∧ sAt ss i = 1 ∧ outl ss x = how := by
  unfold qual
  split
  · rename_i x h; simp [h]
  · rename_i h; simp [h]
theorem qual_at {xs : List Nx} {how : Int} {ss : List Int} {i : Nat} {x : Nx} (h : xs[i]? = some x) : qual xs how ss i = (decide (sAt ss i = 1) && decide (outl ss x = how)) := by unfold qual; rw [h]

/-- how many nodes wait -/
def wtn (ss : List Int) : Nat := ss.countP (fun s => decide (s = 1))
theorem wtn_le (ss : List Int) : wtn ss ≤ ss.length := List.countP_le_length
theorem wtn_set : ∀ {ss : List Int} {t : Nat} {v : Int}, ss[t]? = some 1 → v ≠ 1 → wtn (ss.set t v) + 1 = wtn ss
  | [], _, _, h, _ => by simp at h
  | s :: ss, 0, v, h, hv => by
    simp at h; subst h
    unfold wtn
    simp [hv]
  | s :: ss, t + 1, v, h, hv => by
    have := wtn_set (ss := ss) (t := t) (v := v) (by simpa using h) hv
    unfold wtn at this ⊢
    simp only [List.set_cons_succ, List.countP_cons]
    omega
theorem sAt_one {ss : List Int} {i : Nat} (h : sAt ss i = 1) : ss[i]? = some 1 := by
  unfold sAt at h
  simp only [Int.toNat_natCast] at h
  cases h' : ss[i]? with
  | none => rw [h'] at h; cases h
  | some v => rw [h'] at h; simp at h; rw [h]

/-- who waited may have come to be ready or skipped; all else is as it was -/
def Adv (ss ss' : List Int) : Prop := ss'.length = ss.length ∧ ∀ e, sAt ss' e = sAt ss e ∨ sAt ss e = 1 ∧ (sAt ss' e = 2 ∨ sAt ss' e = 7)
theorem Adv.refl (ss : List Int) : Adv ss ss := ⟨rfl, fun _ => .inl rfl⟩
theorem Adv.trans {a b c : List Int} (h : Adv a b) (k : Adv b c) : Adv a c := by
  refine ⟨k.1.trans h.1, fun e => ?_⟩
  rcases k.2 e with k1 | ⟨k1, k2⟩
  · rw [k1]; exact h.2 e
  · rcases h.2 e with h1 | ⟨h1, h2⟩
    · rw [h1] at k1; exact .inr ⟨k1, k2⟩
    · rw [k1] at h2; rcases h2 with h2 | h2 <;> cases h2
theorem Adv.set {ss : List Int} {t : Nat} {v : Int} (h : sAt ss t = 1) (hv : v = 2 ∨ v = 7) : Adv ss (ss.set t v) := by
  have ht : t < ss.length := (List.getElem?_eq_some_iff.1 (sAt_one h)).1
  refine ⟨by simp, fun e => ?_⟩
  rw [sAt_set ht]
  by_cases c : e.toNat = t
  · rw [if_pos c]
    refine .inr ⟨?_, hv⟩
    have : sAt ss e = sAt ss (t : Int) := by unfold sAt; rw [c]; simp
    rw [this]; exact h
  · rw [if_neg c]; exact .inl rfl
theorem Adv.done {a b : List Int} (h : Adv a b) {e : Int} : doneS (sAt b e) = doneS (sAt a e) := by
  rcases h.2 e with h1 | ⟨h1, h2⟩
  · rw [h1]
  · rw [h1]; rcases h2 with h2 | h2 <;> rw [h2] <;> rfl
theorem Adv.lost {a b : List Int} (h : Adv a b) {e : Int} (hl : lostS (sAt a e) = true) : lostS (sAt b e) = true := by
  rcases h.2 e with h1 | ⟨h1, h2⟩
  · rw [h1]; exact hl
  · rw [h1] at hl; cases hl
theorem Adv.settled {a b : List Int} (h : Adv a b) {e : Int} (hl : setS (sAt a e) = true) : setS (sAt b e) = true := by
  unfold setS at hl ⊢
  rw [h.done]
  rw [Bool.or_eq_true] at hl
  rcases hl with h1 | h1
  · rw [h1]; rfl
  · rw [h.lost h1]; simp
theorem Adv.outl1 {a b : List Int} (h : Adv a b) {x : Nx} (hx : outl a x = 1) : outl b x = 1 := by
  rw [outl_one] at hx ⊢
  exact ⟨fun e he => by rw [h.done]; exact hx.1 e he, fun e he => h.settled (hx.2 e he)⟩
theorem Adv.outl2 {a b : List Int} (h : Adv a b) {x : Nx} (hx : outl a x = 2) : outl b x = 2 := by
  rw [outl_two] at hx ⊢
  obtain ⟨e, he, hl⟩ := hx
  exact ⟨e, he, h.lost hl⟩

/-- what a turn leaves -/
theorem turnF_adv {xs : List Nx} {how st : Int} (hs : st = 2 ∨ st = 7) : ∀ (f : Nat) (ss : List Int), Adv ss (turnF xs how st f ss).2
  | 0, ss => Adv.refl _
  | f + 1, ss => by
    unfold turnF
    cases h : leastN xs how ss with
    | none => exact Adv.refl _
    | some t =>
      obtain ⟨_, h2, _⟩ := leastN_some.1 h
      obtain ⟨x, _, h4, _⟩ := qual_true.1 h2
      exact (Adv.set h4 hs).trans (turnF_adv hs f _)
theorem turnF_none {xs : List Nx} {how st : Int} (hs : st ≠ 1) : ∀ (f : Nat) (ss : List Int), wtn ss ≤ f → leastN xs how (turnF xs how st f ss).2 = none
  | 0, ss, h => by
    unfold turnF
    rw [leastN_none]
    intro j _
    cases hq : qual xs how ss j with
    | false => rfl
    | true =>
      obtain ⟨x, _, h4, _⟩ := qual_true.1 hq
      have := sAt_one h4
      have hm := List.mem_of_getElem? this
      have : 0 < wtn ss := List.countP_pos_iff.2 ⟨1, hm, by simp⟩
      omega
  | f + 1, ss, h => by
    unfold turnF
    cases hl : leastN xs how ss with
    | none => exact hl
    | some t =>
      obtain ⟨_, h2, _⟩ := leastN_some.1 hl
      obtain ⟨x, _, h4, _⟩ := qual_true.1 h2
      have := wtn_set (sAt_one h4) hs
      exact turnF_none hs f _ (by omega)
/-- who was turned stood so, by what stands then too -/
theorem turnF_how {xs : List Nx} {how st : Int} (hs : st = 2 ∧ how = 1 ∨ st = 7 ∧ how = 2) : ∀ (f : Nat) (ss : List Int) (e : Int) (x : Nx), xs[e.toNat]? = some x → sAt ss e = 1 → sAt (turnF xs how st f ss).2 e ≠ 1 → sAt (turnF xs how st f ss).2 e = st ∧ outl (turnF xs how st f ss).2 x = how
  | 0, ss, e, x, _, h1, h2 => absurd h1 h2
  | f + 1, ss, e, x, hx, h1, h2 => by
    unfold turnF at h2 ⊢
    cases hl : leastN xs how ss with
    | none => rw [hl] at h2; exact absurd h1 h2
    | some t =>
      rw [hl] at h2
      obtain ⟨_, q2, _⟩ := leastN_some.1 hl
      obtain ⟨y, hy, h4, h5⟩ := qual_true.1 q2
      have hst : st = 2 ∨ st = 7 := by rcases hs with h | h <;> simp [h.1]
      have ht : t < ss.length := (List.getElem?_eq_some_iff.1 (sAt_one h4)).1
      have A := turnF_adv (xs := xs) (how := how) hst f (ss.set t st)
      have A0 := Adv.set h4 hst
      by_cases c : e.toNat = t
      · have e1 : sAt (ss.set t st) e = st := by rw [sAt_set ht, if_pos c]
        have hxy : x = y := by rw [c] at hx; exact Option.some.inj (hx.symm.trans hy)
        subst hxy
        refine ⟨?_, ?_⟩
        · rcases A.2 e with q | ⟨q, _⟩
          · exact q.trans e1
          · rw [e1] at q; rcases hst with h | h <;> rw [h] at q <;> cases q
        · rcases hs with ⟨_, h⟩ | ⟨_, h⟩
          · subst h; exact A.outl1 (A0.outl1 h5)
          · subst h; exact A.outl2 (A0.outl2 h5)
      · have e1 : sAt (ss.set t st) e = 1 := by rw [sAt_set ht, if_neg c]; exact h1
        exact turnF_how hs f _ e x hx e1 h2

/-- each node has followed the others -/
def OH (xs : List Nx) (ss : List Int) : Prop := ∀ i x, xs[i]? = some x → (sAt ss (i : Nat) = 7 ↔ outl ss x = 2) ∧ (sAt ss (i : Nat) = 1 ↔ outl ss x = 0)
/-- .. but for those that wait -/
def Nearly (xs : List Nx) (ss : List Int) : Prop := ∀ i x, xs[i]? = some x → (sAt ss (i : Nat) = 7 → outl ss x = 2) ∧ (sAt ss (i : Nat) ≠ 1 → sAt ss (i : Nat) ≠ 7 → outl ss x = 1)
theorem OH.nearly {xs : List Nx} {ss : List Int} (h : OH xs ss) : Nearly xs ss := fun i x hx => by
  obtain ⟨h1, h2⟩ := h i x hx
  refine ⟨h1.1, fun g1 g2 => ?_⟩
  rcases outl_cases ss x with c | c | c
  · exact absurd (h2.2 c) g1
  · exact c
  · exact absurd (h1.2 c) g2
/-- what settles on: the states, who is skipped, who is ready -/
def settle (xs : List Nx) (ss : List Int) : List Nat × List Nat × List Int :=
  ((turnF xs 2 7 xs.length ss).1, (turnF xs 1 2 xs.length (turnF xs 2 7 xs.length ss).2).1, (turnF xs 1 2 xs.length (turnF xs 2 7 xs.length ss).2).2)
theorem outl_same {a b : List Int} {x : Nx} (h : ∀ e, doneS (sAt b e) = doneS (sAt a e) ∧ lostS (sAt b e) = lostS (sAt a e)) : outl b x = outl a x := by
  unfold outl setS
  simp only [(h _).1, (h _).2]
theorem settle_adv (xs : List Nx) (ss : List Int) : Adv ss (settle xs ss).2.2 := (turnF_adv (.inr rfl) _ _).trans (turnF_adv (.inl rfl) _ _)
theorem settle_oh {xs : List Nx} {ss : List Int} (hl : ss.length = xs.length) (h : Nearly xs ss) : OH xs (settle xs ss).2.2 := by
  unfold settle
  simp only
  have A1 := turnF_adv (xs := xs) (how := 2) (st := 7) (.inr rfl) xs.length ss
  have N1 := turnF_none (xs := xs) (how := 2) (st := 7) (by decide) xs.length ss (by have := wtn_le ss; omega)
  have H1 := turnF_how (xs := xs) (how := 2) (st := 7) (.inr ⟨rfl, rfl⟩) xs.length ss
  generalize (turnF xs 2 7 xs.length ss).2 = s1 at *
  have A2 := turnF_adv (xs := xs) (how := 1) (st := 2) (.inl rfl) xs.length s1
  have N2 := turnF_none (xs := xs) (how := 1) (st := 2) (by decide) xs.length s1 (by have := wtn_le s1; have := A1.1; omega)
  have H2 := turnF_how (xs := xs) (how := 1) (st := 2) (.inl ⟨rfl, rfl⟩) xs.length s1
  generalize (turnF xs 1 2 xs.length s1).2 = s2 at *
  have lt : ∀ {i : Nat} {x : Nx}, xs[i]? = some x → i < xs.length := fun h => (List.getElem?_eq_some_iff.1 h).1
  have near1 : Nearly xs s1 := by
    intro i x hx
    by_cases c : sAt ss (i : Nat) = 1
    · by_cases d : sAt s1 (i : Nat) = 1
      · exact ⟨fun g => (by rw [d] at g; cases g), fun g => absurd d g⟩
      · obtain ⟨q1, q2⟩ := H1 (i : Nat) x (by simpa using hx) c d
        exact ⟨fun _ => q2, fun _ g => absurd q1 g⟩
    · have e : sAt s1 (i : Nat) = sAt ss (i : Nat) := (A1.2 _).resolve_right fun g => c g.1
      obtain ⟨q1, q2⟩ := h i x hx
      rw [e]
      exact ⟨fun g => A1.outl2 (q1 g), fun g1 g2 => A1.outl1 (q2 g1 g2)⟩
  -- the second turn skips nobody: outlooks stay
  have S2 : ∀ e, sAt s2 e = sAt s1 e ∨ sAt s1 e = 1 ∧ sAt s2 e = 2 := by
    intro e
    rcases A2.2 e with q | ⟨q1, q2⟩
    · exact .inl q
    · refine .inr ⟨q1, ?_⟩
      by_cases hi : e.toNat < xs.length
      · exact (H2 e _ (List.getElem?_eq_getElem hi) q1 (by rcases q2 with q | q <;> rw [q] <;> decide)).1
      · have : sAt s1 e = 0 := by
          unfold sAt
          have : s1[e.toNat]? = none := by simp; have := A1.1; omega
          rw [this]; rfl
        rw [this] at q1; cases q1
  have O2 : ∀ x : Nx, outl s2 x = outl s1 x := fun x => outl_same fun e => by
    rcases S2 e with q | ⟨q1, q2⟩
    · rw [q]; exact ⟨rfl, rfl⟩
    · rw [q1, q2]; exact ⟨rfl, rfl⟩
  intro i x hx
  have hi := lt hx
  rw [O2]
  have n1 : sAt s1 (i : Nat) = 1 → outl s1 x ≠ 2 := fun g1 g2 => by
    have := leastN_none.1 N1 i hi
    rw [qual_at hx, g1, g2] at this
    simp at this
  have n2 : sAt s2 (i : Nat) = 1 → outl s1 x ≠ 1 := fun g1 g2 => by
    have := leastN_none.1 N2 i hi
    rw [qual_at hx, g1, O2, g2] at this
    simp at this
  obtain ⟨q1, q2⟩ := near1 i x hx
  have s7 : sAt s2 (i : Nat) = 7 ↔ sAt s1 (i : Nat) = 7 := by
    rcases S2 (i : Nat) with q | ⟨q, r⟩
    · rw [q]
    · rw [q, r]; decide
  refine ⟨⟨fun g => q1 (s7.1 g), fun g => s7.2 ?_⟩, ⟨fun g => ?_, fun g => ?_⟩⟩
  · by_cases c : sAt s1 (i : Nat) = 1
    · exact absurd g (n1 c)
    · by_cases d : sAt s1 (i : Nat) = 7
      · exact d
      · have := q2 c d; rw [this] at g; cases g
  · have hs1 : sAt s1 (i : Nat) = 1 := by
      rcases S2 (i : Nat) with q | ⟨q, r⟩
      · rw [← q]; exact g
      · exact q
    rcases outl_cases s1 x with c | c | c
    · exact c
    · exact absurd c (n2 g)
    · exact absurd c (n1 hs1)
  · have hs1 : sAt s1 (i : Nat) = 1 := by
      by_cases c : sAt s1 (i : Nat) = 1
      · exact c
      · by_cases d : sAt s1 (i : Nat) = 7
        · have := q1 d; rw [this] at g; cases g
        · have := q2 c d; rw [this] at g; cases g
    rcases S2 (i : Nat) with q | ⟨q, r⟩
    · rw [q]; exact hs1
    · have hne : sAt s2 (i : Nat) ≠ 1 := by rw [r]; decide
      have := (H2 (i : Nat) x (by simpa using hx) hs1 hne).2
      rw [O2] at this
      rw [this] at g; cases g
/-- one node that was handed out, or backs off, goes on -/
theorem OH.go {xs : List Nx} {ss : List Int} (h : OH xs ss) {t : Nat} {v : Int} (hc : sAt ss (t : Nat) = 2 ∨ sAt ss (t : Nat) = 3 ∨ sAt ss (t : Nat) = 4) (hv : v ≠ 1 ∧ v ≠ 7) : Nearly xs (ss.set t v) := by
  have ht : t < ss.length := by
    refine Nat.lt_of_not_le fun hl => ?_
    have : sAt ss (t : Nat) = 0 := by unfold sAt; simp [hl]
    rw [this] at hc
    rcases hc with h | h | h <;> cases h
  have hun : lostS (sAt ss (t : Nat)) = false ∧ doneS (sAt ss (t : Nat)) = false := by rcases hc with h | h | h <;> rw [h] <;> exact ⟨rfl, rfl⟩
  have same : ∀ e : Int, e.toNat ≠ t → sAt (ss.set t v) e = sAt ss e := fun e he => sAt_set_ne he
  have at_t : ∀ e : Int, e.toNat = t → sAt ss e = sAt ss (t : Nat) := fun e he => by unfold sAt; rw [he]; simp
  intro i x hx
  obtain ⟨h7, h1⟩ := h i x hx
  have near := h.nearly i x hx
  have key1 : outl ss x = 1 → outl (ss.set t v) x = 1 := by
    intro g
    rw [outl_one] at g ⊢
    refine ⟨fun e he => ?_, fun e he => ?_⟩
    · have hd := g.1 e he
      have hne : e.toNat ≠ t := fun hh => by rw [at_t e hh, hun.2] at hd; cases hd
      rw [same e hne]; exact hd
    · have hd := g.2 e he
      have hne : e.toNat ≠ t := fun hh => by rw [at_t e hh] at hd; unfold setS at hd; rw [hun.1, hun.2] at hd; cases hd
      rw [same e hne]; exact hd
  have key2 : outl ss x = 2 → outl (ss.set t v) x = 2 := by
    intro g
    rw [outl_two] at g ⊢
    obtain ⟨e, he, hl⟩ := g
    have hne : e.toNat ≠ t := fun hh => by rw [at_t e hh, hun.1] at hl; cases hl
    exact ⟨e, he, by rw [same e hne]; exact hl⟩
  by_cases c : i = t
  · subst c
    have e1 : sAt (ss.set i v) (i : Nat) = v := by rw [sAt_set ht, if_pos (by simp)]
    rw [e1]
    refine ⟨fun g => absurd g hv.2, fun _ _ => key1 (near.2 ?_ ?_)⟩
    · rcases hc with h | h | h <;> rw [h] <;> decide
    · rcases hc with h | h | h <;> rw [h] <;> decide
  · rw [same (i : Nat) (by simpa using c)]
    exact ⟨fun g => key2 (near.1 g), fun g1 g2 => key1 (near.2 g1 g2)⟩

theorem nearly_new (xs : List Nx) : Nearly xs (List.replicate xs.length 1) := fun i x hx => by
  have : sAt (List.replicate xs.length 1) (i : Nat) = 1 := by
    unfold sAt; simp [(List.getElem?_eq_some_iff.1 hx).1]
  rw [this]
  exact ⟨fun g => (by cases g), fun g => absurd rfl g⟩
end Rn
end Go.Proofs.Ytiackejbpcjmeaa

/- Package run: the mathematics of a run: its steps, and that it may stand behind each. -/
namespace Go.Proofs.Ytiackejbpcjmeaa
namespace Rn

structure Rs where
  stt : Int
  ps : List Pt
structure Chg where
  dead : List Nat
  skip : List Nat
  rdy : List Nat
  stt : Int
def Chg.none : Chg := ⟨[], [], [], 0⟩

def sts (ps : List Pt) : List Int := ps.map Pt.st
def withS (ps : List Pt) (ss : List Int) : List Pt := List.zipWith (fun p s => { p with st := s }) ps ss
theorem sts_length (ps : List Pt) : (sts ps).length = ps.length := by simp [sts]
theorem withS_length (ps : List Pt) (ss : List Int) (h : ss.length = ps.length) : (withS ps ss).length = ps.length := by simp [withS, h]
theorem withS_at {ps : List Pt} {ss : List Int} {i : Nat} {p : Pt} {s : Int} (hp : ps[i]? = some p) (hs : ss[i]? = some s) : (withS ps ss)[i]? = some { p with st := s } := by unfold withS; rw [List.getElem?_zipWith, hp, hs]
theorem sts_at {ps : List Pt} {i : Nat} {p : Pt} (h : ps[i]? = some p) : (sts ps)[i]? = some p.st := by simp [sts, h]
theorem sAt_sts {ps : List Pt} {i : Nat} {p : Pt} (h : ps[i]? = some p) : sAt (sts ps) (i : Nat) = p.st := sAt_lt (sts_at h)
theorem sts_withS {ps : List Pt} {ss : List Int} (h : ss.length = ps.length) : sts (withS ps ss) = ss := by
  refine List.ext_getElem? fun i => ?_
  by_cases hi : i < ps.length
  · have hp : ps[i]? = some ps[i] := List.getElem?_eq_getElem hi
    have hs : ss[i]? = some (ss[i]'(by omega)) := List.getElem?_eq_getElem _
    rw [sts_at (withS_at hp hs), hs]
  · rw [List.getElem?_eq_none (by rw [sts_length, withS_length _ _ h]; omega), List.getElem?_eq_none (by omega)]
theorem withS_sts (ps : List Pt) : withS ps (sts ps) = ps := by
  refine List.ext_getElem? fun i => ?_
  cases hp : ps[i]? with
  | none =>
    have : ps.length ≤ i := by simpa using hp
    rw [List.getElem?_eq_none (by rw [withS_length _ _ (sts_length _)]; exact this)]
  | some p => rw [withS_at hp (sts_at hp)]
/-- a node's state is set -/
def putS (ps : List Pt) (t : Nat) (v : Int) : List Pt := ps.modify t (fun p => { p with st := v })
theorem putS_length (ps : List Pt) (t : Nat) (v : Int) : (putS ps t v).length = ps.length := by simp [putS]
theorem sts_putS (ps : List Pt) (t : Nat) (v : Int) : sts (putS ps t v) = (sts ps).set t v := by
  refine List.ext_getElem? fun i => ?_
  unfold sts putS
  rw [List.getElem?_map, List.getElem?_modify, List.getElem?_set, List.getElem?_map, List.length_map]
  by_cases h : t = i
  · subst h
    by_cases hl : t < ps.length
    · simp [hl]
    · simp [hl]
  · simp [h]
theorem withS_put {ps : List Pt} {ss : List Int} (h : ss.length = ps.length) (t : Nat) (v : Int) : putS (withS ps ss) t v = withS ps (ss.set t v) := by
  refine List.ext_getElem? fun i => ?_
  unfold putS
  rw [List.getElem?_modify]
  by_cases hi : i < ps.length
  · have hp : ps[i]? = some ps[i] := List.getElem?_eq_getElem hi
    have hs : ss[i]? = some (ss[i]'(by omega)) := List.getElem?_eq_getElem _
    rw [withS_at hp hs]
    by_cases e : t = i
    · subst e
      rw [withS_at (s := v) hp (by rw [List.getElem?_set]; simp; omega)]
      simp
    · rw [withS_at hp (by rw [List.getElem?_set, if_neg e]; exact hs)]
      simp [e]
  · rw [List.getElem?_eq_none (by rw [withS_length _ _ h]; omega), List.getElem?_eq_none (by rw [withS_length _ _ (by simp [h])]; omega)]
    rfl

def allSet (ps : List Pt) : Bool := ps.all fun p => setS p.st
def allDone (ps : List Pt) : Bool := ps.all fun p => doneS p.st
/-- the run settles on: who is skipped, who is ready, and how it stands then -/
def settleR (xs : List Nx) (R : Rs) : (List Nat × List Nat) × Rs :=
  let z := settle xs (sts R.ps)
  ((z.1, z.2.1), ⟨if allSet (withS R.ps z.2.2) then (if allDone (withS R.ps z.2.2) then 2 else 3) else R.stt, withS R.ps z.2.2⟩)
def hasI (n : Nat) (i : Int) : Bool := decide (0 ≤ i) && decide (i < n)
/-- why a call is not for this node -/
def refI (R : Rs) (i : Int) (l : List Int) : Int := if hasI R.ps.length i then (if l.contains (sAt (sts R.ps) i) then 0 else 131) else 130
def trAt (ps : List Pt) (i : Int) : Int := ((ps[i.toNat]?).map Pt.tr).getD 0
def leaseR (R : Rs) (i : Int) : (Int × Int) × Rs :=
  if refI R i [2] ≠ 0 then ((0, refI R i [2]), R) else ((trAt R.ps i + 1, 0), ⟨R.stt, R.ps.modify i.toNat fun p => ⟨3, p.tr + 1, p.rs⟩⟩)
def settled (xs : List Nx) (dead ready : List Nat) (R : Rs) : (Chg × Int) × Rs :=
  ((⟨dead, (settleR xs R).1.1, ready ++ (settleR xs R).1.2, (settleR xs R).2.stt⟩, 0), (settleR xs R).2)
def finishR (xs : List Nx) (R : Rs) (i : Int) (res : List Nat) : (Chg × Int) × Rs :=
  if hasI R.ps.length i && decide (64 < res.length) then ((Chg.none, 1), R)
  else if refI R i [3] ≠ 0 then ((Chg.none, refI R i [3]), R)
  else settled xs [] [] ⟨R.stt, R.ps.modify i.toNat fun p => ⟨5, p.tr, res⟩⟩
def buAt (xs : List Nx) (i : Int) : Int := ((xs[i.toNat]?).map Nx.bu).getD 0
def missR (xs : List Nx) (R : Rs) (i : Int) : (Chg × Int) × Rs :=
  if refI R i [3] ≠ 0 then ((Chg.none, refI R i [3]), R)
  else if trAt R.ps i = buAt xs i then settled xs [i.toNat] [] ⟨R.stt, putS R.ps i.toNat 6⟩
  else settled xs [] [] ⟨R.stt, putS R.ps i.toNat 4⟩
def wakeR (xs : List Nx) (R : Rs) (i : Int) : (Chg × Int) × Rs :=
  if refI R i [4] ≠ 0 then ((Chg.none, refI R i [4]), R)
  else settled xs [] [i.toNat] ⟨R.stt, putS R.ps i.toNat 2⟩
def stopS (s : Int) : Int := if setS s then s else if s = 1 then 7 else 6
def deadL (ps : List Pt) : List Nat := (List.range ps.length).filter fun i => !setS (sAt (sts ps) (i : Nat)) && !decide (sAt (sts ps) (i : Nat) = 1)
def skipL (ps : List Pt) : List Nat := (List.range ps.length).filter fun i => decide (sAt (sts ps) (i : Nat) = 1)
def stopR (R : Rs) (s : Int) : (Chg × Int) × Rs :=
  if !(decide (s = 4) || decide (s = 5)) then ((Chg.none, 1), R) else if R.stt ≠ 1 then ((Chg.none, 131), R)
  else ((⟨deadL R.ps, skipL R.ps, [], s⟩, 0), ⟨s, R.ps.map fun p => { p with st := stopS p.st }⟩)
/-- a step of a run: its change, the attempt, its error -/
def doR (xs : List Nx) (R : Rs) (k i : Int) (res : List Nat) : (Chg × Int × Int) × Rs :=
  if k = 1 then ((Chg.none, (leaseR R i).1.1, (leaseR R i).1.2), (leaseR R i).2)
  else if k = 2 then (((finishR xs R i res).1.1, 0, (finishR xs R i res).1.2), (finishR xs R i res).2)
  else if k = 3 then (((missR xs R i).1.1, 0, (missR xs R i).1.2), (missR xs R i).2)
  else if k = 4 then (((wakeR xs R i).1.1, 0, (wakeR xs R i).1.2), (wakeR xs R i).2)
  else if k = 5 then (((stopR R i).1.1, 0, (stopR R i).1.2), (stopR R i).2)
  else ((Chg.none, 0, 0), R)

def stopped (s : Int) : Bool := decide (s = 4) || decide (s = 5)
def attOk (b : Int) (sp : Bool) (p : Pt) : Bool :=
  if p.st = 1 ∨ p.st = 7 then decide (p.tr = 0) else if p.st = 2 then decide (0 ≤ p.tr) && decide (p.tr ≤ b - 1)
  else if p.st = 4 then decide (1 ≤ p.tr) && decide (p.tr ≤ b - 1) else if p.st = 3 ∨ p.st = 5 then decide (1 ≤ p.tr) && decide (p.tr ≤ b)
  else if p.st = 6 then decide (p.tr = b) || sp && (decide (0 ≤ p.tr) && decide (p.tr ≤ b)) else false
def resOk (p : Pt) : Prop := p.rs = [] ∨ p.st = 5 ∧ p.rs.length ≤ 64
def PsOk (xs : List Nx) (sp : Bool) (ps : List Pt) : Prop := ps.length = xs.length ∧ ∀ (i : Nat) (x : Nx) (p : Pt), xs[i]? = some x → ps[i]? = some p → resOk p ∧ attOk x.bu sp p = true
/-- a run may stand so -/
def May (xs : List Nx) (R : Rs) : Prop := PsOk xs (stopped R.stt) R.ps ∧
  ((R.stt = 1 ∧ allSet R.ps = false ∧ OH xs (sts R.ps)) ∨ (R.stt = 2 ∧ allDone R.ps = true) ∨ (R.stt = 3 ∧ allSet R.ps = true ∧ allDone R.ps = false ∧ OH xs (sts R.ps)) ∨ (stopped R.stt = true ∧ allSet R.ps = true ∧ allDone R.ps = false))

theorem allDone_set {ps : List Pt} (h : allDone ps = true) : allSet ps = true := by
  unfold allDone at h; unfold allSet
  rw [List.all_eq_true] at h ⊢
  intro p hp
  unfold setS; rw [h p hp]; rfl
theorem attOk_st {b : Int} {sp : Bool} {p : Pt} (h : attOk b sp p = true) : 1 ≤ p.st ∧ p.st ≤ 7 := by
  unfold attOk at h
  split at h
  · rename_i c; rcases c with c | c <;> omega
  · split at h
    · omega
    · split at h
      · omega
      · split at h
        · rename_i c; rcases c with c | c <;> omega
        · split at h
          · omega
          · cases h
theorem settled_may {xs : List Nx} (hb : ∀ x ∈ xs, 1 ≤ x.bu) {R : Rs} (h1 : R.stt = 1) (hp : PsOk xs false R.ps) (hn : Nearly xs (sts R.ps)) : May xs (settleR xs R).2 := by
  unfold settleR
  simp only
  have hl : (sts R.ps).length = xs.length := by rw [sts_length]; exact hp.1
  have A := settle_adv xs (sts R.ps)
  have O := settle_oh hl hn
  generalize (settle xs (sts R.ps)).2.2 = ss at *
  have hls : ss.length = R.ps.length := by rw [A.1, sts_length]
  have P2 : PsOk xs false (withS R.ps ss) := by
    refine ⟨by rw [withS_length _ _ hls]; exact hp.1, fun i x p hx h => ?_⟩
    have hi : i < xs.length := (List.getElem?_eq_some_iff.1 hx).1
    have hip : i < R.ps.length := by have := hp.1; omega
    have h0 : R.ps[i]? = some R.ps[i] := List.getElem?_eq_getElem hip
    have hs : ss[i]? = some (ss[i]'(by omega)) := List.getElem?_eq_getElem _
    rw [withS_at h0 hs] at h
    have h := Option.some.inj h
    obtain ⟨q1, q2⟩ := hp.2 i x _ hx h0
    have b1 := hb x (List.mem_of_getElem? hx)
    have a := A.2 (i : Nat)
    rw [sAt_sts h0, sAt_lt hs] at a
    generalize R.ps[i] = p0 at *
    generalize ss[i]'(by omega) = s at *
    subst h
    rcases a with rfl | ⟨a1, a2⟩
    · exact ⟨q1, q2⟩
    · have hr : p0.rs = [] := by
        rcases q1 with q | ⟨q, _⟩
        · exact q
        · omega
      have ht : p0.tr = 0 := by
        unfold attOk at q2
        rw [if_pos (.inl a1)] at q2
        simpa using q2
      refine ⟨.inl hr, ?_⟩
      unfold attOk
      simp only
      rcases a2 with rfl | rfl
      · simp [ht]; omega
      · simp [ht]
  have hO : OH xs (sts (withS R.ps ss)) := by rw [sts_withS hls]; exact O
  generalize withS R.ps ss = ps at *
  cases c1 : allSet ps with
  | false => exact ⟨by rw [if_neg (by simp)]; simp only [h1]; exact P2, .inl ⟨by rw [if_neg (by simp)]; exact h1, c1, hO⟩⟩
  | true =>
    rw [if_pos rfl]
    cases c2 : allDone ps with
    | true => exact ⟨P2, .inr (.inl ⟨rfl, c2⟩)⟩
    | false => exact ⟨P2, .inr (.inr (.inl ⟨rfl, c1, c2, hO⟩))⟩
/-- who is under way is so in a live run alone -/
theorem May.live {xs : List Nx} {R : Rs} (h : May xs R) {i : Int} (hi : hasI R.ps.length i = true) (hs : setS (sAt (sts R.ps) i) = false) : R.stt = 1 ∧ allSet R.ps = false ∧ OH xs (sts R.ps) := by
  have hn : allSet R.ps = false := by
    cases c : allSet R.ps with
    | false => rfl
    | true =>
      unfold hasI at hi
      simp only [Bool.and_eq_true, decide_eq_true_eq] at hi
      have hip : i.toNat < R.ps.length := by omega
      have h0 : R.ps[i.toNat]? = some R.ps[i.toNat] := List.getElem?_eq_getElem hip
      have := sAt_sts h0
      rw [Int.toNat_of_nonneg hi.1] at this
      unfold allSet at c
      rw [List.all_eq_true] at c
      rw [this, c _ (List.mem_of_getElem? h0)] at hs
      cases hs
  rcases h.2 with c | c | c | c
  · exact c
  · rw [allDone_set c.2] at hn; cases hn
  · rw [c.2.1] at hn; cases hn
  · rw [c.2.1] at hn; cases hn
theorem refI_zero {R : Rs} {i : Int} {l : List Int} (h : refI R i l = 0) : hasI R.ps.length i = true ∧ sAt (sts R.ps) i ∈ l := by
  unfold refI at h
  split at h
  · rename_i c
    split at h
    · rename_i d; exact ⟨c, by simpa using d⟩
    · cases h
  · cases h
/-- a node is changed alone -/
theorem PsOk.modify {xs : List Nx} {sp : Bool} {ps : List Pt} (h : PsOk xs sp ps) (t : Nat) (f : Pt → Pt) (hf : ∀ x p, xs[t]? = some x → ps[t]? = some p → resOk (f p) ∧ attOk x.bu sp (f p) = true) : PsOk xs sp (ps.modify t f) := by
  refine ⟨by simpa using h.1, fun i x p hx hp => ?_⟩
  rw [List.getElem?_modify] at hp
  by_cases e : t = i
  · subst e
    cases h0 : ps[t]? with
    | none => rw [h0] at hp; cases hp
    | some q =>
      rw [h0] at hp
      simp at hp
      subst hp
      exact hf x q hx h0
  · simp only [if_neg e] at hp
    simp at hp
    exact h.2 i x p hx hp
theorem sts_modify (ps : List Pt) (t : Nat) (f : Pt → Pt) (v : Int) (hf : ∀ p, (f p).st = v) : sts (ps.modify t f) = (sts ps).set t v := by
  refine List.ext_getElem? fun i => ?_
  unfold sts
  rw [List.getElem?_map, List.getElem?_modify, List.getElem?_set, List.getElem?_map, List.length_map]
  by_cases h : t = i
  · subst h
    by_cases hl : t < ps.length
    · simp [hl, hf]
    · simp [hl]
  · simp [h]
theorem at_of {ps : List Pt} {i : Int} (h : hasI ps.length i = true) : ∃ p, ps[i.toNat]? = some p ∧ sAt (sts ps) i = p.st ∧ trAt ps i = p.tr ∧ (i.toNat : Int) = i := by
  unfold hasI at h
  simp only [Bool.and_eq_true, decide_eq_true_eq] at h
  have hip : i.toNat < ps.length := by omega
  have h0 : ps[i.toNat]? = some ps[i.toNat] := List.getElem?_eq_getElem hip
  have := sAt_sts h0
  rw [Int.toNat_of_nonneg h.1] at this
  exact ⟨_, h0, this, by unfold trAt; rw [h0]; rfl, Int.toNat_of_nonneg h.1⟩
theorem lease_may {xs : List Nx} {R : Rs} (h : May xs R) (i : Int) : May xs (leaseR R i).2 := by
  unfold leaseR
  split
  · exact h
  · rename_i c
    have c : refI R i [2] = 0 := by simpa using c
    obtain ⟨hi, hs⟩ := refI_zero c
    obtain ⟨p, hp, h1, h2, hii⟩ := at_of hi
    have hs2 : p.st = 2 := by rw [h1] at hs; simpa using hs
    obtain ⟨l1, l2, l3⟩ := h.live hi (by rw [h1, hs2]; rfl)
    have hst : stopped R.stt = false := by rw [l1]; rfl
    have hP := h.1
    rw [hst] at hP
    refine ⟨?_, .inl ⟨l1, ?_, ?_⟩⟩
    · show PsOk xs (stopped R.stt) _
      rw [hst]
      refine hP.modify _ _ fun x q hx hq => ?_
      rw [hp] at hq
      obtain rfl := Option.some.inj hq
      obtain ⟨q1, q2⟩ := hP.2 _ x p hx hp
      refine ⟨.inl ?_, ?_⟩
      · rcases q1 with q | ⟨q, _⟩
        · exact q
        · omega
      · unfold attOk at q2 ⊢
        simp [hs2] at q2
        simp; omega
    · show allSet (R.ps.modify i.toNat _) = false
      cases c : allSet (R.ps.modify i.toNat fun p => ⟨3, p.tr + 1, p.rs⟩) with
      | false => rfl
      | true =>
        unfold allSet at c
        rw [List.all_eq_true] at c
        have := c ⟨3, p.tr + 1, p.rs⟩ (List.mem_of_getElem? (i := i.toNat) (by rw [List.getElem?_modify, hp]; simp))
        cases this
    · show OH xs (sts (R.ps.modify i.toNat _))
      rw [sts_modify R.ps i.toNat _ 3 (fun _ => rfl)]
      have hlt : i.toNat < (sts R.ps).length := by rw [sts_length]; exact (List.getElem?_eq_some_iff.1 hp).1
      have same : ∀ e : Int, (sAt ((sts R.ps).set i.toNat 3) e = sAt (sts R.ps) e) ∨ (sAt (sts R.ps) e = 2 ∧ sAt ((sts R.ps).set i.toNat 3) e = 3) := fun e => by
        rw [sAt_set hlt]
        by_cases d : e.toNat = i.toNat
        · rw [if_pos d]
          refine .inr ⟨?_, rfl⟩
          have : sAt (sts R.ps) e = sAt (sts R.ps) i := by unfold sAt; rw [d]
          rw [this, h1, hs2]
        · rw [if_neg d]; exact .inl rfl
      intro j x hx
      rw [outl_same (a := sts R.ps) (b := (sts R.ps).set i.toNat 3) fun e => by
        rcases same e with q | ⟨q, r⟩
        · rw [q]; exact ⟨rfl, rfl⟩
        · rw [q, r]; exact ⟨rfl, rfl⟩]
      obtain ⟨g1, g2⟩ := l3 j x hx
      rw [← g1, ← g2]
      rcases same (j : Nat) with q | ⟨q, r⟩
      · rw [q]; exact ⟨Iff.rfl, Iff.rfl⟩
      · rw [q, r]; decide
theorem go_may {xs : List Nx} (hb : ∀ x ∈ xs, 1 ≤ x.bu) {R : Rs} (h : May xs R) {i : Int} {v : Int} {l : List Int} (hc : refI R i l = 0) (hl : ∀ s ∈ l, s = 3 ∨ s = 4) (f : Pt → Pt) (hf : ∀ p, (f p).st = v) (hv : v ≠ 1 ∧ v ≠ 7)
    (hk : ∀ x p, xs[i.toNat]? = some x → R.ps[i.toNat]? = some p → p.st ∈ l → resOk p → attOk x.bu false p = true → trAt R.ps i = p.tr → buAt xs i = x.bu → resOk (f p) ∧ attOk x.bu false (f p) = true) : May xs (settleR xs ⟨R.stt, R.ps.modify i.toNat f⟩).2 := by
  obtain ⟨hi, hs⟩ := refI_zero hc
  obtain ⟨p, hp, h1, h2, hii⟩ := at_of hi
  have h34 := hl _ hs
  obtain ⟨l1, l2, l3⟩ := h.live hi (by rcases h34 with e | e <;> rw [e] <;> rfl)
  have hst : stopped R.stt = false := by rw [l1]; rfl
  have hP := h.1
  rw [hst] at hP
  refine settled_may hb l1 ?_ ?_
  · refine hP.modify _ _ fun x q hx hq => ?_
    rw [hp] at hq
    obtain rfl := Option.some.inj hq
    obtain ⟨q1, q2⟩ := hP.2 _ x p hx hp
    exact hk x p hx hp (by rw [← h1]; exact hs) q1 q2 h2 (by unfold buAt; rw [hx]; rfl)
  · show Nearly xs (sts (R.ps.modify i.toNat f))
    rw [sts_modify R.ps i.toNat f v hf]
    have e0 : sAt (sts R.ps) (i.toNat : Nat) = sAt (sts R.ps) i := by rw [hii]
    refine l3.go ?_ hv
    rw [e0]
    exact .inr h34
theorem finish_may {xs : List Nx} (hb : ∀ x ∈ xs, 1 ≤ x.bu) {R : Rs} (h : May xs R) (i : Int) (res : List Nat) : May xs (finishR xs R i res).2 := by
  unfold finishR settled
  split
  · exact h
  · rename_i c0
    split
    · exact h
    · rename_i c
      have c : refI R i [3] = 0 := by simpa using c
      have hlen : res.length ≤ 64 := by
        rw [(refI_zero c).1] at c0
        simp at c0; exact c0
      refine go_may hb h (v := 5) c (fun s hs => .inl (by simpa using hs)) _ (fun _ => rfl) ⟨by decide, by decide⟩ fun x p hx hp hs q1 q2 _ _ => ⟨.inr ⟨rfl, hlen⟩, ?_⟩
      have hs : p.st = 3 := by simpa using hs
      unfold attOk at q2 ⊢
      simp [hs] at q2
      simp; omega
theorem miss_may {xs : List Nx} (hb : ∀ x ∈ xs, 1 ≤ x.bu) {R : Rs} (h : May xs R) (i : Int) : May xs (missR xs R i).2 := by
  unfold missR settled putS
  split
  · exact h
  · rename_i c
    have c : refI R i [3] = 0 := by simpa using c
    have nores : ∀ p : Pt, resOk p → p.st = 3 → p.rs = [] := fun p q hs => by
      rcases q with q | ⟨q, _⟩
      · exact q
      · omega
    split
    · rename_i d
      refine go_may hb h (v := 6) c (fun s hs => .inl (by simpa using hs)) _ (fun _ => rfl) ⟨by decide, by decide⟩ fun x p hx hp hs q1 q2 ht hbu => ?_
      have hs : p.st = 3 := by simpa using hs
      refine ⟨.inl (nores p q1 hs), ?_⟩
      unfold attOk
      simp; omega
    · rename_i d
      refine go_may hb h (v := 4) c (fun s hs => .inl (by simpa using hs)) _ (fun _ => rfl) ⟨by decide, by decide⟩ fun x p hx hp hs q1 q2 ht hbu => ?_
      have hs : p.st = 3 := by simpa using hs
      refine ⟨.inl (nores p q1 hs), ?_⟩
      unfold attOk at q2 ⊢
      simp [hs] at q2
      simp; omega
theorem wake_may {xs : List Nx} (hb : ∀ x ∈ xs, 1 ≤ x.bu) {R : Rs} (h : May xs R) (i : Int) : May xs (wakeR xs R i).2 := by
  unfold wakeR settled putS
  split
  · exact h
  · rename_i c
    have c : refI R i [4] = 0 := by simpa using c
    refine go_may hb h (v := 2) c (fun s hs => .inr (by simpa using hs)) _ (fun _ => rfl) ⟨by decide, by decide⟩ fun x p hx hp hs q1 q2 ht hbu => ?_
    have hs : p.st = 4 := by simpa using hs
    refine ⟨.inl ?_, ?_⟩
    · rcases q1 with q | ⟨q, _⟩
      · exact q
      · omega
    · unfold attOk at q2 ⊢
      simp [hs] at q2
      simp; omega
theorem setS_stop (s : Int) : setS (stopS s) = true := by
  unfold stopS
  split
  · assumption
  · split <;> rfl
theorem stop_may {xs : List Nx} {R : Rs} (h : May xs R) (s : Int) : May xs (stopR R s).2 := by
  unfold stopR
  split
  · exact h
  · rename_i c
    have c : stopped s = true := by
      unfold stopped
      revert c
      cases (decide (s = 4) || decide (s = 5)) <;> simp
    split
    · exact h
    · rename_i d
      have d : R.stt = 1 := by simpa using d
      have hP := h.1
      have hn : allSet R.ps = false := by
        rcases h.2 with e | e | e | e
        · exact e.2.1
        · rw [d] at e; cases e.1
        · rw [d] at e; cases e.1
        · rw [d] at e; cases e.1
      rw [show stopped R.stt = false by rw [d]; rfl] at hP
      refine ⟨⟨by simpa using hP.1, fun i x p hx hp => ?_⟩, .inr (.inr (.inr ⟨c, ?_, ?_⟩))⟩
      · show resOk p ∧ attOk x.bu (stopped s) p = true
        rw [c]
        simp only [List.getElem?_map] at hp
        cases h0 : R.ps[i]? with
        | none => rw [h0] at hp; cases hp
        | some q =>
          rw [h0] at hp
          obtain rfl := Option.some.inj hp
          obtain ⟨q1, q2⟩ := hP.2 i x q hx h0
          have hq := attOk_st q2
          show resOk { q with st := stopS q.st } ∧ attOk x.bu true { q with st := stopS q.st } = true
          unfold stopS
          by_cases e : setS q.st = true
          · rw [if_pos e]
            refine ⟨q1, ?_⟩
            unfold attOk at q2 ⊢
            simp only at q2 ⊢
            split at q2
            · rename_i g; rw [if_pos g]; exact q2
            · rename_i g
              rw [if_neg g]
              split at q2
              · rename_i g; rw [if_pos g]; exact q2
              · rename_i g
                rw [if_neg g]
                split at q2
                · rename_i g; rw [if_pos g]; exact q2
                · rename_i g
                  rw [if_neg g]
                  split at q2
                  · rename_i g; rw [if_pos g]; exact q2
                  · rename_i g
                    rw [if_neg g]
                    split at q2
                    · rename_i g; rw [if_pos g]; simp at q2; simp [q2]
                    · cases q2
          · rw [if_neg e]
            have nr : q.rs = [] := by
              rcases q1 with q' | ⟨q', _⟩
              · exact q'
              · rw [q'] at e; exact absurd rfl e
            refine ⟨.inl nr, ?_⟩
            unfold attOk at q2
            by_cases g : q.st = 1
            · rw [if_pos g]
              rw [if_pos (.inl g)] at q2
              unfold attOk
              simpa using q2
            · rw [if_neg g]
              have g7 : q.st ≠ 7 := fun g' => by rw [g'] at e; exact e rfl
              have g6 : q.st ≠ 6 := fun g' => by rw [g'] at e; exact e rfl
              have g5 : q.st ≠ 5 := fun g' => by rw [g'] at e; exact e rfl
              unfold attOk
              simp
              simp [g, g7, g6, g5] at q2
              split at q2
              · omega
              · split at q2
                · omega
                · omega
      · show allSet (R.ps.map _) = true
        unfold allSet
        rw [List.all_eq_true]
        intro p hp
        obtain ⟨q, _, rfl⟩ := List.mem_map.1 hp
        exact setS_stop q.st
      · show allDone (R.ps.map _) = false
        cases e : allDone (R.ps.map fun p => { p with st := stopS p.st }) with
        | false => rfl
        | true =>
          exfalso
          have : allSet R.ps = true := by
            unfold allSet
            rw [List.all_eq_true]
            intro p hp
            unfold allDone at e
            rw [List.all_eq_true] at e
            have := e _ (List.mem_map_of_mem hp)
            simp only at this
            unfold stopS at this
            cases g : setS p.st with
            | true => rfl
            | false =>
              rw [g] at this
              simp only [Bool.false_eq_true, if_false] at this
              split at this <;> cases this
          rw [this] at hn; cases hn
theorem do_may {xs : List Nx} (hb : ∀ x ∈ xs, 1 ≤ x.bu) {R : Rs} (h : May xs R) (k i : Int) (res : List Nat) : May xs (doR xs R k i res).2 := by
  unfold doR
  split
  · exact lease_may h i
  · split
    · exact finish_may hb h i res
    · split
      · exact miss_may hb h i
      · split
        · exact wake_may hb h i
        · split
          · exact stop_may h i
          · exact h
/-- a new run -/
def newR (xs : List Nx) : (List Nat × List Nat) × Rs := settleR xs ⟨1, List.replicate xs.length ⟨1, 0, []⟩⟩
theorem new_may {xs : List Nx} (hb : ∀ x ∈ xs, 1 ≤ x.bu) : May xs (newR xs).2 := by
  refine settled_may hb rfl ⟨by simp, fun i x p _ hp => ?_⟩ ?_
  · have := List.eq_of_mem_replicate (List.mem_of_getElem? hp)
    subst this
    exact ⟨.inl rfl, rfl⟩
  · show Nearly xs (sts (List.replicate xs.length ⟨1, 0, []⟩))
    rw [show sts (List.replicate xs.length ⟨1, 0, []⟩) = List.replicate xs.length 1 by simp [sts]]
    exact nearly_new xs
end Rn
end Go.Proofs.Ytiackejbpcjmeaa
