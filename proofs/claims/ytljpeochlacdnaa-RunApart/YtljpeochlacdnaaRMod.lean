/- Package run: the mathematics of a run: outlooks, what settles on, how a run may stand. -/
namespace Go.Proofs.Ytljpeochlacdnaa
namespace Rn

/-- a node of a plan, as a run sees it -/
structure Nx where
  bu : Int
  nl : List Int
  al : List Int
/-- a node of a run -/
structure Pt where
  st : Int
  tr : Int
  rs : List Nat

def doneS (s : Int) : Bool := decide (s = 5)
def lostS (s : Int) : Bool := decide (s = 6) || decide (s = 7)
def setS (s : Int) : Bool := doneS s || lostS s
def sAt (ss : List Int) (e : Int) : Int := (ss[e.toNat]?).getD 0
def outl (ss : List Int) (x : Nx) : Int :=
  if x.nl.any (fun e => lostS (sAt ss e)) then 2 else if x.nl.any (fun e => !doneS (sAt ss e)) || x.al.any (fun e => !setS (sAt ss e)) then 0 else 1
def qual (xs : List Nx) (how : Int) (ss : List Int) (i : Nat) : Bool := match xs[i]? with
  | some x => decide (sAt ss i = 1) && decide (outl ss x = how)
  | none => false
def leastN (xs : List Nx) (how : Int) (ss : List Int) : Option Nat := (List.range xs.length).find? (qual xs how ss)
def turnF (xs : List Nx) (how st : Int) : Nat → List Int → List Nat × List Int
  | 0, ss => ([], ss)
  | f + 1, ss => match leastN xs how ss with
    | none => ([], ss)
    | some t => (t :: (turnF xs how st f (ss.set t st)).1, (turnF xs how st f (ss.set t st)).2)

theorem outl_cases (ss : List Int) (x : Nx) : outl ss x = 0 ∨ outl ss x = 1 ∨ outl ss x = 2 := by
  unfold outl
  split
  · exact .inr (.inr rfl)
  · split
    · exact .inl rfl
    · exact .inr (.inl rfl)
theorem outl_two {ss : List Int} {x : Nx} : outl ss x = 2 ↔ ∃ e ∈ x.nl, lostS (sAt ss e) = true := by
  unfold outl
  split
  · rename_i h; simp only [List.any_eq_true] at h; simp [h]
  · rename_i h
    simp only [List.any_eq_true] at h
    constructor
    · intro g; split at g <;> cases g
    · intro g; exact absurd g h
theorem done_not_lost {s : Int} (h : doneS s = true) : lostS s = false := by
  unfold doneS at h; unfold lostS
  simp at h; subst h; rfl
theorem outl_one {ss : List Int} {x : Nx} : outl ss x = 1 ↔ (∀ e ∈ x.nl, doneS (sAt ss e) = true) ∧ ∀ e ∈ x.al, setS (sAt ss e) = true := by
  constructor
  · intro h
    unfold outl at h
    split at h
    · cases h
    · split at h
      · cases h
      · rename_i h2
        simp only [Bool.or_eq_true, List.any_eq_true, not_or, not_exists, not_and, Bool.not_eq_true', Bool.not_eq_false] at h2
        exact h2
  · rintro ⟨h1, h2⟩
    unfold outl
    rw [if_neg, if_neg]
    · simp only [Bool.or_eq_true, List.any_eq_true, not_or, not_exists, not_and, Bool.not_eq_true', Bool.not_eq_false]
      exact ⟨h1, h2⟩
    · simp only [List.any_eq_true, not_exists, not_and]
      intro e he hl
      rw [done_not_lost (h1 e he)] at hl
      cases hl
theorem sAt_lt {ss : List Int} {i : Nat} {v : Int} (h : ss[i]? = some v) : sAt ss i = v := by
  unfold sAt; simp [h]
theorem sAt_set {ss : List Int} {t : Nat} {v : Int} (ht : t < ss.length) (e : Int) : sAt (ss.set t v) e = if e.toNat = t then v else sAt ss e := by
  unfold sAt
  rw [List.getElem?_set]
  by_cases h : t = e.toNat
  · subst h; simp [ht]
  · rw [if_neg h, if_neg (Ne.symm h)]
theorem sAt_set_ne {ss : List Int} {t : Nat} {v : Int} {e : Int} (h : e.toNat ≠ t) : sAt (ss.set t v) e = sAt ss e := by
  unfold sAt
  rw [List.getElem?_set, if_neg (Ne.symm h)]

theorem leastN_some {xs : List Nx} {how : Int} {ss : List Int} {i : Nat} : leastN xs how ss = some i ↔ i < xs.length ∧ qual xs how ss i = true ∧ ∀ j, j < i → qual xs how ss j = false := by
  unfold leastN
  rw [List.find?_range_eq_some]
  constructor
  · rintro ⟨h1, h2, h3⟩; exact ⟨by simpa using h2, h1, fun j hj => by simpa using h3 j hj⟩
  · rintro ⟨h1, h2, h3⟩; exact ⟨h2, by simpa using h1, fun j hj => by simpa using h3 j hj⟩
theorem leastN_none {xs : List Nx} {how : Int} {ss : List Int} : leastN xs how ss = none ↔ ∀ j, j < xs.length → qual xs how ss j = false := by
  unfold leastN
  simp [List.find?_eq_none]
theorem qual_true {xs : List Nx} {how : Int} {ss : List Int} {i : Nat} : qual xs how ss i = true ↔ ∃ x, xs[i]? = some x ∧ sAt ss i = 1 ∧ outl ss x = how := by
  unfold qual
  split
  · rename_i x h; simp [h]
  · rename_i h; simp [h]
theorem qual_at {xs : List Nx} {how : Int} {ss : List Int} {i : Nat} {x : Nx} (h : xs[i]? = some x) : qual xs how ss i = (decide (sAt ss i = 1) && decide (outl ss x = how)) := by unfold qual; rw [h]

/-- how many nodes wait -/
def wtn (ss : List Int) : Nat := ss.countP (fun s => decide (s = 1))
theorem wtn_le (ss : List Int) : wtn ss ≤ ss.length := List.countP_le_length
theorem wtn_set : ∀ {ss : List Int} {t : Nat} {v : Int}, ss[t]? = some 1 → v ≠ 1 → wtn (ss.set t v) + 1 = wtn ss
  | [], _, _, h, _ => by simp at h
  | s :: ss, 0, v, h, hv => by
    simp at h; subst h
    unfold wtn
    simp [hv]
  | s :: ss, t + 1, v, h, hv => by
    have := wtn_set (ss := ss) (t := t) (v := v) (by simpa using h) hv
    unfold wtn at this ⊢
    simp only [List.set_cons_succ, List.countP_cons]
    omega
theorem sAt_one {ss : List Int} {i : Nat} (h : sAt ss i = 1) : ss[i]? = some 1 := by
  unfold sAt at h
  simp only [Int.toNat_natCast] at h
  cases h' : ss[i]? with
  | none => rw [h'] at h; cases h
  | some v => rw [h'] at h; simp at h; rw [h]

/-- who waited may have come to be ready or skipped; all else is as it was -/
def Adv (ss ss' : List Int) : Prop := ss'.length = ss.length ∧ ∀ e, sAt ss' e = sAt ss e ∨ sAt ss e = 1 ∧ (sAt ss' e = 2 ∨ sAt ss' e = 7)
theorem Adv.refl (ss : List Int) : Adv ss ss := ⟨rfl, fun _ => .inl rfl⟩
theorem Adv.trans {a b c : List Int} (h : Adv a b) (k : Adv b c) : Adv a c := by
  refine ⟨k.1.trans h.1, fun e => ?_⟩
  rcases k.2 e with k1 | ⟨k1, k2⟩
  · rw [k1]; exact h.2 e
  · rcases h.2 e with h1 | ⟨h1, h2⟩
    · rw [h1] at k1; exact .inr ⟨k1, k2⟩
    · rw [k1] at h2; rcases h2 with h2 | h2 <;> cases h2
theorem Adv.set {ss : List Int} {t : Nat} {v : Int} (h : sAt ss t = 1) (hv : v = 2 ∨ v = 7) : Adv ss (ss.set t v) := by
  have ht : t < ss.length := (List.getElem?_eq_some_iff.1 (sAt_one h)).1
  refine ⟨by simp, fun e => ?_⟩
  rw [sAt_set ht]
  by_cases c : e.toNat = t
  · rw [if_pos c]
    refine .inr ⟨?_, hv⟩
    have : sAt ss e = sAt ss (t : Int) := by unfold sAt; rw [c]; simp
    rw [this]; exact h
  · rw [if_neg c]; exact .inl rfl
theorem Adv.done {a b : List Int} (h : Adv a b) {e : Int} : doneS (sAt b e) = doneS (sAt a e) := by
  rcases h.2 e with h1 | ⟨h1, h2⟩
  · rw [h1]
  · rw [h1]; rcases h2 with h2 | h2 <;> rw [h2] <;> rfl
theorem Adv.lost {a b : List Int} (h : Adv a b) {e : Int} (hl : lostS (sAt a e) = true) : lostS (sAt b e) = true := by
  rcases h.2 e with h1 | ⟨h1, h2⟩
  · rw [h1]; exact hl
  · rw [h1] at hl; cases hl
theorem Adv.settled {a b : List Int} (h : Adv a b) {e : Int} (hl : setS (sAt a e) = true) : setS (sAt b e) = true := by
  unfold setS at hl ⊢
  rw [h.done]
  rw [Bool.or_eq_true] at hl
  rcases hl with h1 | h1
  · rw [h1]; rfl
  · rw [h.lost h1]; simp
theorem Adv.outl1 {a b : List Int} (h : Adv a b) {x : Nx} (hx : outl a x = 1) : outl b x = 1 := by
  rw [outl_one] at hx ⊢
  exact ⟨fun e he => by rw [h.done]; exact hx.1 e he, fun e he => h.settled (hx.2 e he)⟩
theorem Adv.outl2 {a b : List Int} (h : Adv a b) {x : Nx} (hx : outl a x = 2) : outl b x = 2 := by
  rw [outl_two] at hx ⊢
  obtain ⟨e, he, hl⟩ := hx
  exact ⟨e, he, h.lost hl⟩

/-- what a turn leaves -/
theorem turnF_adv {xs : List Nx} {how st : Int} (hs : st = 2 ∨ st = 7) : ∀ (f : Nat) (ss : List Int), Adv ss (turnF xs how st f ss).2
  | 0, ss => Adv.refl _
  | f + 1, ss => by
    unfold turnF
    cases h : leastN xs how ss with
    | none => exact Adv.refl _
    | some t =>
      obtain ⟨_, h2, _⟩ := leastN_some.1 h
      obtain ⟨x, _, h4, _⟩ := qual_true.1 h2
      exact (Adv.set h4 hs).trans (turnF_adv hs f _)
theorem turnF_none {xs : List Nx} {how st : Int} (hs : st ≠ 1) : ∀ (f : Nat) (ss : List Int), wtn ss ≤ f → leastN xs how (turnF xs how st f ss).2 = none
  | 0, ss, h => by
    unfold turnF
    rw [leastN_none]
    intro j _
    cases hq : qual xs how ss j with
    | false => rfl
    | true =>
      obtain ⟨x, _, h4, _⟩ := qual_true.1 hq
      have := sAt_one h4
      have hm := List.mem_of_getElem? this
      have : 0 < wtn ss := List.countP_pos_iff.2 ⟨1, hm, by simp⟩
      omega
  | f + 1, ss, h => by
    unfold turnF
    cases hl : leastN xs how ss with
    | none => exact hl
    | some t =>
      obtain ⟨_, h2, _⟩ := leastN_some.1 hl
      obtain ⟨x, _, h4, _⟩ := qual_true.1 h2
      have := wtn_set (sAt_one h4) hs
      exact turnF_none hs f _ (by omega)
/-- who was turned stood so, by what stands then too -/
theorem turnF_how {xs : List Nx} {how st : Int} (hs : st = 2 ∧ how = 1 ∨ st = 7 ∧ how = 2) : ∀ (f : Nat) (ss : List Int) (e : Int) (x : Nx), xs[e.toNat]? = some x → sAt ss e = 1 → sAt (turnF xs how st f ss).2 e ≠ 1 → sAt (turnF xs how st f ss).2 e = st ∧ outl (turnF xs how st f ss).2 x = how
  | 0, ss, e, x, _, h1, h2 => absurd h1 h2
  | f + 1, ss, e, x, hx, h1, h2 => by
    unfold turnF at h2 ⊢
    cases hl : leastN xs how ss with
    | none => rw [hl] at h2; exact absurd h1 h2
    | some t =>
      rw [hl] at h2
      obtain ⟨_, q2, _⟩ := leastN_some.1 hl
      obtain ⟨y, hy, h4, h5⟩ := qual_true.1 q2
      have hst : st = 2 ∨ st = 7 := by rcases hs with h | h <;> simp [h.1]
      have ht : t < ss.length := (List.getElem?_eq_some_iff.1 (sAt_one h4)).1
      have A := turnF_adv (xs := xs) (how := how) hst f (ss.set t st)
      have A0 := Adv.set h4 hst
      by_cases c : e.toNat = t
      · have e1 : sAt (ss.set t st) e = st := by rw [sAt_set ht, if_pos c]
        have hxy : x = y := by rw [c] at hx; exact Option.some.inj (hx.symm.trans hy)
        subst hxy
        refine ⟨?_, ?_⟩
        · rcases A.2 e with q | ⟨q, _⟩
          · exact q.trans e1
          · rw [e1] at q; rcases hst with h | h <;> rw [h] at q <;> cases q
        · rcases hs with ⟨_, h⟩ | ⟨_, h⟩
          · subst h; exact A.outl1 (A0.outl1 h5)
          · subst h; exact A.outl2 (A0.outl2 h5)
      · have e1 : sAt (ss.set t st) e = 1 := by rw [sAt_set ht, if_neg c]; exact h1
        exact turnF_how hs f _ e x hx e1 h2

/-- each node has followed the others -/
def OH (xs : List Nx) (ss : List Int) : Prop := ∀ i x, xs[i]? = some x → (sAt ss (i : Nat) = 7 ↔ outl ss x = 2) ∧ (sAt ss (i : Nat) = 1 ↔ outl ss x = 0)
/-- .. but for those that wait -/
def Nearly (xs : List Nx) (ss : List Int) : Prop := ∀ i x, xs[i]? = some x → (sAt ss (i : Nat) = 7 → outl ss x = 2) ∧ (sAt ss (i : Nat) ≠ 1 → sAt ss (i : Nat) ≠ 7 → outl ss x = 1)
theorem OH.nearly {xs : List Nx} {ss : List Int} (h : OH xs ss) : Nearly xs ss := fun i x hx => by
  obtain ⟨h1, h2⟩ := h i x hx
  refine ⟨h1.1, fun g1 g2 => ?_⟩
  rcases outl_cases ss x with c | c | c
  · exact absurd (h2.2 c) g1
  · exact c
  · exact absurd (h1.2 c) g2
/-- what settles on: the states, who is skipped, who is ready -/
def settle (xs : List Nx) (ss : List Int) : List Nat × List Nat × List Int :=
  ((turnF xs 2 7 xs.length ss).1, (turnF xs 1 2 xs.length (turnF xs 2 7 xs.length ss).2).1, (turnF xs 1 2 xs.length (turnF xs 2 7 xs.length ss).2).2)
theorem outl_same {a b : List Int} {x : Nx} (h : ∀ e, doneS (sAt b e) = doneS (sAt a e) ∧ lostS (sAt b e) = lostS (sAt a e)) : outl b x = outl a x := by
  unfold outl setS
  simp only [(h _).1, (h _).2]
theorem settle_adv (xs : List Nx) (ss : List Int) : Adv ss (settle xs ss).2.2 := (turnF_adv (.inr rfl) _ _).trans (turnF_adv (.inl rfl) _ _)
theorem settle_oh {xs : List Nx} {ss : List Int} (hl : ss.length = xs.length) (h : Nearly xs ss) : OH xs (settle xs ss).2.2 := by
  unfold settle
  simp only
  have A1 := turnF_adv (xs := xs) (how := 2) (st := 7) (.inr rfl) xs.length ss
  have N1 := turnF_none (xs := xs) (how := 2) (st := 7) (by decide) xs.length ss (by have := wtn_le ss; omega)
  have H1 := turnF_how (xs := xs) (how := 2) (st := 7) (.inr ⟨rfl, rfl⟩) xs.length ss
  generalize (turnF xs 2 7 xs.length ss).2 = s1 at *
  have A2 := turnF_adv (xs := xs) (how := 1) (st := 2) (.inl rfl) xs.length s1
  have N2 := turnF_none (xs := xs) (how := 1) (st := 2) (by decide) xs.length s1 (by have := wtn_le s1; have := A1.1; omega)
  have H2 := turnF_how (xs := xs) (how := 1) (st := 2) (.inl ⟨rfl, rfl⟩) xs.length s1
  generalize (turnF xs 1 2 xs.length s1).2 = s2 at *
  have lt : ∀ {i : Nat} {x : Nx}, xs[i]? = some x → i < xs.length := fun h => (List.getElem?_eq_some_iff.1 h).1
  have near1 : Nearly xs s1 := by
    intro i x hx
    by_cases c : sAt ss (i : Nat) = 1
    · by_cases d : sAt s1 (i : Nat) = 1
      · exact ⟨fun g => (by rw [d] at g; cases g), fun g => absurd d g⟩
      · obtain ⟨q1, q2⟩ := H1 (i : Nat) x (by simpa using hx) c d
        exact ⟨fun _ => q2, fun _ g => absurd q1 g⟩
    · have e : sAt s1 (i : Nat) = sAt ss (i : Nat) := (A1.2 _).resolve_right fun g => c g.1
      obtain ⟨q1, q2⟩ := h i x hx
      rw [e]
      exact ⟨fun g => A1.outl2 (q1 g), fun g1 g2 => A1.outl1 (q2 g1 g2)⟩
  -- the second turn skips nobody: outlooks stay
  have S2 : ∀ e, sAt s2 e = sAt s1 e ∨ sAt s1 e = 1 ∧ sAt s2 e = 2 := by
    intro e
    rcases A2.2 e with q | ⟨q1, q2⟩
    · exact .inl q
    · refine .inr ⟨q1, ?_⟩
      by_cases hi : e.toNat < xs.length
      · exact (H2 e _ (List.getElem?_eq_getElem hi) q1 (by rcases q2 with q | q <;> rw [q] <;> decide)).1
      · have : sAt s1 e = 0 := by
          unfold sAt
          have : s1[e.toNat]? = none := by simp; have := A1.1; omega
          rw [this]; rfl
        rw [this] at q1; cases q1
  have O2 : ∀ x : Nx, outl s2 x = outl s1 x := fun x => outl_same fun e => by
    rcases S2 e with q | ⟨q1, q2⟩
    · rw [q]; exact ⟨rfl, rfl⟩
    · rw [q1, q2]; exact ⟨rfl, rfl⟩
  intro i x hx
  have hi := lt hx
  rw [O2]
  have n1 : sAt s1 (i : Nat) = 1 → outl s1 x ≠ 2 := fun g1 g2 => by
    have := leastN_none.1 N1 i hi
    rw [qual_at hx, g1, g2] at this
    simp at this
  have n2 : sAt s2 (i : Nat) = 1 → outl s1 x ≠ 1 := fun g1 g2 => by
    have := leastN_none.1 N2 i hi
    rw [qual_at hx, g1, O2, g2] at this
    simp at this
  obtain ⟨q1, q2⟩ := near1 i x hx
  have s7 : sAt s2 (i : Nat) = 7 ↔ sAt s1 (i : Nat) = 7 := by
    rcases S2 (i : Nat) with q | ⟨q, r⟩
    · rw [q]
    · rw [q, r]; decide
  refine ⟨⟨fun g => q1 (s7.1 g), fun g => s7.2 ?_⟩, ⟨fun g => ?_, fun g => ?_⟩⟩
  · by_cases c : sAt s1 (i : Nat) = 1
    · exact absurd g (n1 c)
    · by_cases d : sAt s1 (i : Nat) = 7
      · exact d
      · have := q2 c d; rw [this] at g; cases g
  · have hs1 : sAt s1 (i : Nat) = 1 := by
      rcases S2 (i : Nat) with q | ⟨q, r⟩
      · rw [← q]; exact g
      · exact q
    rcases outl_cases s1 x with c | c | c
    · exact c
    · exact absurd c (n2 g)
    · exact absurd c (n1 hs1)
  · have hs1 : sAt s1 (i : Nat) = 1 := by
      by_cases c : sAt s1 (i : Nat) = 1
      · exact c
      · by_cases d : sAt s1 (i : Nat) = 7
        · have := q1 d; rw [this] at g; cases g
        · have := q2 c d; rw [this] at g; cases g
    rcases S2 (i : Nat) with q | ⟨q, r⟩
    · rw [q]; exact hs1
    · have hne : sAt s2 (i : Nat) ≠ 1 := by rw [r]; decide
      have := (H2 (i : Nat) x (by simpa using hx) hs1 hne).2
      rw [O2] at this
      rw [this] at g; cases g
/-- one node that was handed out, or backs off, goes on -/
theorem OH.go {xs : List Nx} {ss : List Int} (h : OH xs ss) {t : Nat} {v : Int} (hc : sAt ss (t : Nat) = 2 ∨ sAt ss (t : Nat) = 3 ∨ sAt ss (t : Nat) = 4) (hv : v ≠ 1 ∧ v ≠ 7) : Nearly xs (ss.set t v) := by
  have ht : t < ss.length := by
    refine Nat.lt_of_not_le fun hl => ?_
    have : sAt ss (t : Nat) = 0 := by unfold sAt; simp [hl]
    rw [this] at hc
    rcases hc with h | h | h <;> cases h
  have hun : lostS (sAt ss (t : Nat)) = false ∧ doneS (sAt ss (t : Nat)) = false := by rcases hc with h | h | h <;> rw [h] <;> exact ⟨rfl, rfl⟩
  have same : ∀ e : Int, e.toNat ≠ t → sAt (ss.set t v) e = sAt ss e := fun e he => sAt_set_ne he
  have at_t : ∀ e : Int, e.toNat = t → sAt ss e = sAt ss (t : Nat) := fun e he => by unfold sAt; rw [he]; simp
  intro i x hx
  obtain ⟨h7, h1⟩ := h i x hx
  have near := h.nearly i x hx
  have key1 : outl ss x = 1 → outl (ss.set t v) x = 1 := by
    intro g
    rw [outl_one] at g ⊢
    refine ⟨fun e he => ?_, fun e he => ?_⟩
    · have hd := g.1 e he
      have hne : e.toNat ≠ t := fun hh => by rw [at_t e hh, hun.2] at hd; cases hd
      rw [same e hne]; exact hd
    · have hd := g.2 e he
      have hne : e.toNat ≠ t := fun hh => by rw [at_t e hh] at hd; unfold setS at hd; rw [hun.1, hun.2] at hd; cases hd
      rw [same e hne]; exact hd
  have key2 : outl ss x = 2 → outl (ss.set t v) x = 2 := by
    intro g
    rw [outl_two] at g ⊢
    obtain ⟨e, he, hl⟩ := g
    have hne : e.toNat ≠ t := fun hh => by rw [at_t e hh, hun.1] at hl; cases hl
    exact ⟨e, he, by rw [same e hne]; exact hl⟩
  by_cases c : i = t
  · subst c
    have e1 : sAt (ss.set i v) (i : Nat) = v := by rw [sAt_set ht, if_pos (by simp)]
    rw [e1]
    refine ⟨fun g => absurd g hv.2, fun _ _ => key1 (near.2 ?_ ?_)⟩
    · rcases hc with h | h | h <;> rw [h] <;> decide
    · rcases hc with h | h | h <;> rw [h] <;> decide
  · rw [same (i : Nat) (by simpa using c)]
    exact ⟨fun g => key2 (near.1 g), fun g1 g2 => key1 (near.2 g1 g2)⟩

theorem nearly_new (xs : List Nx) : Nearly xs (List.replicate xs.length 1) := fun i x hx => by
  have : sAt (List.replicate xs.length 1) (i : Nat) = 1 := by
    unfold sAt; simp [(List.getElem?_eq_some_iff.1 hx).1]
  rw [this]
  exact ⟨fun g => (by cases g), fun g => absurd rfl g⟩
end Rn
end Go.Proofs.Ytljpeochlacdnaa
