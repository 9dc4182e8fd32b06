/- Graphs: who waits for whom; the least node of a cycle; orders; who is below. -/
namespace Go.Proofs.Ytgjiaajeionofaa
namespace Gr

/-- a walk of k + 1 steps from a to b -/
def wt (E : Nat → List Nat) : Nat → Nat → Nat → Prop
  | 0, a, b => b ∈ E a
  | k + 1, a, b => ∃ x, x ∈ E a ∧ wt E k x b
/-- a waits for b -/
def Waits (E : Nat → List Nat) (a b : Nat) : Prop := ∃ k, wt E k a b
/-- a walk from a to f of k + 1 steps over greater ones alone -/
def bk (E : Nat → List Nat) (f : Nat) : Nat → Nat → Prop
  | 0, a => f ∈ E a
  | k + 1, a => ∃ x, x ∈ E a ∧ f < x ∧ bk E f k x
def Back (E : Nat → List Nat) (f a : Nat) : Prop := ∃ k, bk E f k a

variable {E : Nat → List Nat}
theorem Waits.edge {a b : Nat} (h : b ∈ E a) : Waits E a b := ⟨0, h⟩
theorem Waits.step {a x b : Nat} (h : x ∈ E a) (k : Waits E x b) : Waits E a b := by obtain ⟨k, hk⟩ := k; exact ⟨k + 1, x, h, hk⟩
theorem Waits.cases {a b : Nat} (h : Waits E a b) : b ∈ E a ∨ ∃ x, x ∈ E a ∧ Waits E x b := by
  obtain ⟨k, hk⟩ := h
  cases k with
  | zero => exact .inl hk
  | succ k => obtain ⟨x, h1, h2⟩ := hk; exact .inr ⟨x, h1, k, h2⟩
theorem wt_trans : ∀ (k : Nat) {a b c : Nat}, wt E k a b → Waits E b c → Waits E a c
  | 0, _, _, _, h, g => Waits.step h g
  | k + 1, _, _, _, ⟨_, h1, h2⟩, g => Waits.step h1 (wt_trans k h2 g)
theorem Waits.trans {a b c : Nat} (h : Waits E a b) (g : Waits E b c) : Waits E a c := by obtain ⟨k, hk⟩ := h; exact wt_trans k hk g
theorem bk_waits : ∀ (k : Nat) {f a : Nat}, bk E f k a → Waits E a f
  | 0, _, _, h => Waits.edge h
  | k + 1, _, _, ⟨_, h1, _, h2⟩ => Waits.step h1 (bk_waits k h2)
theorem Back.waits {f a : Nat} (h : Back E f a) : Waits E a f := by obtain ⟨k, hk⟩ := h; exact bk_waits k hk
theorem Back.step {f a x : Nat} (h : x ∈ E a) (hf : f < x) (g : Back E f x) : Back E f a := by obtain ⟨k, hk⟩ := g; exact ⟨k + 1, x, h, hf, hk⟩
/-- a closed walk whose nodes are not less than its end -/
theorem wt_back {m : Nat} (hm : ∀ x, Waits E x x → m ≤ x) : ∀ (k : Nat) {a : Nat}, wt E k a m → (a = m ∨ Waits E m a) → Back E m a
  | 0, _, h, _ => ⟨0, h⟩
  | k + 1, a, ⟨x, h1, h2⟩, g => by
    have hx : Waits E m x := by
      rcases g with rfl | g
      · exact Waits.edge h1
      · exact g.trans (Waits.edge h1)
    have hl := hm x (Waits.trans ⟨k, h2⟩ hx)
    by_cases e : x = m
    · subst e; exact ⟨0, h1⟩
    · exact Back.step h1 (by omega) (wt_back hm k h2 (.inr hx))
/-- the least that there is -/
theorem least {P : Nat → Prop} : ∀ {n : Nat}, P n → ∃ m, m ≤ n ∧ P m ∧ ∀ x, P x → m ≤ x := by
  intro n
  induction n using Nat.strongRecOn with
  | _ n ih =>
    intro h
    by_cases g : ∃ x, x < n ∧ P x
    · obtain ⟨x, h1, h2⟩ := g
      obtain ⟨m, h3, h4, h5⟩ := ih x h1 h2
      exact ⟨m, by omega, h4, h5⟩
    · exact ⟨n, Nat.le_refl _, h, fun x hx => Nat.le_of_not_lt fun hl => g ⟨x, hl, hx⟩⟩
/-- where some node waits for itself, the least such one does so over greater ones -/
theorem cycle_least {n : Nat} (h : Waits E n n) : ∃ m, m ≤ n ∧ Back E m m ∧ ∀ x, Waits E x x → m ≤ x := by
  obtain ⟨m, h1, ⟨k, h2⟩, h3⟩ := least (P := fun x => Waits E x x) h
  exact ⟨m, h1, wt_back h3 k h2 (.inl rfl), h3⟩

/-- the node that Check tells, from 1 on; 0: none waits for itself -/
def IsCyc (E : Nat → List Nat) (c : Nat) : Prop := (c = 0 ∧ ∀ x, ¬ Waits E x x) ∨ ∃ m, c = m + 1 ∧ Waits E m m ∧ ∀ x, Waits E x x → m ≤ x
theorem IsCyc.uniq {c d : Nat} (h : IsCyc E c) (g : IsCyc E d) : c = d := by
  rcases h with ⟨rfl, h⟩ | ⟨m, rfl, h1, h2⟩ <;> rcases g with ⟨rfl, g⟩ | ⟨k, rfl, g1, g2⟩
  · rfl
  · exact absurd g1 (h k)
  · exact absurd h1 (g m)
  · have := h2 k g1; have := g2 m h1; omega
theorem isCyc_none {n : Nat} (hE : ∀ a, n ≤ a → E a = []) (h : ∀ m, m < n → ¬ Back E m m) : IsCyc E 0 := by
  refine .inl ⟨rfl, fun x hx => ?_⟩
  obtain ⟨m, _, h2, _⟩ := cycle_least hx
  refine h m (Nat.lt_of_not_le fun hl => ?_) h2
  obtain ⟨k, hk⟩ := h2
  cases k with
  | zero => rw [show bk E m 0 m = (m ∈ E m) from rfl, hE m hl] at hk; cases hk
  | succ k => obtain ⟨x, hx, _⟩ := hk; rw [hE m hl] at hx; cases hx
theorem isCyc_some {f : Nat} (h : ∀ m, m < f → ¬ Back E m m) (hf : Back E f f) : IsCyc E (f + 1) := by
  refine .inr ⟨f, rfl, hf.waits, fun x hx => Nat.le_of_not_lt fun hl => ?_⟩
  obtain ⟨m, h1, h2, _⟩ := cycle_least hx
  exact h m (by omega) h2

/-- what a search below a node leaves: S: seen ahead, T: seen behind -/
structure Srch (E : Nat → List Nat) (f : Nat) (S T : Nat → Prop) (xs : List Nat) (r : Bool) : Prop where
  mono : ∀ x, S x → T x
  yes : r = true → ∃ x, x ∈ xs ∧ (x = f ∨ f < x ∧ Back E f x)
  no : r = false → (∀ x, x ∈ xs → x ≠ f ∧ (f < x → T x)) ∧ ∀ x, T x → ¬ S x → ∀ y, y ∈ E x → y ≠ f ∧ (f < y → T y)
theorem Srch.nil (f : Nat) (S : Nat → Prop) : Srch E f S S [] false := ⟨fun _ h => h, (fun h => by cases h), fun _ => ⟨(fun x h => by cases h), fun x h g => absurd h g⟩⟩
theorem Srch.hit {f x : Nat} {S T : Nat → Prop} {xs : List Nat} (hm : ∀ x, S x → T x) (hx : x ∈ xs) (h : x = f ∨ f < x ∧ Back E f x) : Srch E f S T xs true := ⟨hm, fun _ => ⟨x, hx, h⟩, fun h => by cases h⟩
/-- one after the other -/
theorem Srch.app {f : Nat} {S T U : Nat → Prop} {xs ys : List Nat} {r : Bool} (h : Srch E f S T xs false) (g : Srch E f T U ys r) : Srch E f S U (xs ++ ys) r := by
  refine ⟨fun x hx => g.mono x (h.mono x hx), fun hr => ?_, fun hr => ?_⟩
  · obtain ⟨x, h1, h2⟩ := g.yes hr
    exact ⟨x, List.mem_append.2 (.inr h1), h2⟩
  · obtain ⟨h1, h2⟩ := h.no rfl
    obtain ⟨g1, g2⟩ := g.no hr
    refine ⟨fun x hx => ?_, fun x hx hs y hy => ?_⟩
    · rcases List.mem_append.1 hx with hx | hx
      · exact ⟨(h1 x hx).1, fun hf => g.mono x ((h1 x hx).2 hf)⟩
      · exact g1 x hx
    · rcases Classical.em (T x) with ht | ht
      · exact ⟨(h2 x ht hs y hy).1, fun hf => g.mono y ((h2 x ht hs y hy).2 hf)⟩
      · exact g2 x hx ht y hy
theorem Srch.yesL {f : Nat} {S T : Nat → Prop} {xs : List Nat} (ys : List Nat) (h : Srch E f S T xs true) : Srch E f S T (xs ++ ys) true := by
  obtain ⟨x, h1, h2⟩ := h.yes rfl
  exact ⟨h.mono, fun _ => ⟨x, List.mem_append.2 (.inl h1), h2⟩, fun e => by cases e⟩
/-- a node that is new: it is marked, then its edges are gone through -/
theorem Srch.down {f x : Nat} {S S' T : Nat → Prop} {r : Bool} (hS : ∀ y, S' y ↔ S y ∨ y = x) (hf : f < x) (h : Srch E f S' T (E x) r) : Srch E f S T [x] r := by
  refine ⟨fun y hy => h.mono y ((hS y).2 (.inl hy)), fun hr => ?_, fun hr => ?_⟩
  · obtain ⟨y, h1, h2⟩ := h.yes hr
    refine ⟨x, List.mem_singleton.2 rfl, .inr ⟨hf, ?_⟩⟩
    rcases h2 with rfl | ⟨h2, h3⟩
    · exact ⟨0, h1⟩
    · exact Back.step h1 h2 h3
  · obtain ⟨h1, h2⟩ := h.no hr
    refine ⟨fun y hy => ?_, fun y hy hs z hz => ?_⟩
    · rw [List.mem_singleton.1 hy]
      exact ⟨by omega, fun _ => h.mono x ((hS x).2 (.inr rfl))⟩
    · by_cases e : y = x
      · subst e; exact h1 z hz
      · exact h2 y hy (fun g => by rcases (hS y).1 g with g | g <;> contradiction) z hz
/-- one that is known -/
theorem Srch.known {f x : Nat} {S : Nat → Prop} (h : x ≤ f ∨ S x) (hx : x ≠ f) : Srch E f S S [x] false :=
  ⟨fun _ h => h, (fun h => by cases h), fun _ => ⟨fun y hy => by rw [List.mem_singleton.1 hy]; exact ⟨hx, fun hf => h.elim (fun g => absurd hf (by omega)) id⟩, fun y hy hs => absurd hy hs⟩⟩
/-- the whole search -/
theorem Srch.whole {f : Nat} {S T : Nat → Prop} {r : Bool} (h : Srch E f S T (E f) r) (hS : ∀ x, ¬ S x) : r = true ↔ Back E f f := by
  constructor
  · intro hr
    obtain ⟨x, h1, h2⟩ := h.yes hr
    rcases h2 with rfl | ⟨h2, h3⟩
    · exact ⟨0, h1⟩
    · exact Back.step h1 h2 h3
  · rintro ⟨k, hk⟩
    cases r with
    | true => rfl
    | false =>
      obtain ⟨h1, h2⟩ := h.no rfl
      have key : ∀ (k a : Nat), (∀ y, y ∈ E a → y ≠ f ∧ (f < y → T y)) → ¬ bk E f k a := by
        intro k
        induction k with
        | zero => intro a ha hb; exact (ha f hb).1 rfl
        | succ k ih =>
          rintro a ha ⟨x, g1, g2, g3⟩
          exact ih x (h2 x ((ha x g1).2 g2) (hS x)) g3
      exact absurd hk (key k f h1)
end Gr
end Go.Proofs.Ytgjiaajeionofaa
