import Derived.Test.YtbjcckfhfbjchaaGreatCdB
import Derived.Deep.RegionHeld3
import Derived.Test.YtbjcckfhfbjchaaGreatCDs
import Derived.Test.YtbjcckfhfbjchaaGreatPRow
/- Graphs: who waits for whom; the least node of a cycle; orders; who is below. -/
namespace Go.Proofs.YtbjcckfhfbjchaaGreat
namespace Gr

/-- a walk of k + 1 steps from a to b -/
def wt (E : Nat → List Nat) : Nat → Nat → Nat → Prop
  | 0, a, b => b ∈ E a
  | k + 1, a, b => ∃ x, x ∈ E a ∧ wt E k x b
/-- a waits for b -/
def Waits (E : Nat → List Nat) (a b : Nat) : Prop := ∃ k, wt E k a b
/-- a walk from a to f of k + 1 steps over greater ones alone -/
def bk (E : Nat → List Nat) (f : Nat) : Nat → Nat → Prop
  | 0, a => f ∈ E a
  | k + 1, a => ∃ x, x ∈ E a ∧ f < x ∧ bk E f k x
def Back (E : Nat → List Nat) (f a : Nat) : Prop := ∃ k, bk E f k a

variable {E : Nat → List Nat}
theorem Waits.edge {a b : Nat} (h : b ∈ E a) : Waits E a b := ⟨0, h⟩
theorem Waits.step {a x b : Nat} (h : x ∈ E a) (k : Waits E x b) : Waits E a b := by obtain ⟨k, hk⟩ := k; exact ⟨k + 1, x, h, hk⟩
theorem Waits.cases {a b : Nat} (h : Waits E a b) : b ∈ E a ∨ ∃ x, x ∈ E a ∧ Waits E x b := by
  obtain ⟨k, hk⟩ := h
  cases k with
  | zero => exact .inl hk
  | succ k => obtain ⟨x, h1, h2⟩ := hk; exact .inr ⟨x, h1, k, h2⟩
theorem wt_trans : ∀ (k : Nat) {a b c : Nat}, wt E k a b → Waits E b c → Waits E a c
  | 0, _, _, _, h, g => Waits.step h g
  | k + 1, _, _, _, ⟨_, h1, h2⟩, g => Waits.step h1 (wt_trans k h2 g)
theorem Waits.trans {a b c : Nat} (h : Waits E a b) (g : Waits E b c) : Waits E a c := by obtain ⟨k, hk⟩ := h; exact wt_trans k hk g
theorem bk_waits : ∀ (k : Nat) {f a : Nat}, bk E f k a → Waits E a f
  | 0, _, _, h => Waits.edge h
  | k + 1, _, _, ⟨_, h1, _, h2⟩ => Waits.step h1 (bk_waits k h2)
theorem Back.waits {f a : Nat} (h : Back E f a) : Waits E a f := by obtain ⟨k, hk⟩ := h; exact bk_waits k hk
theorem Back.step {f a x : Nat} (h : x ∈ E a) (hf : f < x) (g : Back E f x) : Back E f a := by obtain ⟨k, hk⟩ := g; exact ⟨k + 1, x, h, hf, hk⟩
/-- a closed walk whose nodes are not less than its end -/
theorem wt_back {m : Nat} (hm : ∀ x, Waits E x x → m ≤ x) : ∀ (k : Nat) {a : Nat}, wt E k a m → (a = m ∨ Waits E m a) → Back E m a
  | 0, _, h, _ => ⟨0, h⟩
  | k + 1, a, ⟨x, h1, h2⟩, g => by
    have hx : Waits E m x := by
      rcases g with rfl | g
      · exact Waits.edge h1
      · exact g.trans (Waits.edge h1)
    have hl := hm x (Waits.trans ⟨k, h2⟩ hx)
    by_cases e : x = m
    · subst e; exact ⟨0, h1⟩
    · exact Back.step h1 (by omega) (wt_back hm k h2 (.inr hx))
/-- the least that there is -/
theorem least {P : Nat → Prop} : ∀ {n : Nat}, P n → ∃ m, m ≤ n ∧ P m ∧ ∀ x, P x → m ≤ x := by
  intro n
  induction n using Nat.strongRecOn with
  | _ n ih =>
    intro h
    by_cases g : ∃ x, x < n ∧ P x
    · obtain ⟨x, h1, h2⟩ := g
      obtain ⟨m, h3, h4, h5⟩ := ih x h1 h2
      exact ⟨m, by omega, h4, h5⟩
    · exact ⟨n, Nat.le_refl _, h, fun x hx => Nat.le_of_not_lt fun hl => g ⟨x, hl, hx⟩⟩
/-- where some node waits for itself, the least such one does so over greater ones -/
theorem cycle_least {n : Nat} (h : Waits E n n) : ∃ m, m ≤ n ∧ Back E m m ∧ ∀ x, Waits E x x → m ≤ x := by
  obtain ⟨m, h1, ⟨k, h2⟩, h3⟩ := least (P := fun x => Waits E x x) h
  exact ⟨m, h1, wt_back h3 k h2 (.inl rfl), h3⟩

/-- the node that Check tells, from 1 on; 0: none waits for itself -/
def IsCyc (E : Nat → List Nat) (c : Nat) : Prop := (c = 0 ∧ ∀ x, ¬ Waits E x x) ∨ ∃ m, c = m + 1 ∧ Waits E m m ∧ ∀ x, Waits E x x → m ≤ x
theorem IsCyc.uniq {c d : Nat} (h : IsCyc E c) (g : IsCyc E d) : c = d := by
  rcases h with ⟨rfl, h⟩ | ⟨m, rfl, h1, h2⟩ <;> rcases g with ⟨rfl, g⟩ | ⟨k, rfl, g1, g2⟩
  · rfl
  · exact absurd g1 (h k)
  · exact absurd h1 (g m)
  · have := h2 k g1; have := g2 m h1; omega
theorem isCyc_none {n : Nat} (hE : ∀ a, n ≤ a → E a = []) (h : ∀ m, m < n → ¬ Back E m m) : IsCyc E 0 := by
  refine .inl ⟨rfl, fun x hx => ?_⟩
  obtain ⟨m, _, h2, _⟩ := cycle_least hx
  refine h m (Nat.lt_of_not_le fun hl => ?_) h2
  obtain ⟨k, hk⟩ := h2
  cases k with
  | zero => rw [show bk E m 0 m = (m ∈ E m) from rfl, hE m hl] at hk; cases hk
  | succ k => obtain ⟨x, hx, _⟩ := hk; rw [hE m hl] at hx; cases hx
theorem isCyc_some {f : Nat} (h : ∀ m, m < f → ¬ Back E m m) (hf : Back E f f) : IsCyc E (f + 1) := by
  refine .inr ⟨f, rfl, hf.waits, fun x hx => Nat.le_of_not_lt fun hl => ?_⟩
  obtain ⟨m, h1, h2, _⟩ := cycle_least hx
  exact h m (by omega) h2

/-- what a search below a node leaves: S: seen ahead, T: seen behind -/
structure Srch (E : Nat → List Nat) (f : Nat) (S T : Nat → Prop) (xs : List Nat) (r : Bool) : Prop where
  mono : ∀ x, S x → T x
  yes : r = true → ∃ x, x ∈ xs ∧ (x = f ∨ f < x ∧ Back E f x)
  no : r = false → (∀ x, x ∈ xs → x ≠ f ∧ (f < x → T x)) ∧ ∀ x, T x → ¬ S x → ∀ y, y ∈ E x → y ≠ f ∧ (f < y → T y)
theorem Srch.nil (f : Nat) (S : Nat → Prop) : Srch E f S S [] false := ⟨fun _ h => h, (fun h => by cases h), fun _ => ⟨(fun x h => by cases h), fun x h g => absurd h g⟩⟩
theorem Srch.hit {f x : Nat} {S T : Nat → Prop} {xs : List Nat} (hm : ∀ x, S x → T x) (hx : x ∈ xs) (h : x = f ∨ f < x ∧ Back E f x) : Srch E f S T xs true := ⟨hm, fun _ => ⟨x, hx, h⟩, fun h => by cases h⟩
/-- one after the other -/
theorem Srch.app {f : Nat} {S T U : Nat → Prop} {xs ys : List Nat} {r : Bool} (h : Srch E f S T xs false) (g : Srch E f T U ys r) : Srch E f S U (xs ++ ys) r := by
  refine ⟨fun x hx => g.mono x (h.mono x hx), fun hr => ?_, fun hr => ?_⟩
  · obtain ⟨x, h1, h2⟩ := g.yes hr
    exact ⟨x, List.mem_append.2 (.inr h1), h2⟩
  · obtain ⟨h1, h2⟩ := h.no rfl
    obtain ⟨g1, g2⟩ := g.no hr
    refine ⟨fun x hx => ?_, fun x hx hs y hy => ?_⟩
    · rcases List.mem_append.1 hx with hx | hx
      · exact ⟨(h1 x hx).1, fun hf => g.mono x ((h1 x hx).2 hf)⟩
      · exact g1 x hx
    · rcases Classical.em (T x) with ht | ht
      · exact ⟨(h2 x ht hs y hy).1, fun hf => g.mono y ((h2 x ht hs y hy).2 hf)⟩
      · exact g2 x hx ht y hy
theorem Srch.yesL {f : Nat} {S T : Nat → Prop} {xs : List Nat} (ys : List Nat) (h : Srch E f S T xs true) : Srch E f S T (xs ++ ys) true := by
  obtain ⟨x, h1, h2⟩ := h.yes rfl
  exact ⟨h.mono, fun _ => ⟨x, List.mem_append.2 (.inl h1), h2⟩, fun e => by cases e⟩
/-- a node that is new: it is marked, then its edges are gone through -/
theorem Srch.down {f x : Nat} {S S' T : Nat → Prop} {r : Bool} (hS : ∀ y, S' y ↔ S y ∨ y = x) (hf : f < x) (h : Srch E f S' T (E x) r) : Srch E f S T [x] r := by
  refine ⟨fun y hy => h.mono y ((hS y).2 (.inl hy)), fun hr => ?_, fun hr => ?_⟩
  · obtain ⟨y, h1, h2⟩ := h.yes hr
    refine ⟨x, List.mem_singleton.2 rfl, .inr ⟨hf, ?_⟩⟩
    rcases h2 with rfl | ⟨h2, h3⟩
    · exact ⟨0, h1⟩
    · exact Back.step h1 h2 h3
  · obtain ⟨h1, h2⟩ := h.no hr
    refine ⟨fun y hy => ?_, fun y hy hs z hz => ?_⟩
    · rw [List.mem_singleton.1 hy]
      exact ⟨by omega, fun _ => h.mono x ((hS x).2 (.inr rfl))⟩
    · by_cases e : y = x
      · subst e; exact h1 z hz
      · exact h2 y hy (fun g => by rcases (hS y).1 g with g | g <;> contradiction) z hz
/-- one that is known -/
theorem Srch.known {f x : Nat} {S : Nat → Prop} (h : x ≤ f ∨ S x) (hx : x ≠ f) : Srch E f S S [x] false :=
  ⟨fun _ h => h, (fun h => by cases h), fun _ => ⟨fun y hy => by rw [List.mem_singleton.1 hy]; exact ⟨hx, fun hf => h.elim (fun g => absurd hf (by omega)) id⟩, fun y hy hs => absurd hy hs⟩⟩
/-- the whole search -/
theorem Srch.whole {f : Nat} {S T : Nat → Prop} {r : Bool} (h : Srch E f S T (E f) r) (hS : ∀ x, ¬ S x) : r = true ↔ Back E f f := by
  constructor
  · intro hr
    obtain ⟨x, h1, h2⟩ := h.yes hr
    rcases h2 with rfl | ⟨h2, h3⟩
    · exact ⟨0, h1⟩
    · exact Back.step h1 h2 h3
  · rintro ⟨k, hk⟩
    cases r with
    | true => rfl
    | false =>
      obtain ⟨h1, h2⟩ := h.no rfl
      have key : ∀ (k a : Nat), (∀ y, y ∈ E a → y ≠ f ∧ (f < y → T y)) → ¬ bk E f k a := by
        intro k
        induction k with
        | zero => intro a ha hb; exact (ha f hb).1 rfl
        | succ k ih =>
          rintro a ha ⟨x, g1, g2, g3⟩
          exact ih x (h2 x ((ha x g1).2 g2) (hS x)) g3
      exact absurd hk (key k f h1)
end Gr
end Go.Proofs.YtbjcckfhfbjchaaGreat

/- Chapter 10: nodes and lists of numbers in memory. -/
namespace Go.Proofs.YtbjcckfhfbjchaaGreat
namespace Gr
open Go.RowKit

/-- a node, as its cells -/
structure Nd where
  nm : ByteArray
  la : Int
  bu : Int
  cl : Int
  be : Int
  ba : Int
  ca : Int
  ji : Int
  ne : Option Addr × Nat × Nat
  af : Option Addr × Nat × Nat
def Nd.row (q : Nd) : List Value := [.string q.nm, .int .i64 q.la, .int .i64 q.bu, .int .i64 q.cl, .int .i64 q.be, .int .i64 q.ba, .int .i64 q.ca, .int .i64 q.ji, .slice q.ne.1 q.ne.2.1 q.ne.2.2, .slice q.af.1 q.af.2.1 q.af.2.2]
/-- a node, and the numbers of its lists -/
structure No where
  q : Nd
  nl : List Int
  al : List Int

/-- a node in memory -/
def NodeAt (w : World) (B o : Nat) (q : Nd) : Prop := ∀ j v, q.row[j]? = some v → w.cell? ⟨B, o + j, none⟩ = some v
theorem NodeAt.keep {w w' : World} {B o : Nat} {q : Nd} {S : Nat → Prop} (h : NodeAt w B o q) (k : Keep S w w') (hB : ¬ S B) : NodeAt w' B o q := fun j v hv => k.cell (h j v hv) hB
theorem NodeAt.new (w : World) (q : Nd) (t : TypeId) : NodeAt (w.alloc (.cells q.row.toArray t)) w.heap.size 0 q :=
  fun j v hv => by rw [Nat.zero_add, World.cell?_alloc_mark]; simpa using hv
theorem NodeAt.all {w : World} {B o : Nat} {q : Nd} (h : NodeAt w B o q) : w.cell? ⟨B, o, none⟩ = some (.string q.nm) ∧ w.cell? ⟨B, o + 1, none⟩ = some (.int .i64 q.la) ∧ w.cell? ⟨B, o + 2, none⟩ = some (.int .i64 q.bu) ∧ w.cell? ⟨B, o + 3, none⟩ = some (.int .i64 q.cl) ∧ w.cell? ⟨B, o + 4, none⟩ = some (.int .i64 q.be) ∧ w.cell? ⟨B, o + 5, none⟩ = some (.int .i64 q.ba) ∧ w.cell? ⟨B, o + 6, none⟩ = some (.int .i64 q.ca) ∧ w.cell? ⟨B, o + 7, none⟩ = some (.int .i64 q.ji) ∧ w.cell? ⟨B, o + 8, none⟩ = some (.slice q.ne.1 q.ne.2.1 q.ne.2.2) ∧ w.cell? ⟨B, o + 9, none⟩ = some (.slice q.af.1 q.af.2.1 q.af.2.2) :=
  ⟨h 0 _ rfl, h 1 _ rfl, h 2 _ rfl, h 3 _ rfl, h 4 _ rfl, h 5 _ rfl, h 6 _ rfl, h 7 _ rfl, h 8 _ rfl, h 9 _ rfl⟩

/-- a list of numbers in memory, below block B -/
def RdZ (B : Nat) (w : World) (s : Option Addr × Nat × Nat) (z : List Int) : Prop :=
  s.2.1 = z.length ∧ s.2.1 ≤ 17592186044416 ∧ (s.2.1 = 0 ∨ ∃ g off, s.1 = some ⟨g, off, none⟩ ∧ g < B ∧ ∀ j x, z[j]? = some x → w.cell? ⟨g, off + j, none⟩ = some (.int .i64 x))
theorem RdZ.keep {B : Nat} {w w' : World} {s : Option Addr × Nat × Nat} {z : List Int} {S : Nat → Prop} (h : RdZ B w s z) (k : Keep S w w') (hS : ∀ i, S i → B ≤ i) : RdZ B w' s z := by
  obtain ⟨h1, h2, h3⟩ := h
  refine ⟨h1, h2, ?_⟩
  rcases h3 with h3 | ⟨g, off, e, hg, h3⟩
  · exact .inl h3
  · exact .inr ⟨g, off, e, hg, fun j x hj => k.cell (h3 j x hj) fun hs => by have := hS _ hs; simp at this; omega⟩
theorem RdZ.mono {B C : Nat} {w : World} {s : Option Addr × Nat × Nat} {z : List Int} (h : RdZ B w s z) (hC : B ≤ C) : RdZ C w s z := by
  obtain ⟨h1, h2, h3⟩ := h
  refine ⟨h1, h2, ?_⟩
  rcases h3 with h3 | ⟨g, off, e, hg, h3⟩
  · exact .inl h3
  · exact .inr ⟨g, off, e, by omega, h3⟩
/-- a row of nodes in memory, with their lists, below block B -/
def RdP (B : Nat) (w : World) (s : Option Addr × Nat × Nat) (xs : List No) : Prop :=
  s.2.1 = xs.length ∧ s.2.1 ≤ 1172812402926 ∧ (s.2.1 = 0 ∨ ∃ g off, s.1 = some ⟨g, off, none⟩ ∧ g < B ∧ ∀ i x, xs[i]? = some x → NodeAt w g (off + i * 10) x.q) ∧ ∀ x ∈ xs, RdZ B w x.q.ne x.nl ∧ RdZ B w x.q.af x.al
theorem RdP.keep {B : Nat} {w w' : World} {s : Option Addr × Nat × Nat} {xs : List No} {S : Nat → Prop} (h : RdP B w s xs) (k : Keep S w w') (hS : ∀ i, S i → B ≤ i) : RdP B w' s xs := by
  obtain ⟨h1, h2, h3, h4⟩ := h
  refine ⟨h1, h2, ?_, fun x hx => ⟨(h4 x hx).1.keep k hS, (h4 x hx).2.keep k hS⟩⟩
  rcases h3 with h3 | ⟨g, off, e, hg, h3⟩
  · exact .inl h3
  · exact .inr ⟨g, off, e, hg, fun i x hx => (h3 i x hx).keep k fun hs => by have := hS _ hs; omega⟩
theorem RdP.mono {B C : Nat} {w : World} {s : Option Addr × Nat × Nat} {xs : List No} (h : RdP B w s xs) (hC : B ≤ C) : RdP C w s xs := by
  obtain ⟨h1, h2, h3, h4⟩ := h
  refine ⟨h1, h2, ?_, fun x hx => ⟨(h4 x hx).1.mono hC, (h4 x hx).2.mono hC⟩⟩
  rcases h3 with h3 | ⟨g, off, e, hg, h3⟩
  · exact .inl h3
  · exact .inr ⟨g, off, e, by omega, h3⟩
theorem RdP.new {B : Nat} {w w' : World} {s : Option Addr × Nat × Nat} {xs : List No} (h : RdP B w s xs) (k : Keep (fun _ => False) w w') : RdP B w' s xs := h.keep k fun _ f => f.elim
theorem RdZ.new {B : Nat} {w w' : World} {s : Option Addr × Nat × Nat} {z : List Int} (h : RdZ B w s z) (k : Keep (fun _ => False) w w') : RdZ B w' s z := h.keep k fun _ f => f.elim
/-- one node of the row -/
theorem RdP.at {B : Nat} {w : World} {s : Option Addr × Nat × Nat} {xs : List No} (h : RdP B w s xs) {i : Nat} (hi : i < s.2.1) : ∃ g off x, s.1 = some ⟨g, off, none⟩ ∧ g < B ∧ xs[i]? = some x ∧ NodeAt w g (off + i * 10) x.q ∧ RdZ B w x.q.ne x.nl ∧ RdZ B w x.q.af x.al := by
  obtain ⟨h1, h2, h3, h4⟩ := h
  obtain ⟨g, off, e, hg, h3⟩ := h3.resolve_left (by omega)
  have hx : xs[i]? = some (xs[i]'(by omega)) := List.getElem?_eq_getElem _
  exact ⟨g, off, _, e, hg, hx, h3 i _ hx, h4 _ (List.mem_of_getElem? hx)⟩
theorem RdZ.at {B : Nat} {w : World} {s : Option Addr × Nat × Nat} {z : List Int} (h : RdZ B w s z) {i : Nat} (hi : i < s.2.1) : ∃ g off x, s.1 = some ⟨g, off, none⟩ ∧ g < B ∧ z[i]? = some x ∧ w.cell? ⟨g, off + i, none⟩ = some (.int .i64 x) := by
  obtain ⟨h1, h2, h3⟩ := h
  obtain ⟨g, off, e, hg, h3⟩ := h3.resolve_left (by omega)
  have hx : z[i]? = some (z[i]'(by omega)) := List.getElem?_eq_getElem _
  exact ⟨g, off, _, e, hg, hx, h3 i _ hx⟩
theorem take_snoc {α : Type} (z : List α) (i : Nat) (x : α) (h : z[i]? = some x) : z.take (i + 1) = z.take i ++ [x] := by
  rw [List.take_add_one, h]; rfl

/- which plans may be -/
def wI (n a b : Int) : Bool := decide (a ≤ n) && decide (n ≤ b)
def inNm (b : UInt8) : Bool := decide (97 ≤ b.toNat) && decide (b.toNat ≤ 122) || decide (48 ≤ b.toNat) && decide (b.toNat ≤ 57) || decide (b.toNat = 45) || decide (b.toNat = 95) || decide (b.toNat = 46)
def isNm (s : ByteArray) : Bool := wI s.size 1 40 && s.data.toList.all inNm
def lOk (ah : Int) (z : List Int) (own cnt : Int) : Bool := match z with
  | [] => true
  | x :: z => !(decide (x ≤ ah) || decide (cnt ≤ x) || decide (x = own)) && lOk x z own cnt
def fOk (q : Nd) : Bool := wI q.la 0 15 && wI q.bu 1 100 && wI q.cl 1 1099511627776 && wI q.be 0 1099511627776 && wI q.ca 1 1099511627776 && wI q.ba 1 q.ca && wI q.ji 0 1099511627776
def eOk (x : No) (own cnt : Int) : Bool := lOk (-1) x.nl own cnt && lOk (-1) x.al own cnt && !(x.al.any fun e => x.nl.contains e)
def edges (xs : List No) : Nat := (xs.map fun x => x.nl.length + x.al.length).sum
end Gr
end Go.Proofs.YtbjcckfhfbjchaaGreat

/- Codec: a list of nodes put: putAll, Lists. -/
namespace Go.Proofs.YtbjcckfhfbjchaaGreat
namespace Cd
open Go.RowKit Go.Deep

/-- nodes that can be read, in blocks of D -/
def ElsN (D : Nat → Prop) (w : World) (a : Option Addr) (n : Nat) (qs : List Gr.Nd) : Prop :=
  n = qs.length ∧ n ≤ 16777216 ∧ (n = 0 ∨ ∃ b off, a = some ⟨b, off, none⟩ ∧ D b ∧ ∀ i q, qs[i]? = some q → w.rangeAt b (off + i * 10) q.row)
set_option maxRecDepth 10000 in
set_option maxHeartbeats 2000000 in
theorem putAllNd (D S : Nat → Prop) (wf w0 : World) (p : Nat) (fn1 fn2 : FuncId) (cap1 cap2 : Array Value) (a : Option Addr) (n c : Nat) (qs : List Gr.Nd) (fs : List (K.WS → K.WS)) (s : K.WS) (w : World)
    (ha : Agree D wf w0) (hd : ∀ k, D k → ¬ S k) (h : WAt S w0 p s w) (he : ElsN D wf a n qs) (hl : fs.length = n) (hp : ∀ (i : Nat) q f, qs[i]? = some q → fs[i]? = some f → PutsG D wf fn1 cap1 (.agg q.row.toArray) f)
    (hc : ∀ args w, (callFunc fn1 args).run Tryz.prog w = .ok (.enter fn1 args) w) :
    Calls Tryz.prog 116 #[.pointer (some ⟨p, 0, none⟩), .agg #[.func (.func fn1) #[] cap1, .func (.func fn2) #[] cap2], .slice a n c] w fun en w' => en = .returned (.tuple #[]) ∧ WAt S w0 p (allW fs s) w' := by
  have HA := hide ha
  have HD := hide hd
  have HE := hide he
  have HL := hide hl
  have HP := hide hp
  have HC := hide hc
  have hn := he.2.1
  have hba := (Below.refl w.heap.size w).alloc (Nat.le_refl _) (.cells #[.func (.func fn1) #[] cap1, .func (.func fn2) #[] cap2] 119)
  have HH := hide (h.below hba)
  have HX := hide (heap_alloc_new w (.cells #[.func (.func fn1) #[] cap1, .func (.func fn2) #[] cap2] 119))
  clear ha hd he hl hp hc h hba
  go_enter Tryz.func116, Tryz.ntmps116
  go_wp2
  generalize w.alloc (.cells #[.func (.func fn1) #[] cap1, .func (.func fn2) #[] cap2] 119) = wa at *
  generalize w.heap.size = bx at *
  go_loopw [11] (fun i wx => ∃ k : Nat, k ≤ n ∧ i = .int .i64 (k : Nat) ∧ WAt S w0 p (allW (fs.take k) s) wx ∧ wx.heap[bx]? = some (.cells #[.func (.func fn1) #[] cap1, .func (.func fn2) #[] cap2] 119 (0, 0))) (fun i _ => n - (intOf i).toNat)
  case atStart => exact ⟨0, Nat.zero_le _, rfl, HH.out, HX.out⟩
  case round =>
    obtain ⟨k, hk, rfl, hw, hbx⟩ := hrel
    have HW := hide hw
    have HBX := hide hbx
    clear hw hbx
    by_cases hlt : k < n
    · obtain ⟨f, hf⟩ : ∃ f, fs[k]? = some f := ⟨_, List.getElem?_eq_getElem (by have := HL.out; omega)⟩
      obtain ⟨x, hx⟩ : ∃ x, qs[k]? = some x := ⟨_, List.getElem?_eq_getElem (by have := HE.out.1; omega)⟩
      have HAG := hide (HA.out.keep HW.out.keep HD.out)
      obtain ⟨b, off, rfl, hrow⟩ : ∃ b off, a = some ⟨b, off, none⟩ ∧ wr.rangeAt b (off + k * 10) x.row := by
        rcases HE.out.2.2 with h0 | ⟨b, off, rfl, db, hr⟩
        · omega
        · exact ⟨b, off, rfl, fun j u hu => HAG.out.cell (hr k x hx j u hu) db⟩
      have hpf := HP.out k x f hx hf
      have HSC := hide (allW_succ fs k f hf s)
      have HST := hide (allW_stop fs k s)
      obtain ⟨nm, la, bu, cl, be, ba, ca, ji, ⟨x1, x2, x3⟩, ⟨y1, y2, y3⟩⟩ := x
      have HPF : Hid (PutsG D wf fn1 cap1 (.agg #[.string nm, .int .i64 la, .int .i64 bu, .int .i64 cl, .int .i64 be, .int .i64 ba, .int .i64 ca, .int .i64 ji, .slice x1 x2 x3, .slice y1 y2 y3]) f) := hpf
      have HRW : Hid (wr.rangeAt b (off + k * 10) [.string nm, .int .i64 la, .int .i64 bu, .int .i64 cl, .int .i64 be, .int .i64 ba, .int .i64 ca, .int .i64 ji, .slice x1 x2 x3, .slice y1 y2 y3]) := hrow
      have HI : Hid ((Tryz.prog.info? 57).map (·.size) = some (#[.string nm, .int .i64 la, .int .i64 bu, .int .i64 cl, .int .i64 be, .int .i64 ba, .int .i64 ca, .int .i64 ji, .slice x1 x2 x3, .slice y1 y2 y3] : Array Value).size) := sizeNd
      have HO1 := hide (onesNd nm la bu cl be ba ca ji x1 x2 x3 y1 y2 y3)
      have HIF : Hid ((Tryz.prog.info? 119).map (·.size) = some (#[.func (.func fn1) #[] cap1, .func (.func fn2) #[] cap2] : Array Value).size) := by show _ = _; kernel_rfl
      clear hf hx hrow hpf
      have HA0 := hide (heap_alloc_new wr (.cells #[.string ⟨#[]⟩, .int .i64 0, .int .i64 0, .int .i64 0, .int .i64 0, .int .i64 0, .int .i64 0, .int .i64 0, .slice none 0 0, .slice none 0 0] 57))
      have hx5 := setRow_heap (wr.alloc (.cells #[.string ⟨#[]⟩, .int .i64 0, .int .i64 0, .int .i64 0, .int .i64 0, .int .i64 0, .int .i64 0, .int .i64 0, .slice none 0 0, .slice none 0 0] 57)) wr.heap.size _ #[.string nm, .int .i64 la, .int .i64 bu, .int .i64 cl, .int .i64 be, .int .i64 ba, .int .i64 ca, .int .i64 ji, .slice x1 x2 x3, .slice y1 y2 y3] _ _ HA0.out
      have hb5 : Below wr.heap.size wr ((wr.alloc (.cells #[.string ⟨#[]⟩, .int .i64 0, .int .i64 0, .int .i64 0, .int .i64 0, .int .i64 0, .int .i64 0, .int .i64 0, .slice none 0 0, .slice none 0 0] 57)).setRow wr.heap.size #[.string nm, .int .i64 la, .int .i64 bu, .int .i64 cl, .int .i64 be, .int .i64 ba, .int .i64 ca, .int .i64 ji, .slice x1 x2 x3, .slice y1 y2 y3]) :=
        ((Below.refl _ _).alloc (Nat.le_refl _) _).trans ((keep_row _ _ _).below (by simp) fun k e => by rw [e]; exact Nat.le_refl _)
      have HX5 := hide hx5
      have HB5 := hide hb5
      clear hx5 hb5
      go_upto_region 4 with (first
        | (refine wpList_load_mid rfl 57 _ rfl b (off + k * 10) rfl [.string nm, .int .i64 la, .int .i64 bu, .int .i64 cl, .int .i64 be, .int .i64 ba, .int .i64 ca, .int .i64 ji, .slice x1 x2 x3, .slice y1 y2 y3] _ HRW.out Tryz.underlying57 rfl HI.out ?_)
        | (refine wpList_store_row rfl 57 _ _ rfl wr.heap.size #[.string nm, .int .i64 la, .int .i64 bu, .int .i64 cl, .int .i64 be, .int .i64 ba, .int .i64 ca, .int .i64 ji, .slice x1 x2 x3, .slice y1 y2 y3] rfl rfl 57 _ HA0.out HI.out rfl HO1.out ?_))
      change Code.wp _ _ _ _ ((wr.alloc (.cells #[.string ⟨#[]⟩, .int .i64 0, .int .i64 0, .int .i64 0, .int .i64 0, .int .i64 0, .int .i64 0, .int .i64 0, .slice none 0 0, .slice none 0 0] 57)).setRow wr.heap.size #[.string nm, .int .i64 la, .int .i64 bu, .int .i64 cl, .int .i64 be, .int .i64 ba, .int .i64 ca, .int .i64 ji, .slice x1 x2 x3, .slice y1 y2 y3])
      generalize (wr.alloc (.cells #[.string ⟨#[]⟩, .int .i64 0, .int .i64 0, .int .i64 0, .int .i64 0, .int .i64 0, .int .i64 0, .int .i64 0, .slice none 0 0, .slice none 0 0] 57)).setRow wr.heap.size #[.string nm, .int .i64 la, .int .i64 bu, .int .i64 cl, .int .i64 be, .int .i64 ba, .int .i64 ca, .int .i64 ji, .slice x1 x2 x3, .slice y1 y2 y3] = W5 at *
      have HW5 := hide (HW.out.below HB5.out)
      have HAG5 := hide (HA.out.keep HW5.out.keep HD.out)
      have HF5 := hide (blkB HBX.out HB5.out)
      generalize wr.heap.size = tb at *
      clear HW HAG HBX HRW HA0 HB5
      obtain ⟨v, hv, hw2, hs⟩ := HW5.out.rebase
      obtain ⟨av, cv, rfl, _⟩ := ownsRow_rd hv.row hv.byt (by have := hv.len; have := hv.top; omega)
      have c0 := cell0 hv.blk
      have c2 := cell2 hv.blk
      obtain ⟨e0, e1⟩ := cells2 HF5.out
      have HV := hide hv
      have HW2 := hide hw2
      have HS := hide hs
      clear hv hw2 hs
      generalize hsk : allW (fs.take k) s = sk at *
      clear hsk
      by_cases hz : sk.fault = 0
      · have HZ := hide hz
        have c2' : W5.cell? ⟨p, 2, none⟩ = some (.int .i64 0) := by rw [c2, hz]; rfl
        clear c2 hz
        have HTW : Hid (thingW f sk = if (f sk).laid.length = sk.laid.length then (f sk).fail 22 else f sk) := by show _ = _; unfold thingW; rw [if_pos HZ.out]
        have HPU := hide (PutNd (Wset p (.slice av sk.laid.length cv)) W5 p fn1 fn2 cap1 cap2 nm la bu cl be ba ca ji x1 x2 x3 y1 y2 y3 f sk _ HW2.out (HPF.out p _ W5 HAG5.out (disjoint_step HA.out HD.out HS.out)) HC.out)
        go_upto_region 7 with (first
          | (refine wpList_load_row rfl 57 _ rfl tb rfl 57 #[.string nm, .int .i64 la, .int .i64 bu, .int .i64 cl, .int .i64 be, .int .i64 ba, .int .i64 ca, .int .i64 ji, .slice x1 x2 x3, .slice y1 y2 y3] (0, 0) _ HX5.out Tryz.underlying57 rfl HI.out ?_)
          | (go_at_call 160; refine HPU.out.mono ?_; rintro e w2 ⟨rfl, h2⟩))
        rw [putW_zero HZ.out] at h2
        have HBX2 := hide (h2.keep.blk HF5.out (HV.out.not HF5.out (by decide) (by decide)))
        have H3 := hide (HW5.out.step HS.out h2)
        obtain ⟨v2, hv2, hw3, hs3⟩ := H3.out.rebase
        obtain ⟨a2, cc2, rfl, _⟩ := ownsRow_rd hv2.row hv2.byt (by have := hv2.len; have := hv2.top; omega)
        have d0 := cell0 hv2.blk
        have HV2 := hide hv2
        have HW3 := hide hw3
        have HS3 := hide hs3
        have hl2 : (f sk).laid.length ≤ 16777216 := Nat.le_trans hv2.len hv2.top
        have hl1 : sk.laid.length ≤ 16777216 := Nat.le_trans HV.out.len HV.out.top
        clear h2 hv2 hw3 hs3 HPU c0 c2' e0 e1
        by_cases hq : (f sk).laid.length = sk.laid.length
        · have hqq : (((f sk).laid.length : Int) == (sk.laid.length : Int)) = true := by rw [hq]; exact beq_self_eq_true _
          have HQ := hide hq
          clear hq
          go_wp2_with fail
          refine (Fail_any (Wset p (.slice a2 (f sk).laid.length cc2)) w2 p (f sk) _ HW3.out).mono ?_
          rintro e w3 ⟨rfl, h4⟩
          have HBX3 := hide (h4.keep.blk HBX2.out (HV2.out.not HBX2.out (by decide) (by decide)))
          have H4 := hide (H3.out.step HS3.out h4)
          clear h4
          go_wp2
          refine ⟨⟨k + 1, by omega, by go_num, ?_, HBX3.out⟩, by simp [intOf]; omega⟩
          rw [HSC.out, HTW.out, if_pos HQ.out]
          exact H4.out
        · have hqq : (((f sk).laid.length : Int) == (sk.laid.length : Int)) = false := by rw [beq_eq_false_iff_ne]; omega
          have HQ := hide hq
          clear hq
          go_wp2
          refine ⟨⟨k + 1, by omega, by go_num, ?_, HBX2.out⟩, by simp [intOf]; omega⟩
          rw [HSC.out, HTW.out, if_neg HQ.out]
          exact H3.out
      · have hzz : (((sk.fault : Nat) : Int) == 0) = false := by simpa using hz
        have HZ := hide hz
        clear hz
        go_wp2
        first | go_end0 | refine bodyPost_ret (results_none rfl _ _ _) rfl ?_
        refine ⟨rfl, ?_⟩
        rw [HST.out HZ.out]
        exact HW5.out
    · go_wp2
      go_end0
      refine ⟨rfl, ?_⟩
      have := HW.out
      rw [List.take_of_length_le (by have := HL.out; omega)] at this
      exact this
set_option maxRecDepth 10000 in
theorem putListNd (D S : Nat → Prop) (wf w0 : World) (p m o : Nat) (most : Int) (fn1 fn2 : FuncId) (cap1 cap2 : Array Value) (a : Option Addr) (n c : Nat) (vs : List Gr.Nd) (fs : List (K.WS → K.WS)) (s : K.WS) (w : World)
    (ha : Agree D wf w0) (hd : ∀ k, D k → ¬ S k) (h : WAt S w0 p s w) (he : ElsN D wf a n vs) (hl : fs.length = n) (hp : ∀ (i : Nat) q f, vs[i]? = some q → fs[i]? = some f → PutsG D wf fn1 cap1 (.agg q.row.toArray) f)
    (hc : ∀ args w, (callFunc fn1 args).run Tryz.prog w = .ok (.enter fn1 args) w) (dm : D m) (dO : D o) (hm : wf.cell? ⟨m, 0, none⟩ = some (.int .i64 most)) (ho : wf.heap[o]? = some (.cells #[.func (.func fn1) #[] cap1, .func (.func fn2) #[] cap2] 119 (0, 0))) :
    Calls Tryz.prog 114 #[.pointer (some ⟨p, 0, none⟩), .slice a n c, .pointer (some ⟨m, 0, none⟩), .pointer (some ⟨o, 0, none⟩)] w fun en w' => en = .returned (.tuple #[]) ∧ WAt S w0 p (listW most fs s) w' := by
  have hag := ha.keep h.keep hd
  have hm' := hag.cell hm dm
  have HO := hide ho
  have HA := hide ha
  have HD := hide hd
  have HE := hide he
  have HL := hide hl
  have HP := hide hp
  have HC := hide hc
  have HH := hide h
  have HDO := hide dO
  have hn := he.2.1
  clear ha hd he hl hp hc h hm ho hag dm dO
  generalize hs' : listW most fs s = s'
  have HS := hide hs'
  clear hs'
  by_cases hb : most < (n : Int)
  · have HS' : Hid (s.fail 20 = s') := by show _ = _; rw [← HS.out]; unfold listW; rw [if_pos (by rw [HL.out]; exact hb)]
    go_enter Tryz.func114, Tryz.ntmps114
    go_wp2_with fail
    refine (fail_any S w0 p s 20 (by decide) _ HH.out).mono ?_
    rintro e w1 ⟨rfl, h1⟩
    rw [HS'.out] at h1
    go_wp2
    first | go_end0 | refine bodyPost_ret (results_none rfl _ _ _) rfl ?_
    exact ⟨rfl, h1⟩
  · have HS' : Hid (allW fs (s.lay (K.num n)) = s') := by show _ = _; rw [← HS.out]; unfold listW; rw [if_neg (by rw [HL.out]; exact hb), HL.out]
    go_enter Tryz.func114, Tryz.ntmps114
    go_wp2_with fail
    refine (numberBytes_any n (by omega) _).mono ?_
    rintro e w1 ⟨ah, ch, rfl, hrh, h0h, hb1⟩
    have HRH := hide hrh
    have H0H := hide h0h
    have HH1 := hide (HH.out.below hb1)
    clear hrh h0h hb1
    go_wp2_with fail
    refine (lay_any S w0 p s ah _ ch _ _ HH1.out HRH.out H0H.out).mono ?_
    rintro e w2 ⟨rfl, h2⟩
    have hbo := (HA.out.keep h2.keep HD.out o HDO.out).2.trans HO.out
    have e0 : w2.cell? ⟨o, 0, none⟩ = some (.func (.func fn1) #[] cap1) := by rw [cell_of_row _ _ _ _ _ _ hbo]; rfl
    have e1 : w2.cell? ⟨o, 1, none⟩ = some (.func (.func fn2) #[] cap2) := by rw [cell_of_row _ _ _ _ _ _ hbo]; rfl
    have H2 := hide h2
    clear h2 hbo
    go_wp2_with fail
    refine (putAllNd D S wf w0 p fn1 fn2 cap1 cap2 a n c vs fs _ _ HA.out HD.out H2.out HE.out HL.out HP.out HC.out).mono ?_
    rintro e w3 ⟨rfl, h3⟩
    rw [HS'.out] at h3
    go_wp2
    go_end0
    exact ⟨rfl, h3⟩
theorem ent_putListNd (args : Array Value) (w : World) : (callFunc 114 args).run Tryz.prog w = .ok (.enter 114 args) w :=
  callFunc_enter Tryz.func114 (by kernel_rfl) (by kernel_rfl) args w
theorem putsListNd (D : Nat → Prop) (wf : World) (m o : Nat) (most : Int) (fn1 fn2 : FuncId) (cap1 cap2 : Array Value) (a : Option Addr) (n c : Nat) (vs : List Gr.Nd) (fs : List (K.WS → K.WS))
    (he : ElsN D wf a n vs) (hl : fs.length = n) (hp : ∀ (i : Nat) q f, vs[i]? = some q → fs[i]? = some f → PutsG D wf fn1 cap1 (.agg q.row.toArray) f)
    (hc : ∀ args w, (callFunc fn1 args).run Tryz.prog w = .ok (.enter fn1 args) w) (dm : D m) (dO : D o) (hm : wf.cell? ⟨m, 0, none⟩ = some (.int .i64 most)) (ho : wf.heap[o]? = some (.cells #[.func (.func fn1) #[] cap1, .func (.func fn2) #[] cap2] 119 (0, 0))) :
    PutsG D wf 114 #[.pointer (some ⟨m, 0, none⟩), .pointer (some ⟨o, 0, none⟩)] (.slice a n c) (listW most fs) :=
  fun p S w1 ha hd w2 s h _ => putListNd D S wf w1 p m o most fn1 fn2 cap1 cap2 a n c vs fs s w2 ha hd h he hl hp hc dm dO hm ho
end Cd
end Go.Proofs.YtbjcckfhfbjchaaGreat
