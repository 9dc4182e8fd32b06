/- Chapter 10: nodes and lists of numbers in memory. -/
import Derived.Test.YtgjiaajeionofaaKWba
import Derived.Test.YtgjiaajeionofaaGGra
import Derived.Deep.RegionHeld3
namespace Go.Proofs.Ytgjiaajeionofaa
namespace Gr
open Go.RowKit

/-- a node, as its cells -/
structure Nd where
  nm : ByteArray
  la : Int
  bu : Int
  cl : Int
  be : Int
  ba : Int
  ca : Int
  ji : Int
  ne : Option Addr × Nat × Nat
  af : Option Addr × Nat × Nat
def Nd.row (q : Nd) : List Value := [.string q.nm, .int .i64 q.la, .int .i64 q.bu, .int .i64 q.cl, .int .i64 q.be, .int .i64 q.ba, .int .i64 q.ca, .int .i64 q.ji, .slice q.ne.1 q.ne.2.1 q.ne.2.2, .slice q.af.1 q.af.2.1 q.af.2.2]
/-- a node, and the numbers of its lists -/
structure No where
  q : Nd
  nl : List Int
  al : List Int

/-- a node in memory -/
def NodeAt (w : World) (B o : Nat) (q : Nd) : Prop := ∀ j v, q.row[j]? = some v → w.cell? ⟨B, o + j, none⟩ = some v
theorem NodeAt.keep {w w' : World} {B o : Nat} {q : Nd} {S : Nat → Prop} (h : NodeAt w B o q) (k : Keep S w w') (hB : ¬ S B) : NodeAt w' B o q := fun j v hv => k.cell (h j v hv) hB
theorem NodeAt.new (w : World) (q : Nd) (t : TypeId) : NodeAt (w.alloc (.cells q.row.toArray t)) w.heap.size 0 q :=
  fun j v hv => by rw [Nat.zero_add, World.cell?_alloc_mark]; simpa using hv
theorem NodeAt.all {w : World} {B o : Nat} {q : Nd} (h : NodeAt w B o q) : w.cell? ⟨B, o, none⟩ = some (.string q.nm) ∧ w.cell? ⟨B, o + 1, none⟩ = some (.int .i64 q.la) ∧ w.cell? ⟨B, o + 2, none⟩ = some (.int .i64 q.bu) ∧ w.cell? ⟨B, o + 3, none⟩ = some (.int .i64 q.cl) ∧ w.cell? ⟨B, o + 4, none⟩ = some (.int .i64 q.be) ∧ w.cell? ⟨B, o + 5, none⟩ = some (.int .i64 q.ba) ∧ w.cell? ⟨B, o + 6, none⟩ = some (.int .i64 q.ca) ∧ w.cell? ⟨B, o + 7, none⟩ = some (.int .i64 q.ji) ∧ w.cell? ⟨B, o + 8, none⟩ = some (.slice q.ne.1 q.ne.2.1 q.ne.2.2) ∧ w.cell? ⟨B, o + 9, none⟩ = some (.slice q.af.1 q.af.2.1 q.af.2.2) :=
  ⟨h 0 _ rfl, h 1 _ rfl, h 2 _ rfl, h 3 _ rfl, h 4 _ rfl, h 5 _ rfl, h 6 _ rfl, h 7 _ rfl, h 8 _ rfl, h 9 _ rfl⟩

/-- a list of numbers in memory, below block B -/
def RdZ (B : Nat) (w : World) (s : Option Addr × Nat × Nat) (z : List Int) : Prop :=
  s.2.1 = z.length ∧ s.2.1 ≤ 17592186044416 ∧ (s.2.1 = 0 ∨ ∃ g off, s.1 = some ⟨g, off, none⟩ ∧ g < B ∧ ∀ j x, z[j]? = some x → w.cell? ⟨g, off + j, none⟩ = some (.int .i64 x))
theorem RdZ.keep {B : Nat} {w w' : World} {s : Option Addr × Nat × Nat} {z : List Int} {S : Nat → Prop} (h : RdZ B w s z) (k : Keep S w w') (hS : ∀ i, S i → B ≤ i) : RdZ B w' s z := by
  obtain ⟨h1, h2, h3⟩ := h
  refine ⟨h1, h2, ?_⟩
  rcases h3 with h3 | ⟨g, off, e, hg, h3⟩
  · exact .inl h3
  · exact .inr ⟨g, off, e, hg, fun j x hj => k.cell (h3 j x hj) fun hs => by have := hS _ hs; simp at this; omega⟩
theorem RdZ.mono {B C : Nat} {w : World} {s : Option Addr × Nat × Nat} {z : List Int} (h : RdZ B w s z) (hC : B ≤ C) : RdZ C w s z := by
  obtain ⟨h1, h2, h3⟩ := h
  refine ⟨h1, h2, ?_⟩
  rcases h3 with h3 | ⟨g, off, e, hg, h3⟩
  · exact .inl h3
  · exact .inr ⟨g, off, e, by omega, h3⟩
/-- a row of nodes in memory, with their lists, below block B -/
def RdP (B : Nat) (w : World) (s : Option Addr × Nat × Nat) (xs : List No) : Prop :=
  s.2.1 = xs.length ∧ s.2.1 ≤ 1172812402926 ∧ (s.2.1 = 0 ∨ ∃ g off, s.1 = some ⟨g, off, none⟩ ∧ g < B ∧ ∀ i x, xs[i]? = some x → NodeAt w g (off + i * 10) x.q) ∧ ∀ x ∈ xs, RdZ B w x.q.ne x.nl ∧ RdZ B w x.q.af x.al
theorem RdP.keep {B : Nat} {w w' : World} {s : Option Addr × Nat × Nat} {xs : List No} {S : Nat → Prop} (h : RdP B w s xs) (k : Keep S w w') (hS : ∀ i, S i → B ≤ i) : RdP B w' s xs := by
  obtain ⟨h1, h2, h3, h4⟩ := h
  refine ⟨h1, h2, ?_, fun x hx => ⟨(h4 x hx).1.keep k hS, (h4 x hx).2.keep k hS⟩⟩
  rcases h3 with h3 | ⟨g, off, e, hg, h3⟩
  · exact .inl h3
  · exact .inr ⟨g, off, e, hg, fun i x hx => (h3 i x hx).keep k fun hs => by have := hS _ hs; omega⟩
theorem RdP.mono {B C : Nat} {w : World} {s : Option Addr × Nat × Nat} {xs : List No} (h : RdP B w s xs) (hC : B ≤ C) : RdP C w s xs := by
  obtain ⟨h1, h2, h3, h4⟩ := h
  refine ⟨h1, h2, ?_, fun x hx => ⟨(h4 x hx).1.mono hC, (h4 x hx).2.mono hC⟩⟩
  rcases h3 with h3 | ⟨g, off, e, hg, h3⟩
  · exact .inl h3
  · exact .inr ⟨g, off, e, by omega, h3⟩
theorem RdP.new {B : Nat} {w w' : World} {s : Option Addr × Nat × Nat} {xs : List No} (h : RdP B w s xs) (k : Keep (fun _ => False) w w') : RdP B w' s xs := h.keep k fun _ f => f.elim
theorem RdZ.new {B : Nat} {w w' : World} {s : Option Addr × Nat × Nat} {z : List Int} (h : RdZ B w s z) (k : Keep (fun _ => False) w w') : RdZ B w' s z := h.keep k fun _ f => f.elim
/-- one node of the row -/
theorem RdP.at {B : Nat} {w : World} {s : Option Addr × Nat × Nat} {xs : List No} (h : RdP B w s xs) {i : Nat} (hi : i < s.2.1) : ∃ g off x, s.1 = some ⟨g, off, none⟩ ∧ g < B ∧ xs[i]? = some x ∧ NodeAt w g (off + i * 10) x.q ∧ RdZ B w x.q.ne x.nl ∧ RdZ B w x.q.af x.al := by
  obtain ⟨h1, h2, h3, h4⟩ := h
  obtain ⟨g, off, e, hg, h3⟩ := h3.resolve_left (by omega)
  have hx : xs[i]? = some (xs[i]'(by omega)) := List.getElem?_eq_getElem _
  exact ⟨g, off, _, e, hg, hx, h3 i _ hx, h4 _ (List.mem_of_getElem? hx)⟩
theorem RdZ.at {B : Nat} {w : World} {s : Option Addr × Nat × Nat} {z : List Int} (h : RdZ B w s z) {i : Nat} (hi : i < s.2.1) : ∃ g off x, s.1 = some ⟨g, off, none⟩ ∧ g < B ∧ z[i]? = some x ∧ w.cell? ⟨g, off + i, none⟩ = some (.int .i64 x) := by
  obtain ⟨h1, h2, h3⟩ := h
  obtain ⟨g, off, e, hg, h3⟩ := h3.resolve_left (by omega)
  have hx : z[i]? = some (z[i]'(by omega)) := List.getElem?_eq_getElem _
  exact ⟨g, off, _, e, hg, hx, h3 i _ hx⟩
theorem take_snoc {α : Type} (z : List α) (i : Nat) (x : α) (h : z[i]? = some x) : z.take (i + 1) = z.take i ++ [x] := by
  rw [List.take_add_one, h]; rfl

/- which plans may be -/
def wI (n a b : Int) : Bool := decide (a ≤ n) && decide (n ≤ b)
def inNm (b : UInt8) : Bool := decide (97 ≤ b.toNat) && decide (b.toNat ≤ 122) || decide (48 ≤ b.toNat) && decide (b.toNat ≤ 57) || decide (b.toNat = 45) || decide (b.toNat = 95) || decide (b.toNat = 46)
def isNm (s : ByteArray) : Bool := wI s.size 1 40 && s.data.toList.all inNm
def lOk (ah : Int) (z : List Int) (own cnt : Int) : Bool := match z with
  | [] => true
  | x :: z => !(decide (x ≤ ah) || decide (cnt ≤ x) || decide (x = own)) && lOk x z own cnt
def fOk (q : Nd) : Bool := wI q.la 0 15 && wI q.bu 1 100 && wI q.cl 1 1099511627776 && wI q.be 0 1099511627776 && wI q.ca 1 1099511627776 && wI q.ba 1 q.ca && wI q.ji 0 1099511627776
def eOk (x : No) (own cnt : Int) : Bool := lOk (-1) x.nl own cnt && lOk (-1) x.al own cnt && !(x.al.any fun e => x.nl.contains e)
def edges (xs : List No) : Nat := (xs.map fun x => x.nl.length + x.al.length).sum
end Gr
end Go.Proofs.Ytgjiaajeionofaa
