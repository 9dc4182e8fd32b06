/- Three runs in one memory. -/
import Derived.Test.YtiackejbpcjmeaaRNw2
import Derived.Test.YtiackejbpcjmeaaRFrm
namespace Go.Proofs.Ytiackejbpcjmeaa
namespace Rn
open Go.RowKit Gr

/-- a run's place, and what it is of -/
structure Rp where
  P : Nat
  G : Nat
  nm : ByteArray
  dl : Int
  s : Option Addr × Nat × Nat
  xs : List No
def Rp.At (T : Nat → Prop) (w : World) (p : Rp) (R : Rs) : Prop := RunAt T w p.P p.G p.nm p.dl p.s p.xs R
/-- two runs have no block in common -/
def Rp.far (p q : Rp) : Prop := p.P ≠ q.P ∧ p.P ≠ q.G ∧ p.G ≠ q.P ∧ p.G ≠ q.G
theorem Rp.far.symm {p q : Rp} (h : p.far q) : q.far p := ⟨fun e => h.1 e.symm, fun e => h.2.2.1 e.symm, fun e => h.2.1 e.symm, fun e => h.2.2.2 e.symm⟩
/-- a step of another run -/
theorem Rp.other {T : Nat → Prop} {w w' : World} {p q : Rp} {R S : Rs} (h : p.At T w R) (hq : q.At T w S) (k : Keep (fun k => k = p.P ∨ k = p.G) w w') (hf : p.far q) : q.At T w' S :=
  RunAt.keep hq k fun i hi => .inr ⟨by rcases hi with e | e; exact e ▸ h.tp; exact e ▸ h.tg, by rcases hi with e | e; exact e ▸ hf.1; exact e ▸ hf.2.2.1, by rcases hi with e | e; exact e ▸ hf.2.1; exact e ▸ hf.2.2.2⟩
/-- the three runs of the law; w1: the world from which on nothing below is touched -/
structure Tr (T : Nat → Prop) (w1 : World) (p q r : Rp) (A B C : Rs) (w : World) : Prop where
  a : p.At T w A
  b : q.At T w B
  c : r.At T w C
  bel : Below w1.heap.size w1 w
  hi : ∀ k, T k → w1.heap.size ≤ k
  pq : p.far q
  pr : p.far r
  qr : q.far r
  lt : ∀ k, T k → k < w.heap.size
section
variable {T : Nat → Prop} {w1 w w' : World} {p q r : Rp} {A B C X : Rs}
theorem Tr.new (h : Tr T w1 p q r A B C w) (k : Keep (fun _ => False) w w') : Tr T w1 p q r A B C w' :=
  ⟨RunAt.new h.a k, RunAt.new h.b k, RunAt.new h.c k, h.bel.trans (k.below h.bel.size fun _ f => f.elim), h.hi, h.pq, h.pr, h.qr, fun i hi => Nat.lt_of_lt_of_le (h.lt i hi) k.size⟩
theorem Tr.bl (h : Tr T w1 p q r A B C w) {z : Rp} {Z : Rs} (hz : z.At T w Z) (k : Keep (fun k => k = z.P ∨ k = z.G) w w') : Below w1.heap.size w1 w' :=
  h.bel.trans (k.below h.bel.size fun i hi => by
    rcases hi with e | e
    · exact e ▸ h.hi _ hz.tp
    · exact e ▸ h.hi _ hz.tg)
theorem Tr.stepA (h : Tr T w1 p q r A B C w) (k : Keep (fun k => k = p.P ∨ k = p.G) w w') (hr : p.At T w' X) : Tr T w1 p q r X B C w' :=
  ⟨hr, Rp.other h.a h.b k h.pq, Rp.other h.a h.c k h.pr, h.bl h.a k, h.hi, h.pq, h.pr, h.qr, fun i hi => Nat.lt_of_lt_of_le (h.lt i hi) k.size⟩
theorem Tr.stepB (h : Tr T w1 p q r A B C w) (k : Keep (fun k => k = q.P ∨ k = q.G) w w') (hr : q.At T w' X) : Tr T w1 p q r A X C w' :=
  ⟨Rp.other h.b h.a k h.pq.symm, hr, Rp.other h.b h.c k h.qr, h.bl h.b k, h.hi, h.pq, h.pr, h.qr, fun i hi => Nat.lt_of_lt_of_le (h.lt i hi) k.size⟩
theorem Tr.stepC (h : Tr T w1 p q r A B C w) (k : Keep (fun k => k = r.P ∨ k = r.G) w w') (hr : r.At T w' X) : Tr T w1 p q r A B X w' :=
  ⟨Rp.other h.c h.a k h.pr.symm, Rp.other h.c h.b k h.qr.symm, hr, h.bl h.c k, h.hi, h.pq, h.pr, h.qr, fun i hi => Nat.lt_of_lt_of_le (h.lt i hi) k.size⟩
end
end Rn
end Go.Proofs.Ytiackejbpcjmeaa
