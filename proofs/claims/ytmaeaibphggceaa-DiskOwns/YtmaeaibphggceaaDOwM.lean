/- DiskOwns: a disk in just its own blocks, and what a call leaves of the rest. -/
import Derived.Test.YtmaeaibphggceaaDOwL
namespace Go.Proofs.Ytmaeaibphggceaa
open Go.RowKit Go.Lib

/-- a disk in blocks of S, all of which are there -/
structure Dk (S : Nat → Prop) (w : World) (p : Nat) (s : St) : Prop where
  d : DAt S w p s
  lt : ∀ i, S i → i < w.heap.size
theorem keep_tight {S : Nat → Prop} {w w' : World} (k : Keep (fun i => S i ∨ w.heap.size ≤ i) w w') : Keep S w w' := ⟨k.os, k.tape, k.output, k.size, fun i hi hn => k.block i hi fun h => h.elim hn fun h => by omega⟩
theorem Dk.of {S : Nat → Prop} {w : World} {p : Nat} {s : St} (h : DAt S w p s) : Dk (fun i => S i ∧ i < w.heap.size) w p s := ⟨h.low, fun _ e => e.2⟩
theorem Dk.stay {S : Nat → Prop} {w w' : World} {p : Nat} {s : St} (h : Dk S w p s) {T : Nat → Prop} (k : Keep T w w') (hT : ∀ i, S i → ¬ T i) : Dk S w' p s := by
  obtain ⟨bt, bo, val, hd⟩ := h.d
  exact ⟨⟨bt, bo, val, hd.stay k fun i _ hi ht => hT i hi ht⟩, fun i e => Nat.lt_of_lt_of_le (h.lt i e) k.size⟩
theorem Dk.new {S : Nat → Prop} {w w' : World} {p : Nat} {s : St} (h : Dk S w p s) (k : Keep (fun _ => False) w w') : Dk S w' p s := h.stay k fun _ _ f => f
/-- what a step leaves -/
structure Dn (S : Nat → Prop) (w : World) (S' : Nat → Prop) (w' : World) (p : Nat) (t : St) (n : Nat) : Prop where
  d : Dk S' w' p t
  sub : ∀ i, S' i → S i ∨ w.heap.size ≤ i
  k : Keep S w w'
  g : Good n t
theorem Dk.step {S : Nat → Prop} {w : World} {p : Nat} {s : St} {n : Nat} (h : Dk S w p s) (g : Good n s) (hn : n < 70368744177664) {q : Stp} (hq : StpOk w q) (ho : q.out S) :
    Calls Try.prog 6 #[.pointer (some ⟨p, 0, none⟩), q.val] w fun e w' => ∃ (c N : Int) (is : Bool) (vl vb : Value) (t : St) (S' : Nat → Prop), e = .returned (.agg #[.int .i64 c, .int .i64 N, .bool is, vl, vb]) ∧ StepTo s q c t ∧ Dn S w S' w' p t (n + 1) ∧ (∃ a n c, vl = .slice a n c) ∧ ∃ a n c, vb = .slice a n c := by
  have hout : q.out fun i => S i ∨ w.heap.size ≤ i := by
    have hb := hq.out_
    exact ⟨fun g off e h0 hg => hg.elim (ho.1 g off e h0) (hb.1 g off e h0), fun g off e h0 hg => hg.elim (ho.2 g off e h0) (hb.2 g off e h0)⟩
  refine (stepped_any (fun i => S i ∨ w.heap.size ≤ i) w p s q (h.d.mono fun i e => .inl e) g (Nat.le_of_lt hn) (fun i hi => .inr hi) hq hout).mono fun e w' ⟨c, N, is, vl, vb, ks, bs, t, e1, e2, e3, e4, e5, e6, e7⟩ => ?_
  obtain ⟨a1, c1, h1⟩ := ownsRow_shape e6
  obtain ⟨a2, c2, h2⟩ := ownsRow_shape e7.1
  exact ⟨c, N, is, vl, vb, t, _, e1, e2, ⟨Dk.of e4, fun i e => e.1, keep_tight e5, g.step hq.n.2 e2⟩, ⟨_, _, _, h1⟩, _, _, _, h2⟩
end Go.Proofs.Ytmaeaibphggceaa
