/- The run that a law has, and what was told of it; the plan's copy. -/
import Derived.Test.YtiackejbpcjmeaaRRuA
import Derived.Test.YtiackejbpcjmeaaRSam
import Derived.Test.YtiackejbpcjmeaaRAwk
import Derived.Test.YtiackejbpcjmeaaRSma
import Derived.Test.YtiackejbpcjmeaaROpd
import Derived.Test.YtiackejbpcjmeaaRPlp
import Derived.Test.YtiackejbpcjmeaaRStp
namespace Go.Proofs.Ytiackejbpcjmeaa
namespace Rn
open Go.RowKit Gr

theorem keep_up {w w' : World} (k : Keep (fun k => w.heap.size ≤ k) w w') : Keep (fun _ => False) w w' := ⟨k.os, k.tape, k.output, k.size, fun j hj _ => k.block j hj fun h => by omega⟩
theorem RunAt.less {T U : Nat → Prop} {w : World} {P G : Nat} {nm : ByteArray} {dl : Int} {s : Option Addr × Nat × Nat} {xs : List No} {R : Rs} (h : RunAt U w P G nm dl s xs R) (hT : ∀ k, T k → U k) (hP : T P) (hG : T G) : RunAt T w P G nm dl s xs R :=
  ⟨h.blk, h.prt, fun i p hi => by obtain ⟨m, hm⟩ := h.pts i p hi; exact ⟨m, hm.cells, hm.rd, hm.off.mono hT, hm.cap⟩, h.pln, ⟨h.offp.1.mono hT, fun x hx => ⟨(h.offp.2 x hx).1.mono hT, (h.offp.2 x hx).2.mono hT⟩⟩, h.len, h.ne, hP, hG, h.val, h.n1⟩
/-- the run, and what was told of it, in memory; w1: the world from which on nothing below is touched -/
structure Fr (T : Nat → Prop) (w1 : World) (P G : Nat) (nm : ByteArray) (dl : Int) (s : Option Addr × Nat × Nat) (xs : List No) (R : Rs) (v : Value) (ps : List Pt) (w : World) : Prop where
  run : RunAt T w P G nm dl s xs R
  td : ∃ b, TdAt b w v ps
  bel : Below w1.heap.size w1 w
  hi : w1.heap.size ≤ P ∧ w1.heap.size ≤ G
  lt : ∀ k, T k → k < w.heap.size
section
variable {T : Nat → Prop} {w1 w w' : World} {P G : Nat} {nm : ByteArray} {dl : Int} {s : Option Addr × Nat × Nat} {xs : List No} {R R' : Rs} {v : Value} {ps : List Pt}
theorem Fr.new (h : Fr T w1 P G nm dl s xs R v ps w) (k : Keep (fun _ => False) w w') : Fr T w1 P G nm dl s xs R v ps w' :=
  ⟨h.run.new k, by obtain ⟨b, hb⟩ := h.td; exact ⟨b, hb.keep k (fun _ _ f => f.elim)⟩, h.bel.trans (k.below h.bel.size fun _ f => f.elim), h.hi, fun i hi => Nat.lt_of_lt_of_le (h.lt i hi) k.size⟩
theorem Fr.step (h : Fr T w1 P G nm dl s xs R v ps w) (k : Keep (fun k => k = P ∨ k = G) w w') (hr : RunAt T w' P G nm dl s xs R') : Fr T w1 P G nm dl s xs R' v ps w' := by
  refine ⟨hr, ?_, h.bel.trans (k.below h.bel.size fun i hi => ?_), h.hi, fun i hi => Nat.lt_of_lt_of_le (h.lt i hi) k.size⟩
  · obtain ⟨b, hb⟩ := h.td
    obtain ⟨c, h1⟩ := h.run.blk
    obtain ⟨c2, h2⟩ := h.run.prt
    refine ⟨b, hb.keep k fun i cur hi => ?_⟩
    rcases hi with rfl | rfl
    · rw [h1]
      exact ⟨fun e => (by injection e with e; injection e with _ e _; exact absurd e (by decide)), fun e => (by injection e with e; injection e with _ e _; exact absurd e (by decide))⟩
    · rw [h2]
      exact ⟨fun e => (by injection e with e; injection e with _ e _; exact absurd e (by decide)), fun e => (by injection e with e; injection e with _ e _; exact absurd e (by decide))⟩
  · have := h.hi; omega
/-- a block that runs may write, of another type, is written -/
theorem Fr.put (h : Fr T w1 P G nm dl s xs R v ps w) {D : Nat} {cs : Array Value} (hD : w.heap[D]? = some (.cells cs 45 (0, 0))) (hT : T D) (hw : w1.heap.size ≤ D) (hP : D ≠ P) (hG : D ≠ G) (k : Keep (fun k => k = D) w w') : Fr T w1 P G nm dl s xs R v ps w' := by
  refine ⟨h.run.keep k fun i hi => ?_, ?_, h.bel.trans (k.below h.bel.size fun i hi => by omega), h.hi, fun i hi => Nat.lt_of_lt_of_le (h.lt i hi) k.size⟩
  · subst hi; exact .inr ⟨hT, hP, hG⟩
  · obtain ⟨b, hb⟩ := h.td
    refine ⟨b, hb.keep k fun i cur hi => ?_⟩
    subst hi
    rw [hD]
    exact ⟨fun e => (by injection e with e; injection e with _ e _; exact absurd e (by decide)), fun e => (by injection e with e; injection e with _ e _; exact absurd e (by decide))⟩
theorem Fr.wide (h : Fr T w1 P G nm dl s xs R v ps w) (k : Keep (fun _ => False) w w') {D : Nat} (hD : w.heap.size ≤ D) (hD2 : D < w'.heap.size) : Fr (fun i => T i ∨ i = D) w1 P G nm dl s xs R v ps w' := by
  have h2 := h.new k
  exact ⟨(h.run.wide (U := fun i => T i ∨ i = D) (fun i hi => hi.imp id fun e => by omega) (.inl h.run.tp) (.inl h.run.tg)).new k, h2.td, h2.bel, h2.hi, fun i hi => by
    rcases hi with hi | hi
    · exact h2.lt i hi
    · omega⟩
theorem Fr.less {D : Nat} (h : Fr (fun i => T i ∨ i = D) w1 P G nm dl s xs R v ps w) (hP : T P) (hG : T G) : Fr T w1 P G nm dl s xs R v ps w :=
  ⟨h.run.less (fun _ hk => .inl hk) hP hG, h.td, h.bel, h.hi, fun i hi => h.lt i (.inl hi)⟩
theorem Fr.told (h : Fr T w1 P G nm dl s xs R v ps w) (k : Keep (fun _ => False) w w') {b : Nat} {v' : Value} {qs : List Pt} (ht : TdAt b w' v' qs) : Fr T w1 P G nm dl s xs R v' qs w' := by
  have h2 := h.new k
  exact ⟨h2.run, ⟨b, ht⟩, h2.bel, h2.hi, h2.lt⟩
theorem Fr.rdt (h : Fr T w1 P G nm dl s xs R v ps w) (hb : ∀ p ∈ ps, (∀ d ∈ p.rs, d < 256) ∧ p.rs.length ≤ 1000) : ∃ a c, v = .slice a ps.length c ∧ RdT w (a, ps.length, c) ps := by
  obtain ⟨b, h⟩ := h.td
  exact h.rd hb
end
/-- what a copy of a small plan gives -/
structure Cp (nm : ByteArray) (dl : Int) (xs ys : List No) (s : Option Addr × Nat × Nat) (w : World) : Prop where
  rd : RdP w.heap.size w s ys
  cap : CapP ys
  sz : Sz nm ys
  ln : ∀ y ∈ ys, y.nl.length ≤ 20000 ∧ y.al.length ≤ 20000
  er : ys.map er = xs.map er
  chk : chk nm dl ys = chk nm dl xs
theorem mem_er {xs ys : List No} (h : ys.map er = xs.map er) {y : No} (hy : y ∈ ys) : ∃ x ∈ xs, y.nl = x.nl ∧ y.al = x.al ∧ y.q.nm = x.q.nm := by
  have : er y ∈ xs.map er := by rw [← h]; exact List.mem_map_of_mem hy
  obtain ⟨x, hx, ex⟩ := List.mem_map.1 this
  exact ⟨x, hx, (show (er y).nl = (er x).nl from congrArg No.nl ex.symm), (show (er y).al = (er x).al from congrArg No.al ex.symm), (show (er y).q.nm = (er x).q.nm from congrArg (fun z : No => z.q.nm) ex.symm)⟩
theorem cp_of {nm : ByteArray} {dl : Int} {xs ys : List No} {a : Option Addr} {n c B : Nat} {w : World} (h : NdX B w (.slice a n c) ys) (he : ys.map er = xs.map er) (hl : xs.length ≤ 20000) (hz : ∀ x ∈ xs, x.nl.length ≤ 20000 ∧ x.al.length ≤ 20000) (hs : Sz nm xs) : Cp nm dl xs ys (a, n, c) w := by
  have hyl : ys.length = xs.length := by have := congrArg List.length he; simpa using this
  have ln : ∀ y ∈ ys, y.nl.length ≤ 20000 ∧ y.al.length ≤ 20000 := fun y hy => by
    obtain ⟨x, hx, e1, e2, _⟩ := mem_er he hy
    rw [e1, e2]; exact hz x hx
  refine ⟨(h.rd (by omega) fun y hy => by have := ln y hy; omega).1, fun y hy => ?_, ⟨hs.1, fun y hy => ?_⟩, ln, he, ?_⟩
  · have := ln y hy
    exact ⟨(own_int_rd (h.2 y hy).1 (by omega)).2.2, (own_int_rd (h.2 y hy).2 (by omega)).2.2⟩
  · obtain ⟨x, hx, _, _, e⟩ := mem_er he hy
    rw [e]; exact hs.2 x hx
  · rw [← chk_er nm dl ys, he, chk_er]
end Rn
end Go.Proofs.Ytiackejbpcjmeaa
