/- A script that came in: its steps, one by one. -/
import Derived.Test.YtmaeaibphggceaaDKpM
namespace Go.Proofs.Ytmaeaibphggceaa
open Go.RowKit Go.Lib

/-- what a slice of steps reads -/
def RdQ (w : World) (a : Option Addr) (n : Nat) (qs : List Stp) : Prop :=
  n = qs.length ∧ n ≤ 1466015503701 ∧ (∀ q ∈ qs, StpOk w q) ∧ ∀ i (h : i < qs.length), ∃ b off, a = some ⟨b, off, none⟩ ∧ w.cell? ⟨b, off + i * 8, none⟩ = some (.int .i64 qs[i].which) ∧ w.cell? ⟨b, off + i * 8 + 1, none⟩ = some (.bool qs[i].copy) ∧ w.cell? ⟨b, off + i * 8 + 2, none⟩ = some (.int .i64 qs[i].what) ∧
    w.cell? ⟨b, off + i * 8 + 3, none⟩ = some (.int .i64 qs[i].seg) ∧ w.cell? ⟨b, off + i * 8 + 4, none⟩ = some (.int .i64 qs[i].n) ∧ w.cell? ⟨b, off + i * 8 + 5, none⟩ = some (.int .u8 (qs[i].mask : Nat)) ∧ w.cell? ⟨b, off + i * 8 + 6, none⟩ = some (.slice qs[i].ba qs[i].b.length qs[i].bc) ∧ w.cell? ⟨b, off + i * 8 + 7, none⟩ = some (.slice qs[i].fa qs[i].fate.length qs[i].fc)

/-- what came in lies below what is new -/
theorem StpOk.out_ {w : World} {q : Stp} (h : StpOk w q) : q.out (fun i => w.heap.size ≤ i) := by
  refine ⟨fun g off e h0 hg => ?_, fun g off e h0 hg => ?_⟩
  · rcases h.rb.2.2.2 with h1 | ⟨b, off', e', hc⟩
    · exact h0 h1
    · rw [e] at e'
      injection e' with e'
      injection e' with e1 e2
      subst e1
      have := block_lt_of_cell (hc 0 (by omega))
      exact Nat.not_lt.2 hg this
  · rcases h.rf.2.2.2 with h1 | ⟨b, off', e', hc⟩
    · exact h0 h1
    · rw [e] at e'
      injection e' with e'
      injection e' with e1 e2
      subst e1
      have := block_lt_of_cell (hc 0 (by omega))
      exact Nat.not_lt.2 hg this
theorem Rz.lt {w : World} {a : Option Addr} {n : Nat} {z : List Int} (h : Rz w a n z) : ∀ g off, a = some ⟨g, off, none⟩ → n ≠ 0 → g < w.heap.size := fun g off e h0 => by
  rcases h.2.2.2 with h1 | ⟨b, off', e', hc⟩
  · exact absurd h1 h0
  · rw [e] at e'
    injection e' with e'
    injection e' with e1 e2
    subst e1
    exact block_lt_of_cell (hc 0 (by omega))


/-- a disk in the midst of a script -/
structure Mids (W w : World) (p : Nat) (s : St) (n : Nat) : Prop where
  d : DAt (fun i => W.heap.size ≤ i) w p s
  g : Good n s
  k : Keep (fun i => W.heap.size ≤ i) W w

/-- the next step, as it is called -/
theorem Mids.step {W w : World} {p : Nat} {s : St} {n : Nat} (h : Mids W w p s n) (hn : n < 70368744177664) {q : Stp} (hq : StpOk W q) :
    Calls Try.prog 6 #[.pointer (some ⟨p, 0, none⟩), q.val] w fun e w' => ∃ (c N : Int) (is : Bool) (vl vb : Value) (t : St), e = .returned (.agg #[.int .i64 c, .int .i64 N, .bool is, vl, vb]) ∧ StepTo s q c t ∧ (is = (decide (pickV q.what 12 = 8) && s.down)) ∧ Mids W w' p t (n + 1) ∧ (∃ a n c, vl = .slice a n c) ∧ ∃ a n c, vb = .slice a n c := by
  refine (stepped_any _ w p s q h.d h.g (Nat.le_of_lt hn) (fun i hi => Nat.le_trans h.k.size hi) (hq.stay h.k hq.out_) hq.out_).mono fun e w' ⟨c, N, is, vl, vb, ks, bs, t, e1, e2, e3, e4, e5, e6, e7⟩ => ?_
  obtain ⟨a1, c1, h1⟩ := ownsRow_shape e6
  obtain ⟨a2, c2, h2⟩ := ownsRow_shape e7.1
  exact ⟨c, N, is, vl, vb, t, e1, e2, e3.is, ⟨e4, h.g.step hq.n.2 e2, h.k.more e5⟩, ⟨_, _, _, h1⟩, _, _, _, h2⟩

theorem Mids.start {W w1 w2 : World} {p : Nat} {c : Int} (k1 : Keep (fun _ => False) W w1) (hd : DAt (fun i => w1.heap.size ≤ i) w2 p (St.new (pickV c 67108865).toNat)) (k2 : Keep (fun _ => False) w1 w2) : Mids W w2 p (St.new (pickV c 67108865).toNat) 0 :=
  ⟨hd.mono fun i e => Nat.le_trans k1.size e, Good.new (by have := pickV_in c 67108865 (by decide); omega), (k1.more k2).mono fun _ f => f.elim⟩

end Go.Proofs.Ytmaeaibphggceaa
