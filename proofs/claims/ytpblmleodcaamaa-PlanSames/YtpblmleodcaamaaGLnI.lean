/- lend: what stands between its steps. -/
import Derived.Test.YtpblmleodcaamaaGLnt
import Derived.Test.YtpblmleodcaamaaGNbk
import Derived.Test.YtpblmleodcaamaaGBdM
namespace Go.Proofs.Ytpblmleodcaamaa
namespace Gr
open Go.RowKit

theorem info_ints : (Try.prog.info? 34).map (fun i => (i.zero, i.size, i.bytes)) = some (some (.slice none 0 0), 1, 24) := by kernel_rfl
/-- a list more behind a row of lists of the call's own -/
theorem wp_appendL {w : World} {ops : Array Oper} {rest : List Oper} {o : Oper} {a : Act} {Q : Exit → Act → World → Prop} (hgd : o.guard = none) (s x : Operand)
    (ho : o.op = .call { callee := .builtin .append, args := #[s, x], argTypes := #[27, 27] })
    (base : Nat) (v : Value) (n : Nat) (xs : List Value) (hs : a.eval s = v) (hown : w.ownsRow base 34 1 v n xs) (ad : Addr) (y1 : Option Addr) (y2 y3 : Nat) (hx : a.eval x = .slice (some ad) 1 1) (hc : w.cell? ad = some (.slice y1 y2 y3)) (hn : n + 1 ≤ 1048576) (hbase : base ≤ w.heap.size)
    (h : ∀ v' w', w'.ownsRow base 34 1 v' (n + 1) (xs ++ [.slice y1 y2 y3]) → Keep (fun k => v.ownBlock = some k) w w' → NewBlk w v v' → wpList Try.prog ops Q rest (a.put o.dst v') w') : wpList Try.prog ops Q (o :: rest) a w := by
  obtain ⟨i0, hi, hz0, hz1, hz2⟩ := info_parts info_ints
  refine wpList_append_own2 hgd s x 27 ho base 34 i0 (.slice none 0 0) 1 24 Try.underlying27 hi hz0 hz1 hz2 rfl (by decide) v n xs hs hown ad 1 1 [.slice y1 y2 y3] hx rfl (fun j u hu => ?_) (fun u hu => by rw [List.mem_singleton.1 hu]; rfl) (by unfold maxLen; omega) (by omega) hbase ?_
  · cases j with
    | zero =>
      have : u = .slice y1 y2 y3 := by simpa using hu.symm
      subst this
      simpa [Addr.add] using hc
    | succ j => simp at hu
  · intro v' w' h1 h2 h3
    exact h v' w' h1 (Keep.grown h2 fun k e => e) h3
/-- a node that is lent: all as it was but where its lists lie -/
structure Lt (w : World) (x y : No) : Prop where
  nl : y.nl = x.nl
  al : y.al = x.al
  q : y.q = { x.q with ne := y.q.ne, af := y.q.af }
  ne : ∃ g, y.q.ne = (some ⟨g, 0, none⟩, x.nl.length, x.nl.length + 20) ∧ Own w g (marked x.nl)
  af : ∃ g, y.q.af = (some ⟨g, 0, none⟩, x.al.length, x.al.length + 20) ∧ Own w g (marked x.al)
theorem Own.typ {w w' : World} {g : Nat} {z : List Int} {S : Nat → Prop} (h : Own w g z) (k : Keep S w w') (hS : ∀ i, S i → ∀ cs, w.heap[i]? ≠ some (.cells cs 3 (0, 0))) : Own w' g z := h.keep k fun hs => hS g hs _ h
theorem Lt.keep {w w' : World} {x y : No} {S : Nat → Prop} (h : Lt w x y) (k : Keep S w w') (hS : ∀ i, S i → ∀ cs, w.heap[i]? ≠ some (.cells cs 3 (0, 0))) : Lt w' x y := by
  obtain ⟨g1, e1, o1⟩ := h.ne
  obtain ⟨g2, e2, o2⟩ := h.af
  exact ⟨h.nl, h.al, h.q, ⟨g1, e1, o1.typ k hS⟩, ⟨g2, e2, o2.typ k hS⟩⟩
def Lts (w : World) (xs ys : List No) : Prop := ∀ (k : Nat) (x y : No), xs[k]? = some x → ys[k]? = some y → Lt w x y
theorem Lts.keep {w w' : World} {xs ys : List No} {S : Nat → Prop} (h : Lts w xs ys) (k : Keep S w w') (hS : ∀ i, S i → ∀ cs, w.heap[i]? ≠ some (.cells cs 3 (0, 0))) : Lts w' xs ys := fun j x y hx hy => (h j x y hx hy).keep k hS
theorem Lts.new {w w' : World} {xs ys : List No} (h : Lts w xs ys) (k : Keep (fun _ => False) w w') : Lts w' xs ys := h.keep k fun _ f => f.elim
theorem ownsRow_typ {w : World} {b n : Nat} {e : TypeId} {v : Value} {xs : List Value} (h : w.ownsRow b e 1 v n xs) (he : e ≠ 3) {i : Nat} (hi : v.ownBlock = some i) : ∀ cs, w.heap[i]? ≠ some (.cells cs 3 (0, 0)) := by
  intro cs hc
  rcases h.2 with ⟨rfl, _⟩ | ⟨g, cap, cur, rfl, _, h3, _⟩
  · cases hi
  · have : g = i := by simpa [Value.ownBlock] using hi
    subst this
    rw [h3] at hc
    injection hc with hc
    injection hc with _ hc
    exact he hc
/-- lists that lie behind a place -/
def Fr (b : Nat) (y : No) : Prop := ∃ g1 g2, y.q.ne = (some ⟨g1, 0, none⟩, y.nl.length, y.nl.length + 20) ∧ y.q.af = (some ⟨g2, 0, none⟩, y.al.length, y.al.length + 20) ∧ b ≤ g1 ∧ b ≤ g2
def Frs (b : Nat) (ys : List No) : Prop := ∀ y ∈ ys, Fr b y
/-- between two steps of lend: so many nodes are lent, so many lists of each kind noted -/
structure LdI (w : World) (nm : ByteArray) (dl : Int) (a : Option Addr) (n c : Nat) (xs : List No) (B : Nat) (wr : World) (i : Nat) (ys : List No) (v1 v2 : Value) (c1 c2 : Nat) (L1 L2 : List Value) : Prop where
  len : ys.length = i
  rows : RowsAt wr (w.heap.size + 1 + 1) (ys.map (·.q) ++ List.replicate (n + 3 - i) (zN 0))
  lts : Lts wr xs ys
  bx : wr.heap[w.heap.size + 1 + 1 + 1]? = some (.cells #[.string ⟨#[]⟩, .int .i64 0, .slice none 0 0, .slice (some ⟨w.heap.size + 1 + 1, 0, none⟩) (n + 3) (n + 3), v1, v2] 29 (0, 0))
  br : wr.heap[w.heap.size + 1]? = some (.cells #[.string ⟨#[]⟩, .int .i64 0, .slice none 0 0, .slice none 0 0, .slice none 0 0, .slice none 0 0] 29 (0, 0))
  bp : wr.heap[w.heap.size]? = some (.cells #[.string nm, .int .i64 dl, .slice a n c] 24 (0, 0))
  o1 : wr.ownsRow (w.heap.size + 4) 34 1 v1 c1 L1
  o2 : wr.ownsRow (w.heap.size + 4) 34 1 v2 c2 L2
  ne : ∀ k, v1.ownBlock = some k → v2.ownBlock ≠ some k
  rd : RdP B wr (a, n, c) xs
  sz : w.heap.size + 4 ≤ wr.heap.size
  kp : Keep (fun _ => False) w wr
  fr : Frs w.heap.size ys
section
variable {w : World} {nm : ByteArray} {dl : Int} {a : Option Addr} {n c : Nat} {xs : List No} {B : Nat} {wr wr' : World} {i : Nat} {ys : List No} {v1 v2 v' : Value} {c1 c2 : Nat} {L1 L2 : List Value}
theorem LdI.new (h : LdI w nm dl a n c xs B wr i ys v1 v2 c1 c2 L1 L2) (k : Keep (fun _ => False) wr wr') : LdI w nm dl a n c xs B wr' i ys v1 v2 c1 c2 L1 L2 := by
  have o1 := h.o1
  have o2 := h.o2
  exact ⟨h.len, h.rows.new k fun f => f, h.lts.new k, k.blk h.bx fun f => f, k.blk h.br fun f => f, k.blk h.bp fun f => f, ownsRow_new o1 k, ownsRow_new o2 k, h.ne, h.rd.new k, Nat.le_trans h.sz k.size, h.kp.more k, h.fr⟩
/-- a list of needs more is noted -/
theorem LdI.app1 (h : LdI w nm dl a n c xs B wr i ys v1 v2 c1 c2 L1 L2) (hB : B ≤ w.heap.size) {L : List Value} (o : wr'.ownsRow (w.heap.size + 4) 34 1 v' (c1 + 1) L) (k : Keep (fun j => v1.ownBlock = some j) wr wr') (nb : NewBlk wr v1 v') :
    LdI w nm dl a n c xs B (wr'.setCell ⟨w.heap.size + 1 + 1 + 1, 4, none⟩ v') i ys v' v2 (c1 + 1) c2 L L2 := by
  have o1 := h.o1
  have o2 := h.o2
  have hf := fun j (e : v1.ownBlock = some j) => ownsRow_from o1 e
  have ht := fun j (e : v1.ownBlock = some j) => ownsRow_typ o1 (by decide) e
  have kS := keep_cell wr' (w.heap.size + 1 + 1 + 1) 4 v'
  have bx := k.blk h.bx fun e => by have := hf _ e; omega
  have hto : ∀ j, j = w.heap.size + 1 + 1 + 1 → ∀ cs, wr'.heap[j]? ≠ some (.cells cs 3 (0, 0)) := fun j e cs hc => by
    rw [e, bx] at hc
    injection hc with hc
    injection hc with _ hc
    revert hc
    decide
  have ob := fun j (e : v'.ownBlock = some j) => ownsRow_from o e
  have o2' := ownsRow_keep o2 k fun j e1 e2 => h.ne j e1 e2
  refine ⟨h.len, (h.rows.new k fun e => by have := hf _ e; omega).new kS (by omega), (h.lts.keep k ht).keep kS hto, ?_, kS.blk (k.blk h.br fun e => by have := hf _ e; omega) (by omega), kS.blk (k.blk h.bp fun e => by have := hf _ e; omega) (by omega), (ownsRow_keep o kS fun j e1 e2 => by have := ob j e2; omega), (ownsRow_keep o2' kS fun j e1 e2 => by have := ownsRow_from o2' e2; omega), fun j e1 e2 => ?_, (h.rd.keep k fun j e => by have := hf j e; omega).keep kS fun j e => by omega, Nat.le_trans h.sz (Nat.le_trans k.size kS.size), (h.kp.trans k fun j e => .inr (by have := hf j e; omega)).trans kS fun j e => .inr (by omega), h.fr⟩
  · rw [set_blk bx 4 v']
    rfl
  · rcases nb with nb | nb
    · rw [nb] at e1; exact h.ne j e1 e2
    · have := nb j e1; have := (o2.lt j e2).2; omega
/-- a list of afters more is noted -/
theorem LdI.app2 (h : LdI w nm dl a n c xs B wr i ys v1 v2 c1 c2 L1 L2) (hB : B ≤ w.heap.size) {L : List Value} (o : wr'.ownsRow (w.heap.size + 4) 34 1 v' (c2 + 1) L) (k : Keep (fun j => v2.ownBlock = some j) wr wr') (nb : NewBlk wr v2 v') :
    LdI w nm dl a n c xs B (wr'.setCell ⟨w.heap.size + 1 + 1 + 1, 5, none⟩ v') i ys v1 v' c1 (c2 + 1) L1 L := by
  have o1 := h.o1
  have o2 := h.o2
  have hf := fun j (e : v2.ownBlock = some j) => ownsRow_from o2 e
  have ht := fun j (e : v2.ownBlock = some j) => ownsRow_typ o2 (by decide) e
  have kS := keep_cell wr' (w.heap.size + 1 + 1 + 1) 5 v'
  have bx := k.blk h.bx fun e => by have := hf _ e; omega
  have hto : ∀ j, j = w.heap.size + 1 + 1 + 1 → ∀ cs, wr'.heap[j]? ≠ some (.cells cs 3 (0, 0)) := fun j e cs hc => by
    rw [e, bx] at hc
    injection hc with hc
    injection hc with _ hc
    revert hc
    decide
  have ob := fun j (e : v'.ownBlock = some j) => ownsRow_from o e
  have o1' := ownsRow_keep o1 k fun j e1 e2 => h.ne j e2 e1
  refine ⟨h.len, (h.rows.new k fun e => by have := hf _ e; omega).new kS (by omega), (h.lts.keep k ht).keep kS hto, ?_, kS.blk (k.blk h.br fun e => by have := hf _ e; omega) (by omega), kS.blk (k.blk h.bp fun e => by have := hf _ e; omega) (by omega), (ownsRow_keep o1' kS fun j e1 e2 => by have := ownsRow_from o1' e2; omega), (ownsRow_keep o kS fun j e1 e2 => by have := ob j e2; omega), fun j e1 e2 => ?_, (h.rd.keep k fun j e => by have := hf j e; omega).keep kS fun j e => by omega, Nat.le_trans h.sz (Nat.le_trans k.size kS.size), (h.kp.trans k fun j e => .inr (by have := hf j e; omega)).trans kS fun j e => .inr (by omega), h.fr⟩
  · rw [set_blk bx 5 v']
    rfl
  · rcases nb with nb | nb
    · rw [nb] at e2; exact h.ne j e1 e2
    · have := nb j e2; have := (o1.lt j e1).2; omega
end
end Gr
end Go.Proofs.Ytpblmleodcaamaa
