/- lend: a node more is lent; the marks; the end. -/
import Derived.Test.YtpblmleodcaamaaGLnI
import Derived.Test.YtpblmleodcaamaaGWaM
import Derived.Laws.ResultCell
import Derived.Laws.Rows
import Derived.Deep.MidRow
namespace Go.Proofs.Ytpblmleodcaamaa
namespace Gr
open Go.RowKit

section
variable {w : World} {nm : ByteArray} {dl : Int} {a : Option Addr} {n c : Nat} {xs : List No} {B : Nat} {wr wr' : World} {i : Nat} {ys : List No} {v1 v2 v' : Value} {c1 c2 : Nat} {L1 L2 : List Value}
theorem own_ge {w : World} {b n : Nat} {e : TypeId} {sz : Nat} {v : Value} {xs : List Value} (h : w.ownsRow b e sz v n xs) {k : Nat} (hk : v.ownBlock = some k) : b ≤ k := (h.lt k hk).1
/-- rows of nodes hold no numbers -/
theorem rows_typ {rs : List Nd} {G : Nat} (h : RowsAt wr G rs) : ∀ i, i = G → ∀ cs, wr.heap[i]? ≠ some (.cells cs 3 (0, 0)) := fun i hi cs hc => by
  obtain ⟨cur, h1, _⟩ := h
  rw [hi, h1] at hc
  injection hc with hc
  injection hc with _ hc
  exact absurd hc (by decide)
theorem LdI.node (h : LdI w nm dl a n c xs B wr i ys v1 v2 c1 c2 L1 L2) (hB : B ≤ w.heap.size) (k : Keep (fun j => j = w.heap.size + 1 + 1) wr wr') {y : No} (hr : RowsAt wr' (w.heap.size + 1 + 1) ((ys.map (·.q) ++ List.replicate (n + 3 - i) (zN 0)).set i y.q)) (hi : i < n) {x : No} (hx : xs[i]? = some x) (hl : Lt wr' x y) (hfr : Fr w.heap.size y) : LdI w nm dl a n c xs B wr' (i + 1) (ys ++ [y]) v1 v2 c1 c2 L1 L2 := by
  have o1 := h.o1
  have o2 := h.o2
  have hlen := h.len
  refine ⟨by simp [hlen], ?_, fun k' x' y' hx' hy' => ?_, k.blk h.bx (by omega), k.blk h.br (by omega), k.blk h.bp (by omega), (ownsRow_keep o1 k fun j e1 e2 => by have := own_ge o1 e2; omega), (ownsRow_keep o2 k fun j e1 e2 => by have := own_ge o2 e2; omega), h.ne, h.rd.keep k fun j e => by omega, Nat.le_trans h.sz k.size, h.kp.trans k fun j e => .inr (by omega), fun y' hy' => (List.mem_append.1 hy').elim (h.fr y') fun e => by rw [List.mem_singleton.1 e]; exact hfr⟩
  · have e : (ys.map (·.q) ++ List.replicate (n + 3 - i) (zN 0)).set i y.q = (ys ++ [y]).map (·.q) ++ List.replicate (n + 3 - (i + 1)) (zN 0) := by
      have e1 : n + 3 - i = (n + 3 - (i + 1)) + 1 := by omega
      rw [e1, List.replicate_succ, List.set_append, if_neg (by simp [hlen])]
      simp [hlen]
    rw [← e]; exact hr
  · by_cases hk : k' < ys.length
    · rw [List.getElem?_append_left hk] at hy'
      exact (h.lts k' x' y' hx' hy').keep k (rows_typ h.rows)
    · have hk2 := (List.getElem?_eq_some_iff.1 hy').1
      simp at hk2
      obtain rfl : k' = i := by omega
      rw [List.getElem?_append_right (by omega)] at hy'
      simp [hlen] at hy'
      subst hy'
      obtain rfl := Option.some.inj (hx.symm.trans hx')
      exact hl
end
theorem putR_eq (B : Nat) : ∀ (r : List Value) (w : World) (o : Nat), w.setCells B o r = putR w B o r
  | [], _, _ => rfl
  | v :: r, w, o => putR_eq B r (w.setCell ⟨B, o, none⟩ v) (o + 1)
theorem rows_there {w : World} {B : Nat} {rs : List Nd} (h : RowsAt w B rs) {i : Nat} (hi : i < rs.length) : w.there B (i * 10) 10 := fun j hj => by
  have hq : rs[i]? = some (rs[i]'hi) := List.getElem?_eq_getElem _
  have hr : (rs[i]'hi).row[j]? = some ((rs[i]'hi).row[j]'(by show j < 10; exact hj)) := List.getElem?_eq_getElem _
  refine ⟨?_, h.froz _⟩
  rw [h.node i _ hq j _ hr]
  rfl
theorem blk_there {w : World} {b o n : Nat} {cs : Array Value} {t : TypeId} (h : w.heap[b]? = some (.cells cs t (0, 0))) (hn : o + n ≤ cs.size) : w.there b o n := fun j hj => by
  refine ⟨?_, frozen_blk h _⟩
  rw [cell_blk h (o + j) (v := cs[o + j]'(by omega)) (by simp [show o + j < cs.size by omega])]
  rfl
theorem info_plan3 : (Try.prog.info? 24).map (·.size) = some 3 := by kernel_rfl
theorem row_one (q : Nd) : q.row.toArray.all (·.oneCell') = true := all_oneCell_toArray fun v hv => by
  simp [Nd.row] at hv
  rcases hv with rfl | rfl | rfl | rfl | rfl | rfl | rfl | rfl | rfl | rfl <;> rfl
theorem info_node10 : (Try.prog.info? 44).map (·.size) = some 10 := by kernel_rfl
/-- all nodes are lent: ms: what stands behind them -/
structure LdJ (w : World) (nm : ByteArray) (dl : Int) (a : Option Addr) (n c : Nat) (xs ys : List No) (v1 v2 : Value) (ms : List Nd) (L1 L2 : List Value) (wr : World) : Prop where
  len : ys.length = n
  ml : ms.length = 3
  rows : RowsAt wr (w.heap.size + 1 + 1) (ys.map (·.q) ++ ms)
  lts : Lts wr xs ys
  bx : wr.heap[w.heap.size + 1 + 1 + 1]? = some (.cells #[.string ⟨#[]⟩, .int .i64 0, .slice none 0 0, .slice (some ⟨w.heap.size + 1 + 1, 0, none⟩) (n + 3) (n + 3), v1, v2] 29 (0, 0))
  br : wr.heap[w.heap.size + 1]? = some (.cells #[.string ⟨#[]⟩, .int .i64 0, .slice none 0 0, .slice none 0 0, .slice none 0 0, .slice none 0 0] 29 (0, 0))
  bp : wr.heap[w.heap.size]? = some (.cells #[.string nm, .int .i64 dl, .slice a n c] 24 (0, 0))
  kp : Keep (fun _ => False) w wr
  one : (∃ x k z, v1 = Value.slice x k z) ∧ ∃ x k z, v2 = Value.slice x k z
  o1 : wr.ownsRow (w.heap.size + 4) 34 1 v1 n L1
  o2 : wr.ownsRow (w.heap.size + 4) 34 1 v2 n L2
  fr : Frs w.heap.size ys
section
variable {w : World} {nm : ByteArray} {dl : Int} {a : Option Addr} {n c : Nat} {xs ys : List No} {B : Nat} {wr wr' : World} {v1 v2 : Value} {c1 c2 : Nat} {ms : List Nd} {L1 L2 : List Value}
theorem LdI.all (h : LdI w nm dl a n c xs B wr n ys v1 v2 n n L1 L2) : LdJ w nm dl a n c xs ys v1 v2 (List.replicate 3 (zN 0)) L1 L2 wr :=
  ⟨h.len, by simp, by have := h.rows; rwa [show n + 3 - n = 3 by omega] at this, h.lts, h.bx, h.br, h.bp, h.kp, by
    have o1 := h.o1
    have o2 := h.o2
    obtain ⟨x1, y1, e1⟩ := ownsRow_shape o1
    obtain ⟨x2, y2, e2⟩ := ownsRow_shape o2
    exact ⟨⟨_, _, _, e1⟩, _, _, _, e2⟩, h.o1, h.o2, h.fr⟩
theorem LdJ.put (h : LdJ w nm dl a n c xs ys v1 v2 ms L1 L2 wr) {j : Nat} (hj : j < 3) (q : Nd) : LdJ w nm dl a n c xs ys v1 v2 (ms.set j q) L1 L2 (putR wr (w.heap.size + 1 + 1) ((n + j) * 10) q.row) := by
  obtain ⟨po, ps, pb⟩ := putR_other (w.heap.size + 1 + 1) q.row wr ((n + j) * 10)
  have b := pb 0 (Nat.zero_le _)
  have k : Keep (fun j => j = w.heap.size + 1 + 1) wr (putR wr (w.heap.size + 1 + 1) ((n + j) * 10) q.row) := ⟨b.os, b.tape, b.output, by rw [ps]; exact Nat.le_refl _, fun j _ hn => po j hn⟩
  refine ⟨h.len, by simp [h.ml], ?_, h.lts.keep k (rows_typ h.rows), k.blk h.bx (by omega), k.blk h.br (by omega), k.blk h.bp (by omega), h.kp.trans k fun j e => .inr (by omega), h.one, (ownsRow_keep h.o1 k fun j e1 e2 => by have := own_ge h.o1 e2; omega), (ownsRow_keep h.o2 k fun j e1 e2 => by have := own_ge h.o2 e2; omega), h.fr⟩
  have := h.rows.put (n + j) q (by simp [h.len, h.ml]; omega)
  rwa [List.set_append, if_neg (by simp [h.len]), List.length_map, h.len, show n + j - n = j by omega] at this
end
theorem info_loan : (Try.prog.info? 29).map (·.size) = some 6 := by kernel_rfl
theorem res_loan {fn : Func} {p : Tmp} (h : fn.results = #[.cell p 29]) (tmps : Array Value) (w : World) (g : Nat) (a b c d e f : Value) (hp : tmps.getD p undef = .pointer (some ⟨g, 0, none⟩)) (hg : w.heap[g]? = some (.cells #[a, b, c, d, e, f] 29 (0, 0))) :
    (results fn tmps).run Try.prog w = .ok (.agg #[a, b, c, d, e, f]) w := by
  have hp' : tmps[p]?.getD undef = .pointer (some ⟨g, 0, none⟩) := by simpa using hp
  simp [results, h, hp', asAddr, run_loadVar_row w g 29 29 #[a, b, c, d, e, f] (0, 0) _ hg Try.underlying29 rfl (by rw [info_loan]; rfl)]
theorem one6 (nm : ByteArray) (dl : Int) (a b : Option Addr) (n m k : Nat) (v1 v2 : Value) (h1 : v1.oneCell' = true) (h2 : v2.oneCell' = true) : (#[Value.string nm, .int .i64 dl, .slice a n m, .slice b k k, v1, v2] : Array Value).all (·.oneCell') = true := all_oneCell_toArray (cs := [.string nm, .int .i64 dl, .slice a n m, .slice b k k, v1, v2]) fun v hv => by
  simp at hv
  rcases hv with rfl | rfl | rfl | rfl | rfl | rfl
  · rfl
  · rfl
  · rfl
  · rfl
  · exact h1
  · exact h2
theorem one3 (nm : ByteArray) (dl : Int) (a : Option Addr) (n m : Nat) : (#[Value.string nm, .int .i64 dl, .slice a n m] : Array Value).all (·.oneCell') = true := all_oneCell_toArray (cs := [.string nm, .int .i64 dl, .slice a n m]) fun v hv => by
  simp at hv
  rcases hv with rfl | rfl | rfl <;> rfl
/-- the lists that lend notes -/
def noteN (ys : List No) : List Value := ys.map fun y => .slice y.q.ne.1 (y.nl.length + 20) (y.nl.length + 20)
def noteA (ys : List No) : List Value := ys.map fun y => .slice y.q.af.1 (y.al.length + 20) (y.al.length + 20)
def mkN : Nd := ⟨⟨#[109, 97, 114, 107]⟩, 0, 0, 0, 0, 0, 0, 0, (none, 0, 0), (none, 0, 0)⟩
theorem marks_step {j : Nat} (hj : j < 3) : (List.replicate j mkN ++ List.replicate (3 - j) (zN 0)).set j mkN = List.replicate (j + 1) mkN ++ List.replicate (3 - (j + 1)) (zN 0) := by
  have : j = 0 ∨ j = 1 ∨ j = 2 := by omega
  rcases this with rfl | rfl | rfl <;> rfl
/-- a plan that is lent, whole -/
structure Ln (b : Nat) (w : World) (n : Nat) (xs : List No) (G : Nat) (ys : List No) (v1 v2 : Value) : Prop where
  len : ys.length = n
  rows : RowsAt w G (ys.map (·.q) ++ List.replicate 3 mkN)
  lts : Lts w xs ys
  o1 : w.ownsRow (b + 4) 34 1 v1 n (noteN ys)
  o2 : w.ownsRow (b + 4) 34 1 v2 n (noteA ys)
  fr : Frs b ys
  gb : b ≤ G
def LdF (nm : ByteArray) (dl : Int) (n : Nat) (xs : List No) (w : World) (e : Ending) (w' : World) : Prop :=
  ∃ (G : Nat) (ys : List No) (v1 v2 : Value), e = .returned (.agg #[.string nm, .int .i64 dl, .slice (some ⟨G, 0, none⟩) n (n + 3), .slice (some ⟨G, 0, none⟩) (n + 3) (n + 3), v1, v2]) ∧ Ln w.heap.size w' n xs G ys v1 v2 ∧ Keep (fun _ => False) w w'
/-- what lend leaves and tells -/
def LdE (nm : ByteArray) (dl : Int) (n : Nat) (xs : List No) (w : World) (e : Ending) (w' : World) : Prop :=
  ∃ (G : Nat) (ys : List No) (ms : List Nd) (v1 v2 : Value), e = .returned (.agg #[.string nm, .int .i64 dl, .slice (some ⟨G, 0, none⟩) n (n + 3), .slice (some ⟨G, 0, none⟩) (n + 3) (n + 3), v1, v2]) ∧ w.heap.size ≤ G ∧ ys.length = n ∧ RowsAt w' G (ys.map (·.q) ++ ms) ∧ Lts w' xs ys ∧ Keep (fun _ => False) w w' ∧ (∃ x k z, v1 = Value.slice x k z) ∧ ∃ x k z, v2 = Value.slice x k z
end Gr
end Go.Proofs.Ytpblmleodcaamaa
