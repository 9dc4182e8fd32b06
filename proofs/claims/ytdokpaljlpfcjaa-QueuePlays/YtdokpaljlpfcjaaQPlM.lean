/- QueuePlays: two queues and two of the document's, side by side. -/
import Derived.Test.YtdokpaljlpfcjaaQSam
import Derived.Test.YtdokpaljlpfcjaaQFil
namespace Go.Proofs.Ytdokpaljlpfcjaa
namespace Qu
open Go.RowKit

/-- what brought answers: one capacity, wherever it is called -/
theorem brought_val (c : Int) (h1 : -9223372036854775808 ≤ c) (h2 : c ≤ 9223372036854775807) : ∃ n : Nat, 1 ≤ n ∧ n ≤ 65536 ∧ ∀ w : World,
    Calls Try.prog 6 #[.int .i64 c] w fun e w' => e = .returned (.int .i64 (n : Nat)) ∧ w' = w := by
  obtain ⟨d, hd, hd1, hd2⟩ : ∃ d : Int, IntKind.i64.wrap (c - 1) = d ∧ -9223372036854775808 ≤ d ∧ d ≤ 9223372036854775807 := by
    by_cases h : c = -9223372036854775808
    · subst h; exact ⟨9223372036854775807, by decide, by decide, by decide⟩
    · exact ⟨c - 1, wrapI (by omega), by omega, by omega⟩
  have hb := pickV_in d 65536 (by decide)
  have HP := hide fun w => pick_any d 65536 hd1 hd2 (by decide) (by decide) w
  generalize hv : pickV d 65536 = v at *
  obtain ⟨m, hm⟩ : ∃ m : Nat, v = (m : Int) := ⟨v.toNat, by omega⟩
  subst hm
  have HB := hide hb
  have hm2 : m < 65536 := by omega
  refine ⟨m + 1, by omega, by omega, fun w => ?_⟩
  clear hv hb h1 h2 hd1 hd2
  go_enter Try.func6, Try.ntmps6
  go_wp2_with (go_at_call 8; refine (HP.out _).mono ?_; rintro e w1 ⟨rfl, hw⟩; have hw := hw.symm; subst hw)
  go_ret
  exact ⟨ret_int (by omega), rfl⟩
/-- the blocks of a colour -/
def Cl (col : Nat → Nat) (w : World) (j i : Nat) : Prop := col i = j ∧ i < w.heap.size
/-- new blocks get a colour -/
def exq (col : Nat → Nat) (N x : Nat) (k : Nat) : Nat := if k < N then col k else x
theorem exq_old {col : Nat → Nat} {N x k : Nat} (h : k < N) : exq col N x k = col k := by unfold exq; rw [if_pos h]
theorem exq_new {col : Nat → Nat} {N x k : Nat} (h : N ≤ k) : exq col N x k = x := by unfold exq; rw [if_neg (Nat.not_lt.2 h)]
/-- a queue and the document's, in one state -/
structure Pa (col : Nat → Nat) (w : World) (j d P D : Nat) (s : St Int) : Prop where
  q : QAt KI (Cl col w j) w P s
  r : Dq (Cl col w d) w D s
theorem Dq.low {S : Nat → Prop} {w : World} {P : Nat} {s : St Int} (h : Dq S w P s) : Dq (fun k => S k ∧ k < w.heap.size) w P s := by
  obtain ⟨v, h⟩ := h
  exact ⟨v, h.blk, h.row, ⟨h.sp, (Array.getElem?_eq_some_iff.1 h.blk).1⟩, fun k e => ⟨h.sv k e, (h.row.lt k e).2⟩⟩
/-- what another colour's writing leaves -/
theorem Pa.other {col : Nat → Nat} {w w' : World} {j d P D x : Nat} {s : St Int} (h : Pa col w j d P D s) (y : Nat) (k : Keep (Cl col w x) w w') (hj : x ≠ j) (hd : x ≠ d) : Pa (exq col w.heap.size y) w' j d P D s :=
  ⟨(h.q.stay k fun _ _ e e' => hj (e'.1.symm.trans e.1)).mono fun _ e => ⟨(exq_old e.2).trans e.1, Nat.lt_of_lt_of_le e.2 k.size⟩,
    (h.r.stay k fun _ e e' => hd (e'.1.symm.trans e.1)).mono fun _ e => ⟨(exq_old e.2).trans e.1, Nat.lt_of_lt_of_le e.2 k.size⟩⟩
theorem Pa.new {col : Nat → Nat} {w w' : World} {j d P D : Nat} {s : St Int} (h : Pa col w j d P D s) (y : Nat) (k : Keep (fun _ => False) w w') : Pa (exq col w.heap.size y) w' j d P D s :=
  ⟨(h.q.new k).mono fun _ e => ⟨(exq_old e.2).trans e.1, Nat.lt_of_lt_of_le e.2 k.size⟩, (h.r.stay k fun _ _ f => f).mono fun _ e => ⟨(exq_old e.2).trans e.1, Nat.lt_of_lt_of_le e.2 k.size⟩⟩
/-- a queue behind its step: its new blocks have its colour -/
theorem stepQ {col : Nat → Nat} {w w' : World} {j P : Nat} {t : St Int} (h : QAt KI (fun i => Cl col w j i ∨ w.heap.size ≤ i) w' P t) : QAt KI (Cl (exq col w.heap.size j) w' j) w' P t :=
  h.low.mono fun _ e => ⟨e.1.elim (fun e => (exq_old e.2).trans e.1) fun e => exq_new e, e.2⟩
theorem stepD {col : Nat → Nat} {w w' : World} {d D : Nat} {t : St Int} (h : Dq (fun i => Cl col w d i ∨ w.heap.size ≤ i) w' D t) : Dq (Cl (exq col w.heap.size d) w' d) w' D t :=
  h.low.mono fun _ e => ⟨e.1.elim (fun e => (exq_old e.2).trans e.1) fun e => exq_new e, e.2⟩
/-- between two rounds of the law: both pairs, and the two lists that point at them -/
structure PlI (W : World) (A : Nat) (tq tr : TypeId) (P1 P2 D1 D2 i : Nat) (s1 s2 : St Int) (w : World) : Prop where
  ex : ∃ col, Pa col w 1 3 P1 D1 s1 ∧ Pa col w 2 4 P2 D2 s2 ∧ (∀ b, b < W.heap.size → col b = 0) ∧ col A = 0 ∧ col (A + 1) = 0
  l1 : s1.last ≤ i
  l2 : s2.last ≤ i
  a : w.heap[A]? = some (.cells #[.pointer (some ⟨P1, 0, none⟩), .pointer (some ⟨P2, 0, none⟩)] tq (0, 0))
  b : w.heap[A + 1]? = some (.cells #[.pointer (some ⟨D1, 0, none⟩), .pointer (some ⟨D2, 0, none⟩)] tr (0, 0))
  k : Keep (fun b => W.heap.size ≤ b) W w
/-- the colours at the beginning -/
def col0 (a1 a2 a3 a4 a5 k : Nat) : Nat := if k < a1 then 0 else if k < a2 then 1 else if k < a3 then 2 else if k < a4 then 3 else if k < a5 then 4 else 0
theorem PlI.begin_ {W w1 w2 w3 w4 w5 : World} {P1 P2 D1 D2 c1 c2 : Nat} {tq tr : TypeId} (k1 : Keep (fun _ => False) W w1) (k2 : Keep (fun _ => False) w1 w2) (k3 : Keep (fun _ => False) w2 w3) (k4 : Keep (fun _ => False) w3 w4) (k5 : Keep (fun _ => False) w4 w5)
    (q1 : QAt KI (fun k => w1.heap.size ≤ k) w2 P1 (fresh c1)) (q2 : QAt KI (fun k => w2.heap.size ≤ k) w3 P2 (fresh c2)) (r1 : Dq (fun k => w3.heap.size ≤ k) w4 D1 (fresh c1)) (r2 : Dq (fun k => w4.heap.size ≤ k) w5 D2 (fresh c2)) :
    PlI W w5.heap.size tq tr P1 P2 D1 D2 0 (fresh c1) (fresh c2) ((w5.alloc (.cells #[.pointer (some ⟨P1, 0, none⟩), .pointer (some ⟨P2, 0, none⟩)] tq)).alloc (.cells #[.pointer (some ⟨D1, 0, none⟩), .pointer (some ⟨D2, 0, none⟩)] tr)) := by
  have z1 := k1.size
  have z2 := k2.size
  have z3 := k3.size
  have z4 := k4.size
  have z5 := k5.size
  obtain ⟨w6, hw6⟩ : ∃ w6, w6 = (w5.alloc (.cells #[.pointer (some ⟨P1, 0, none⟩), .pointer (some ⟨P2, 0, none⟩)] tq)).alloc (.cells #[.pointer (some ⟨D1, 0, none⟩), .pointer (some ⟨D2, 0, none⟩)] tr) := ⟨_, rfl⟩
  have k6 : Keep (fun _ => False) w5 w6 := by rw [hw6]; exact (Keep.alloc _ _ _).more (Keep.alloc _ _ _)
  have z6 := k6.size
  rw [← hw6]
  refine ⟨⟨col0 w1.heap.size w2.heap.size w3.heap.size w4.heap.size w5.heap.size, ⟨?_, ?_⟩, ⟨?_, ?_⟩, fun b hb => ?_, ?_, ?_⟩, Nat.le_refl _, Nat.le_refl _, ?_, ?_, (((((k1.more k2).more k3).more k4).more k5).more k6).mono fun _ f => f.elim⟩
  · refine (q1.low.new ((((k3).more k4).more k5).more k6)).mono fun b e => ⟨?_, by have := e.2; omega⟩
    have := e.1
    have := e.2
    unfold col0
    rw [if_neg (by omega), if_pos (by omega)]
  · refine (r1.low.stay (k5.more k6) fun _ _ f => f).mono fun b e => ⟨?_, by have := e.2; omega⟩
    have := e.1
    have := e.2
    unfold col0
    rw [if_neg (by omega), if_neg (by omega), if_neg (by omega), if_pos (by omega)]
  · refine (q2.low.new ((k4.more k5).more k6)).mono fun b e => ⟨?_, by have := e.2; omega⟩
    have := e.1
    have := e.2
    unfold col0
    rw [if_neg (by omega), if_neg (by omega), if_pos (by omega)]
  · refine (r2.low.stay k6 fun _ _ f => f).mono fun b e => ⟨?_, by have := e.2; omega⟩
    have := e.1
    have := e.2
    unfold col0
    rw [if_neg (by omega), if_neg (by omega), if_neg (by omega), if_neg (by omega), if_pos (by omega)]
  · unfold col0
    rw [if_pos (by omega)]
  · unfold col0
    rw [if_neg (by omega), if_neg (by omega), if_neg (by omega), if_neg (by omega), if_neg (by omega)]
  · unfold col0
    rw [if_neg (by omega), if_neg (by omega), if_neg (by omega), if_neg (by omega), if_neg (by omega)]
  · rw [hw6]
    exact (Keep.alloc (fun _ => False) _ _).blk (heap_alloc_new _ _) fun f => f
  · rw [hw6]
    have h := heap_alloc_new (w5.alloc (.cells #[.pointer (some ⟨P1, 0, none⟩), .pointer (some ⟨P2, 0, none⟩)] tq)) (.cells #[.pointer (some ⟨D1, 0, none⟩), .pointer (some ⟨D2, 0, none⟩)] tr)
    rwa [World.size_alloc] at h
end Qu
end Go.Proofs.Ytdokpaljlpfcjaa
