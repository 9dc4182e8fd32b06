/- QueuePlays: a drawn step, and what stands behind it. -/
import Derived.Test.YtdokpaljlpfcjaaQPlM
import Derived.Laws.Tables
namespace Go.Proofs.Ytdokpaljlpfcjaa
namespace Qu
open Go.RowKit

theorem keep_row (w : World) (g : Nat) (cs : Array Value) : Keep (fun k => k = g) w (w.setRow g cs) := ⟨rfl, rfl, rfl, by simp [World.setRow], fun i _ hi => setRow_other w g i _ hi⟩
/-- what stands on a set of blocks -/
structure Stays (G : (Nat → Prop) → World → Prop) : Prop where
  stay : ∀ {S T : Nat → Prop} {w w' : World}, G S w → Keep T w w' → (∀ k, S k → ¬ T k) → G S w'
  low : ∀ {S : Nat → Prop} {w : World}, G S w → G (fun k => S k ∧ k < w.heap.size) w
  mono : ∀ {S T : Nat → Prop} {w : World}, G S w → (∀ k, S k → T k) → G T w
theorem staysQ (P : Nat) (s : St Int) : Stays fun S w => QAt KI S w P s := ⟨fun h k e => h.stay k fun i _ => e i, fun h => h.low, fun h e => h.mono e⟩
theorem staysD (P : Nat) (s : St Int) : Stays fun S w => Dq S w P s := ⟨fun h k e => h.stay k e, fun h => h.low, fun h e => h.mono e⟩
/-- behind a call whose answer was stored in a struct of its own -/
structure Aft (G : (Nat → Prop) → World → Prop) (w : World) (S : Nat → Prop) (c n k : Int) (b : Bool) (m : Nat) (vs : List Value) (X : Nat) (w3 : World) : Prop where
  g : G (fun i => S i ∨ w.heap.size ≤ i) w3
  kp : Keep S w w3
  x : w.heap.size ≤ X
  t : ∃ a cc, w3.heap[X]? = some (.cells #[.int .i64 c, .int .i64 n, .bool b, .int .i64 k, .slice a m cc] 39 (0, 0)) ∧ w3.ownsRow w.heap.size 3 1 (.slice a m cc) m vs
theorem Aft.one {G : (Nat → Prop) → World → Prop} (hG : Stays G) {w w2 : World} {S : Nat → Prop} {a : Option Addr} {m cc : Nat} {vs : List Value} (c n k : Int) (b : Bool)
    (h : G (fun i => S i ∨ w.drew.heap.size ≤ i) w2) (hk : Keep S w.drew w2) (hr : w2.ownsRow w.drew.heap.size 3 1 (.slice a m cc) m vs) :
    Aft G w S c n k b m vs w2.heap.size ((w2.alloc (.cells #[.int .i64 0, .int .i64 0, .bool false, .int .i64 0, .slice none 0 0] 39)).setRow w2.heap.size #[.int .i64 c, .int .i64 n, .bool b, .int .i64 k, .slice a m cc]) := by
  have k1 : Keep S w w2 := (Keep.drew S w).more hk
  have kA : Keep (fun i => i = w2.heap.size) w2 ((w2.alloc (.cells #[.int .i64 0, .int .i64 0, .bool false, .int .i64 0, .slice none 0 0] 39)).setRow w2.heap.size #[.int .i64 c, .int .i64 n, .bool b, .int .i64 k, .slice a m cc]) := (Keep.alloc _ _ _).more (keep_row _ _ _)
  have z := k1.size
  refine ⟨hG.mono (hG.stay (hG.low h) kA fun i e e' => ?_) fun i e => e.1, k1.trans kA fun i e => .inr ?_, z, a, cc, setRow_heap _ _ _ _ _ _ (heap_alloc_new w2 _), ownsRow_kp hr kA fun g e e' => ?_⟩
  · have := e.2; have e' : i = _ := e'; omega
  · have e : i = _ := e; omega
  · have := (hr.lt g e).2; have e' : g = _ := e'; omega
theorem Aft.two {G : (Nat → Prop) → World → Prop} (hG : Stays G) {w w2 : World} {S : Nat → Prop} {a : Option Addr} {m cc : Nat} {vs : List Value} (c n k : Int) (b : Bool) (hS : ∀ i, S i → i < w.heap.size)
    (h : G (fun i => S i ∨ w.heap.size + 1 ≤ i) w2) (hk : Keep S (w.drew.alloc (.cells #[.int .i64 0, .int .i64 0, .bool false, .int .i64 0, .slice none 0 0] 39)) w2) (hr : w2.ownsRow (w.heap.size + 1) 3 1 (.slice a m cc) m vs) :
    Aft G w S c n k b m vs w.heap.size (w2.setRow w.heap.size #[.int .i64 c, .int .i64 n, .bool b, .int .i64 k, .slice a m cc]) := by
  have k1 : Keep S w w2 := ((Keep.drew S w).more (Keep.alloc _ _ _)).more hk
  have kA : Keep (fun i => i = w.heap.size) w2 (w2.setRow w.heap.size #[.int .i64 c, .int .i64 n, .bool b, .int .i64 k, .slice a m cc]) := keep_row _ _ _
  refine ⟨hG.mono (hG.stay h kA fun i e e' => ?_) fun i e => e.imp (fun x => x) fun e => by omega, k1.trans kA fun i e => .inr ?_, Nat.le_refl _, a, cc, setRow_heap _ _ _ _ _ _ (hk.blk (heap_alloc_new w.drew _) fun e => ?_), ownsRow_base (ownsRow_kp hr kA fun g e e' => ?_) (by omega)⟩
  · have e' : i = _ := e'
    rcases e with e | e
    · have := hS i e; omega
    · omega
  · have e : i = _ := e; omega
  · have := hS _ e; exact Nat.lt_irrefl _ this
  · have := (hr.lt g e).1; have e' : g = _ := e'; omega
/-- a call that answers so, and leaves so -/
def Does (G : (Nat → Prop) → World → Prop) (S : Nat → Prop) (vc vn vk : Int) (vb : Bool) (m : Nat) (z : List Int) (w : World) (e : Ending) (w2 : World) : Prop :=
  ∃ a c, e = .returned (.agg #[.int .i64 vc, .int .i64 vn, .bool vb, .int .i64 vk, .slice a m c]) ∧ w2.ownsRow w.heap.size 3 1 (.slice a m c) m (z.map (Value.int .i64)) ∧ G (fun i => S i ∨ w.heap.size ≤ i) w2 ∧ Keep S w w2
/-- both steps answer alike -/
theorem both (s : St Int) (xq xk : Int) (q1 : -9223372036854775808 ≤ xq) (q2 : xq ≤ 9223372036854775807) (k1 : -9223372036854775808 ≤ xk) (k2 : xk ≤ 9223372036854775807) (hlast : s.last < 9007199254740990) (ok : Ok s) (hr : ∀ e ∈ s.row, KI.ok e.2) :
    ∃ (vc vn vk : Int) (vb : Bool) (m : Nat) (z : List Int) (t : St Int), z.length = m ∧ m ≤ 131072 ∧ t.last ≤ s.last + 1 ∧
      (∀ (S : Nat → Prop) (P : Nat) (x : Int) (w : World), QAt KI S w P s → (∀ i, S i → i < w.heap.size) → Calls Try.prog 9 #[.pointer (some ⟨P, 0, none⟩), .agg #[.int .i64 x, .int .i64 xq, .int .i64 xk]] w (Does (fun S w => QAt KI S w P t) S vc vn vk vb m z w)) ∧
      (∀ (S : Nat → Prop) (P : Nat) (x : Int) (w : World), Dq S w P s → (∀ i, S i → i < w.heap.size) → Calls Try.prog 10 #[.pointer (some ⟨P, 0, none⟩), .agg #[.int .i64 x, .int .i64 xq, .int .i64 xk]] w (Does (fun S w => Dq S w P t) S vc vn vk vb m z w)) := by
  have hlen : s.row.length ≤ 65536 := Nat.le_trans ok.len ok.pl
  have hl : (stL s (pickV xq 8)).length ≤ 65536 := by unfold stL; split; (exact hlen); (exact Nat.zero_le _)
  refine ⟨(stC s (pickV xq 8) xk : Nat), (stN s (pickV xq 8) xk : Nat), stK s (pickV xq 8), stB s (pickV xq 8), (stL s (pickV xq 8)).length * 2, pairs (stL s (pickV xq 8)), stS s (pickV xq 8) xk, pairs_length _, by omega, stS_last _ _ _, fun S P x w h hS => ?_, fun S P x w h hS => ?_⟩
  · refine (stepped_any x xq xk w h hS q1 q2 k1 k2 hlast).mono ?_
    rintro e w2 ⟨a, c, rfl, ho, hq, hk⟩
    exact ⟨a, c, rfl, by rw [← flat_pairs]; exact ho, hq, hk⟩
  · refine (wanted_any x xq xk w h hr ok hS q1 q2 k1 k2 hlast).mono ?_
    rintro e w2 ⟨a, c, rfl, ho, hq, hk⟩
    exact ⟨a, c, rfl, by rw [← flat_pairs]; exact ho, hq, hk⟩
/-- a round's two steps, in colours -/
theorem Pa.close {col : Nat → Nat} {w w3 w4 w5 : World} {j d P D j' d' P' D' : Nat} {s' t : St Int} (h' : Pa col w j' d' P' D' s') (hq : QAt KI (fun b => Cl col w j b ∨ w.heap.size ≤ b) w3 P t) (k3 : Keep (Cl col w j) w w3)
    (hr : Dq (fun b => Cl col w d b ∨ w3.heap.size ≤ b) w4 D t) (k4 : Keep (Cl col w d) w3 w4) (k5 : Keep (fun _ => False) w4 w5) (n1 : j ≠ d) (n2 : j ≠ j') (n3 : j ≠ d') (n4 : d ≠ j') (n5 : d ≠ d') :
    ∃ c3, Pa c3 w5 j d P D t ∧ Pa c3 w5 j' d' P' D' s' ∧ ∀ b, b < w.heap.size → c3 b = col b := by
  have z3 := k3.size
  have z4 := k4.size
  have up : ∀ b, Cl col w d b → Cl (exq col w.heap.size j) w3 d b := fun b e => ⟨(exq_old e.2).trans e.1, Nat.lt_of_lt_of_le e.2 z3⟩
  have k4' : Keep (Cl (exq col w.heap.size j) w3 d) w3 w4 := k4.mono up
  have q3 := stepQ hq
  have q4 : QAt KI (Cl (exq (exq col w.heap.size j) w3.heap.size d) w4 j) w4 P t := (q3.stay k4' fun _ _ e e' => n1 (e.1.symm.trans e'.1)).mono fun _ e => ⟨(exq_old e.2).trans e.1, Nat.lt_of_lt_of_le e.2 z4⟩
  have r4 : Dq (Cl (exq (exq col w.heap.size j) w3.heap.size d) w4 d) w4 D t := stepD (hr.mono fun b e => e.imp (up b) fun e => e)
  have h3 := h'.other j k3 n2 n3
  have h4 := h3.other d k4' n4 n5
  refine ⟨_, Pa.new (⟨q4, r4⟩ : Pa _ w4 j d P D t) 0 k5, h4.new 0 k5, fun b hb => ?_⟩
  rw [exq_old (by omega), exq_old (by omega), exq_old hb]
/-- the pair that a step speaks of, and how a round ends -/
theorem PlI.pick {W w : World} {A P1 P2 D1 D2 i : Nat} {tq tr : TypeId} {s1 s2 : St Int} (h : PlI W A tq tr P1 P2 D1 D2 i s1 s2 w) (m : Nat) (hm : m < 2) :
    ∃ (P D : Nat) (s : St Int) (S R : Nat → Prop), QAt KI S w P s ∧ Dq R w D s ∧ s.last ≤ i ∧ (∀ b, S b → b < w.heap.size ∧ W.heap.size ≤ b ∧ b ≠ A ∧ b ≠ A + 1) ∧ (∀ b, R b → b < w.heap.size ∧ W.heap.size ≤ b ∧ b ≠ A ∧ b ≠ A + 1) ∧ (∀ b, R b → ¬ S b) ∧
      w.cell? ⟨A, m, none⟩ = some (.pointer (some ⟨P, 0, none⟩)) ∧ w.cell? ⟨A + 1, m, none⟩ = some (.pointer (some ⟨D, 0, none⟩)) ∧
      ∀ (w3 w4 w5 : World) (t : St Int), QAt KI (fun b => S b ∨ w.heap.size ≤ b) w3 P t → Keep S w w3 → Dq (fun b => R b ∨ w3.heap.size ≤ b) w4 D t → Keep R w3 w4 → Keep (fun _ => False) w4 w5 → t.last ≤ s.last + 1 → ∃ s1 s2, PlI W A tq tr P1 P2 D1 D2 (i + 1) s1 s2 w5 := by
  obtain ⟨col, h1, h2, h0, hA, hB⟩ := h.ex
  have zA : A < w.heap.size := (Array.getElem?_eq_some_iff.1 h.a).1
  have zB : A + 1 < w.heap.size := (Array.getElem?_eq_some_iff.1 h.b).1
  have zW := h.k.size
  have off : ∀ x, x ≠ 0 → ∀ b, Cl col w x b → b < w.heap.size ∧ W.heap.size ≤ b ∧ b ≠ A ∧ b ≠ A + 1 := fun x hx b e => by
    refine ⟨e.2, Nat.le_of_not_lt fun hb => hx (e.1.symm.trans (h0 b hb)), fun eb => ?_, fun eb => ?_⟩
    · rw [eb] at e; exact hx (e.1.symm.trans hA)
    · rw [eb] at e; exact hx (e.1.symm.trans hB)
  have fin : ∀ (w3 w4 w5 : World) (x y : Nat), x ≠ 0 → y ≠ 0 → Keep (Cl col w x) w w3 → Keep (Cl col w y) w3 w4 → Keep (fun _ => False) w4 w5 →
      w5.heap[A]? = some (.cells #[.pointer (some ⟨P1, 0, none⟩), .pointer (some ⟨P2, 0, none⟩)] tq (0, 0)) ∧ w5.heap[A + 1]? = some (.cells #[.pointer (some ⟨D1, 0, none⟩), .pointer (some ⟨D2, 0, none⟩)] tr (0, 0)) ∧ Keep (fun b => W.heap.size ≤ b) W w5 := fun w3 w4 w5 x y hx hy k3 k4 k5 => by
    have l3 : Keep (fun b => W.heap.size ≤ b) w w3 := k3.mono fun b e => (off x hx b e).2.1
    have l4 : Keep (fun b => W.heap.size ≤ b) w3 w4 := k4.mono fun b e => (off y hy b e).2.1
    refine ⟨k5.blk (k4.blk (k3.blk h.a fun e => (off x hx _ e).2.2.1 rfl) fun e => (off y hy _ e).2.2.1 rfl) fun f => f, k5.blk (k4.blk (k3.blk h.b fun e => (off x hx _ e).2.2.2 rfl) fun e => (off y hy _ e).2.2.2 rfl) fun f => f, ?_⟩
    exact ((h.k.more l3).more l4).more (k5.mono fun _ f => f.elim)
  have e1 := h.l1
  have e2 := h.l2
  match m, hm with
  | 0, _ =>
    refine ⟨P1, D1, s1, Cl col w 1, Cl col w 3, h1.q, h1.r, h.l1, off 1 (by decide), off 3 (by decide), fun b e e' => ?_, cell_blk h.a 0 rfl, cell_blk h.b 0 rfl, fun w3 w4 w5 t hq k3 hr k4 k5 hl => ?_⟩
    · have := e.1.symm.trans e'.1; omega
    · obtain ⟨c3, p1, p2, hc⟩ := h2.close hq k3 hr k4 k5 (by decide) (by decide) (by decide) (by decide) (by decide)
      obtain ⟨f1, f2, f3⟩ := fin w3 w4 w5 1 3 (by decide) (by decide) k3 k4 k5
      exact ⟨t, s2, ⟨⟨c3, p1, p2, fun b hb => by rw [hc b (by omega)]; exact h0 b hb, by rw [hc _ zA]; exact hA, by rw [hc _ zB]; exact hB⟩, by omega, by omega, f1, f2, f3⟩⟩
  | 1, _ =>
    refine ⟨P2, D2, s2, Cl col w 2, Cl col w 4, h2.q, h2.r, h.l2, off 2 (by decide), off 4 (by decide), fun b e e' => ?_, cell_blk h.a 1 rfl, cell_blk h.b 1 rfl, fun w3 w4 w5 t hq k3 hr k4 k5 hl => ?_⟩
    · have := e.1.symm.trans e'.1; omega
    · obtain ⟨c3, p2, p1, hc⟩ := h1.close hq k3 hr k4 k5 (by decide) (by decide) (by decide) (by decide) (by decide)
      obtain ⟨f1, f2, f3⟩ := fin w3 w4 w5 2 4 (by decide) (by decide) k3 k4 k5
      exact ⟨s1, t, ⟨⟨c3, p1, p2, fun b hb => by rw [hc b (by omega)]; exact h0 b hb, by rw [hc _ zA]; exact hA, by rw [hc _ zB]; exact hB⟩, by omega, by omega, f1, f2, f3⟩⟩
end Qu
end Go.Proofs.Ytdokpaljlpfcjaa
