/- QueueKinds: three queues side by side. -/
import Derived.Test.YtobmnkoohgkiiaaQKin
import Derived.Test.YtobmnkoohgkiiaaQPai
import Derived.Test.YtobmnkoohgkiiaaQFil
import Derived.Test.YtobmnkoohgkiiaaQInt
import Derived.Test.YtobmnkoohgkiiaaQLaw
namespace Go.Proofs.Ytobmnkoohgkiiaa
namespace Qu
open Go.RowKit

/-- what brought answers: one capacity, wherever it is called -/
theorem brought_valK (c : Int) (h1 : -9223372036854775808 ≤ c) (h2 : c ≤ 9223372036854775807) : ∃ n : Nat, 1 ≤ n ∧ n ≤ 65536 ∧ ∀ w : World,
    Calls Try.prog 7 #[.int .i64 c] w fun e w' => e = .returned (.int .i64 (n : Nat)) ∧ w' = w := by
  obtain ⟨d, hd, hd1, hd2⟩ : ∃ d : Int, IntKind.i64.wrap (c - 1) = d ∧ -9223372036854775808 ≤ d ∧ d ≤ 9223372036854775807 := by
    by_cases h : c = -9223372036854775808
    · subst h; exact ⟨9223372036854775807, by decide, by decide, by decide⟩
    · exact ⟨c - 1, wrapI (by omega), by omega, by omega⟩
  have hb := pickV_in d 65536 (by decide)
  have HP := hide fun w => pick_any d 65536 hd1 hd2 (by decide) (by decide) w
  generalize hv : pickV d 65536 = v at *
  obtain ⟨m, hm⟩ : ∃ m : Nat, v = (m : Int) := ⟨v.toNat, by omega⟩
  subst hm
  have HB := hide hb
  have hm2 : m < 65536 := by omega
  refine ⟨m + 1, by omega, by omega, fun w => ?_⟩
  clear hv hb h1 h2 hd1 hd2
  go_enter Try.func7, Try.ntmps7
  go_wp2_with (go_at_call 13; refine (HP.out _).mono ?_; rintro e w1 ⟨rfl, hw⟩; have hw := hw.symm; subst hw)
  go_ret
  exact ⟨ret_int (by omega), rfl⟩
set_option maxRecDepth 100000 in
set_option maxHeartbeats 4000000 in
theorem same_anyK (c n kk : Int) (b : Bool) {x y : Option Addr} {m d d' : Nat} {z : List Int} (w : World) (h1 : RdZ w x m d z) (h2 : RdZ w y m d' z) (hz : z.length ≤ 8796093022208) :
    Calls Try.prog 14 #[.agg #[.int .i64 c, .int .i64 n, .bool b, .int .i64 kk, .slice x m d], .agg #[.int .i64 c, .int .i64 n, .bool b, .int .i64 kk, .slice y m d']] w fun e w' => e = .returned (.bool true) ∧ Keep (fun _ => False) w w' := by
  obtain ⟨w1, hw1⟩ : ∃ w1, w1 = (w.alloc (.cells #[.int .i64 c, .int .i64 n, .bool b, .int .i64 kk, .slice x m d] 39)).alloc (.cells #[.int .i64 c, .int .i64 n, .bool b, .int .i64 kk, .slice y m d'] 39) := ⟨_, rfl⟩
  have k1 : Keep (fun _ => False) w w1 := by rw [hw1]; exact (Keep.alloc _ _ _).more (Keep.alloc _ _ _)
  have HI := hide (ints_same w1 (h1.new k1) (h2.new k1) hz)
  have HK1 := hide k1
  have HW1 := hide hw1
  have hbb : (b == b) = true := by cases b <;> rfl
  clear h1 h2 k1 hw1
  go_enter Try.func14, Try.ntmps14
  go_wp2_with (go_at_call 18; simp only [← HW1.out]; refine HI.out.mono ?_; rintro e w2 ⟨rfl, hk⟩; have HK2 := hide hk; clear hk)
  go_ret
  exact ⟨rfl, HK1.out.more HK2.out⟩
/-- the blocks of a colour -/
def Cl (col : Nat → Nat) (w : World) (j i : Nat) : Prop := col i = j ∧ i < w.heap.size
/-- new blocks get a colour -/
def exq (col : Nat → Nat) (N x : Nat) (k : Nat) : Nat := if k < N then col k else x
theorem exq_old {col : Nat → Nat} {N x k : Nat} (h : k < N) : exq col N x k = col k := by unfold exq; rw [if_pos h]
theorem exq_new {col : Nat → Nat} {N x k : Nat} (h : N ≤ k) : exq col N x k = x := by unfold exq; rw [if_neg (Nat.not_lt.2 h)]
theorem Cl.up {col : Nat → Nat} {w w' : World} {j y i : Nat} (h : Cl col w j i) (hz : w.heap.size ≤ w'.heap.size) : Cl (exq col w.heap.size y) w' j i := ⟨(exq_old h.2).trans h.1, Nat.lt_of_lt_of_le h.2 hz⟩
/-- the three -/
structure Tri (W : World) (col : Nat → Nat) (P1 P2 P3 : Nat) (s1 : St Int) (s2 : St ByteArray) (s3 : St Rk) (w : World) : Prop where
  a : QAt KI (Cl col w 1) w P1 s1
  b : QAt KS (Cl col w 2) w P2 s2
  c : QAt KF (Cl col w 3) w P3 s3
  lo : ∀ i, i < W.heap.size → col i = 0
  kp : Keep (fun i => W.heap.size ≤ i) W w
section
variable {W w w' : World} {col : Nat → Nat} {P1 P2 P3 : Nat} {s1 t1 : St Int} {s2 t2 : St ByteArray} {s3 t3 : St Rk}
theorem stepK {β : Type} [DecidableEq β] {K : Kd β} {j P : Nat} {t : St β} (h : QAt K (fun i => Cl col w j i ∨ w.heap.size ≤ i) w' P t) : QAt K (Cl (exq col w.heap.size j) w' j) w' P t :=
  (QAt.low h).mono fun _ e => ⟨e.1.elim (fun e => (exq_old e.2).trans e.1) fun e => exq_new e, e.2⟩
theorem stayK {β : Type} [DecidableEq β] {K : Kd β} {j x y P : Nat} {t : St β} (h : QAt K (Cl col w j) w P t) (k : Keep (Cl col w x) w w') (hj : x ≠ j) : QAt K (Cl (exq col w.heap.size y) w' j) w' P t :=
  (h.stay k fun _ _ e e' => hj (e'.1.symm.trans e.1)).mono fun _ e => e.up k.size
theorem lowK {y : Nat} (h : ∀ i, i < W.heap.size → col i = 0) (hz : W.heap.size ≤ w.heap.size) : ∀ i, i < W.heap.size → exq col w.heap.size y i = 0 := fun i hi => by rw [exq_old (by omega)]; exact h i hi
theorem offK {x : Nat} (h : ∀ i, i < W.heap.size → col i = 0) (hx : x ≠ 0) (kp : Keep (fun i => W.heap.size ≤ i) W w) (k : Keep (Cl col w x) w w') : Keep (fun i => W.heap.size ≤ i) W w' :=
  kp.more (k.mono fun i e => Nat.le_of_not_lt fun hi => hx (e.1.symm.trans (h i hi)))
theorem Tri.one (h : Tri W col P1 P2 P3 s1 s2 s3 w) (q : QAt KI (fun i => Cl col w 1 i ∨ w.heap.size ≤ i) w' P1 t1) (k : Keep (Cl col w 1) w w') : Tri W (exq col w.heap.size 1) P1 P2 P3 t1 s2 s3 w' :=
  ⟨stepK q, stayK h.b k (by decide), stayK h.c k (by decide), lowK h.lo h.kp.size, offK h.lo (by decide) h.kp k⟩
theorem Tri.two (h : Tri W col P1 P2 P3 s1 s2 s3 w) (q : QAt KS (fun i => Cl col w 2 i ∨ w.heap.size ≤ i) w' P2 t2) (k : Keep (Cl col w 2) w w') : Tri W (exq col w.heap.size 2) P1 P2 P3 s1 t2 s3 w' :=
  ⟨stayK h.a k (by decide), stepK q, stayK h.c k (by decide), lowK h.lo h.kp.size, offK h.lo (by decide) h.kp k⟩
theorem Tri.three (h : Tri W col P1 P2 P3 s1 s2 s3 w) (q : QAt KF (fun i => Cl col w 3 i ∨ w.heap.size ≤ i) w' P3 t3) (k : Keep (Cl col w 3) w w') : Tri W (exq col w.heap.size 3) P1 P2 P3 s1 s2 t3 w' :=
  ⟨stayK h.a k (by decide), stayK h.b k (by decide), stepK q, lowK h.lo h.kp.size, offK h.lo (by decide) h.kp k⟩
theorem Tri.new (h : Tri W col P1 P2 P3 s1 s2 s3 w) (k : Keep (fun _ => False) w w') : Tri W (exq col w.heap.size 0) P1 P2 P3 s1 s2 s3 w' :=
  ⟨(h.a.new k).mono fun _ e => e.up k.size, (h.b.new k).mono fun _ e => e.up k.size, (h.c.new k).mono fun _ e => e.up k.size, lowK h.lo h.kp.size, h.kp.more (k.mono fun _ f => f.elim)⟩
end
/-- at the beginning -/
def colK (a1 a2 a3 a4 k : Nat) : Nat := if k < a1 then 0 else if k < a2 then 1 else if k < a3 then 2 else if k < a4 then 3 else 0
theorem Tri.begin_ {W w1 w2 w3 w4 : World} {P1 P2 P3 c : Nat} (k1 : Keep (fun _ => False) W w1) (k2 : Keep (fun _ => False) w1 w2) (k3 : Keep (fun _ => False) w2 w3) (k4 : Keep (fun _ => False) w3 w4)
    (q1 : QAt KI (fun k => w1.heap.size ≤ k) w2 P1 (fresh c)) (q2 : QAt KS (fun k => w2.heap.size ≤ k) w3 P2 (fresh c)) (q3 : QAt KF (fun k => w3.heap.size ≤ k) w4 P3 (fresh c)) :
    Tri W (colK w1.heap.size w2.heap.size w3.heap.size w4.heap.size) P1 P2 P3 (fresh c) (mapS tx (fresh c)) (mapS pk (fresh c)) w4 := by
  have z1 := k1.size
  have z2 := k2.size
  have z3 := k3.size
  have z4 := k4.size
  refine ⟨((QAt.low q1).new (k3.more k4)).mono fun b e => ⟨?_, by have := e.2; omega⟩, ((QAt.low q2).new k4).mono fun b e => ⟨?_, by have := e.2; omega⟩, (QAt.low q3).mono fun b e => ⟨?_, e.2⟩, fun b hb => ?_, (((k1.more k2).more k3).more k4).mono fun _ f => f.elim⟩
  · have := e.1
    have := e.2
    unfold colK
    rw [if_neg (by omega), if_pos (by omega)]
  · have := e.1
    have := e.2
    unfold colK
    rw [if_neg (by omega), if_neg (by omega), if_pos (by omega)]
  · have := e.1
    have := e.2
    unfold colK
    rw [if_neg (by omega), if_neg (by omega), if_neg (by omega), if_pos (by omega)]
  · unfold colK
    rw [if_pos (by omega)]
/-- what the three steps tell: one answer, and the key is 0 where nothing came -/
theorem told3 (s : St Int) (q k : Int) : ∃ (vc vn vk : Int) (vb : Bool) (m : Nat) (z : List Int), vc = (stC s q k : Nat) ∧ vn = (stN s q k : Nat) ∧ vb = stB s q ∧ vk = stK s q ∧ m = (stL s q).length * 2 ∧ z = pairs (stL s q) ∧ z.length = m ∧ (q = 2 → vb = false → vk = 0) :=
  ⟨_, _, _, _, _, _, rfl, rfl, rfl, rfl, rfl, rfl, pairs_length _, fun h2 hb => by
    subst h2
    unfold stB at hb
    unfold stK frN
    rw [if_pos (.inl rfl)] at hb ⊢
    cases hs : s.row with
    | nil => rfl
    | cons e r => rw [hs] at hb; simp at hb⟩
end Qu
end Go.Proofs.Ytobmnkoohgkiiaa
