/- Chapter 8's laws: a step, done. -/
import Derived.Test.YtobmnkoohgkiiaaQLaw
namespace Go.Proofs.Ytobmnkoohgkiiaa
namespace Qu
open Go.RowKit

def frN (s : St Int) : Int := match s.row with | [] => 0 | e :: _ => e.2
theorem frontV_I (s : St Int) : frontV KI (.int .i64 0) s = .int .i64 (frN s) := by
  unfold frontV frN
  cases s.row <;> rfl

/-- what a step leaves, and what it tells: code, number, whether, thing, list -/
def stS (s : St Int) (q k : Int) : St Int := if q = 0 ∨ q = 1 then s.pushed k else if q = 2 then s.take 0 else if q = 4 then s.remove k else s
def stC (s : St Int) (q k : Int) : Nat := if q = 0 ∨ q = 1 then (pushR s k).2 else if q = 4 ∨ q = 5 then (aheadR s.row k).2 else 0
def stN (s : St Int) (q k : Int) : Nat := if q = 0 ∨ q = 1 then (pushR s k).1 else if q = 5 then (aheadR s.row k).1 else if q = 6 then s.row.length else 0
def stB (s : St Int) (q : Int) : Bool := if q = 2 ∨ q = 3 then !s.row.isEmpty else false
def stK (s : St Int) (q : Int) : Int := if q = 2 ∨ q = 3 then frN s else 0
def stL (s : St Int) (q : Int) : List (Nat × Int) := if q = 7 then s.row else []

/-- what a step does -/
def Steps (S : Nat → Prop) (w : World) (P : Nat) (s : St Int) (q k : Int) (e : Ending) (w' : World) : Prop :=
  ∃ a c, e = .returned (.agg #[.int .i64 (stC s q k : Nat), .int .i64 (stN s q k : Nat), .bool (stB s q), .int .i64 (stK s q), .slice a ((stL s q).length * 2) c]) ∧ w'.ownsRow w.heap.size 3 1 (.slice a ((stL s q).length * 2) c) ((stL s q).length * 2) (flat KI (stL s q)) ∧
    QAt KI (fun i => S i ∨ w.heap.size ≤ i) w' P (stS s q k) ∧ Keep S w w'

theorem eight {q : Int} (h : 0 ≤ q ∧ q < 8) : q = 0 ∨ q = 1 ∨ q = 2 ∨ q = 3 ∨ q = 4 ∨ q = 5 ∨ q = 6 ∨ q = 7 := by omega

theorem info_told : (Try.prog.info? 39).map (·.size) = some 5 := by kernel_rfl
theorem res_told {fn : Func} {p : Tmp} (h : fn.results = #[.cell p 39]) (tmps : Array Value) (w : World) (g : Nat) (a b c d e : Value) (hp : tmps.getD p undef = .pointer (some ⟨g, 0, none⟩)) (hg : w.heap[g]? = some (.cells #[a, b, c, d, e] 39 (0, 0))) :
    (results fn tmps).run Try.prog w = .ok (.agg #[a, b, c, d, e]) w :=
  results_cell_row h tmps w g 39 #[a, b, c, d, e] (0, 0) _ hp hg Try.underlying39 rfl (by rw [info_told]; rfl)

def put5 (w : World) (g : Nat) (a b c d e : Value) : World := ((((w.setCell ⟨g, 0, none⟩ a).setCell ⟨g, 1, none⟩ b).setCell ⟨g, 2, none⟩ c).setCell ⟨g, 3, none⟩ d).setCell ⟨g, 4, none⟩ e
theorem put5_keep (w : World) (g : Nat) (a b c d e : Value) : Keep (fun i => i = g) w (put5 w g a b c d e) := ((((keep_cell w g 0 a).more (keep_cell _ g 1 b)).more (keep_cell _ g 2 c)).more (keep_cell _ g 3 d)).more (keep_cell _ g 4 e)
theorem put5_blk {w : World} {g : Nat} {x0 x1 x2 x3 x4 : Value} {t : TypeId} (h : w.heap[g]? = some (.cells #[x0, x1, x2, x3, x4] t (0, 0))) (a b c d e : Value) : (put5 w g a b c d e).heap[g]? = some (.cells #[a, b, c, d, e] t (0, 0)) := by
  unfold put5
  rw [set_blk (set_blk (set_blk (set_blk (set_blk h 0 a) 1 b) 2 c) 3 d) 4 e]
  rfl

theorem Steps.done {S : Nat → Prop} {w w2 w3 : World} {P : Nat} {s : St Int} {q k : Int} {c n : Nat} {b : Bool} {kk : Int} {r : List (Nat × Int)} {s2 : St Int} {a : Option Addr} {cc : Nat}
    (e1 : stC s q k = c) (e2 : stN s q k = n) (e3 : stB s q = b) (e4 : stK s q = kk) (e5 : stL s q = r) (e6 : stS s q k = s2)
    (h : QAt KI (fun i => S i ∨ w2.heap.size ≤ i) w3 P s2) (k1 : Keep (fun _ => False) w w2) (h2 : w2.heap.size = w.heap.size + 2) (k3 : Keep S w2 w3) (hS : ∀ i, S i → i < w.heap.size) (hr : w3.ownsRow (w.heap.size + 2) 3 1 (.slice a (r.length * 2) cc) (r.length * 2) (flat KI r)) :
    Steps S w P s q k (.returned (.agg #[.int .i64 (c : Nat), .int .i64 (n : Nat), .bool b, .int .i64 kk, .slice a (r.length * 2) cc])) (put5 w3 (w.heap.size + 1) (.int .i64 (c : Nat)) (.int .i64 (n : Nat)) (.bool b) (.int .i64 kk) (.slice a (r.length * 2) cc)) := by
  subst e1 e2 e3 e4 e5 e6
  have kk := put5_keep w3 (w.heap.size + 1) (.int .i64 (stC s q k : Nat)) (.int .i64 (stN s q k : Nat)) (.bool (stB s q)) (.int .i64 (stK s q)) (.slice a ((stL s q).length * 2) cc)
  refine ⟨a, cc, rfl, ownsRow_base (ownsRow_far hr kk (fun k e1 e2 => by omega)) (by omega), (h.stay kk fun k _ e1 e2 => ?_).mono fun k e => e.imp (fun x => x) fun e => by omega, ?_⟩
  · rcases e1 with e1 | e1
    · have := hS k e1; omega
    · omega
  · exact ((k1.mono fun _ f => f.elim).more k3).trans kk fun k e => .inr (by omega)

set_option maxRecDepth 100000 in
set_option maxHeartbeats 4000000 in
theorem stepped_any {S : Nat → Prop} {P : Nat} {s : St Int} (x y k : Int) (w : World) (h : QAt KI S w P s) (hS : ∀ i, S i → i < w.heap.size) (y1 : -9223372036854775808 ≤ y) (y2 : y ≤ 9223372036854775807) (k1 : -9223372036854775808 ≤ k) (k2 : k ≤ 9223372036854775807) (hlast : s.last < 9007199254740990) :
    Calls Try.prog 10 #[.pointer (some ⟨P, 0, none⟩), .agg #[.int .i64 x, .int .i64 y, .int .i64 k]] w (Steps S w P s (pickV y 8) k) := by
  have hq := eight (pickV_in y 8 (by decide))
  obtain ⟨w1, hw1⟩ : ∃ w1, w1 = (w.alloc (.cells #[.int .i64 x, .int .i64 y, .int .i64 k] 42)).alloc (.cells #[.int .i64 0, .int .i64 0, .bool false, .int .i64 0, .slice none 0 0] 39) := ⟨_, rfl⟩
  have PK := hide (pick_any y 8 y1 y2 (by decide) (by decide) w1)
  generalize hqv : pickV y 8 = q at *
  have K1 : Hid (Keep (fun _ => False) w w1) := by rw [hw1]; exact (Keep.alloc _ _ _).more (Keep.alloc _ _ _)
  have H1 := hide (h.new K1.out)
  have hsz1 : w1.heap.size = w.heap.size + 2 := by rw [hw1]; simp
  have b0 : w1.heap[w.heap.size]? = some (.cells #[.int .i64 x, .int .i64 y, .int .i64 k] 42 (0, 0)) := by rw [hw1]; exact (Keep.alloc (fun _ => False) _ _).blk (heap_alloc_new _ _) fun f => f
  have b1 : w1.heap[w.heap.size + 1]? = some (.cells #[.int .i64 0, .int .i64 0, .bool false, .int .i64 0, .slice none 0 0] 39 (0, 0)) := by
    rw [hw1]
    have := heap_alloc_new (w.alloc (.cells #[.int .i64 x, .int .i64 y, .int .i64 k] 42)) (.cells #[.int .i64 0, .int .i64 0, .bool false, .int .i64 0, .slice none 0 0] 39)
    rwa [World.size_alloc] at this
  have hok : KI.ok k := ⟨k1, k2⟩
  have HW1 := hide hw1
  have HB0 := hide b0
  have HB1 := hide b1
  have HSz := hide hsz1
  have HS := hide hS
  have HK := hide hok
  have x1 := cell_blk b0 1 (v := .int .i64 y) rfl
  have x2 := cell_blk b0 2 (v := .int .i64 k) rfl
  clear hqv hw1 h b0 b1 hsz1 hS hok y1 y2
  go_enter Try.func10, Try.ntmps10
  go_wp2_with fail
  go_at_call 13
  simp only [← HW1.out]
  refine PK.out.mono ?_
  rintro e w2 ⟨rfl, rfl⟩
  rcases hq with rfl | rfl | rfl | rfl | rfl | rfl | rfl | rfl
  · go_wp2_with fail
    go_at_call 24
    refine (pushI k w2 H1.out HK.out hlast).mono ?_
    rintro e w3 ⟨rfl, q3, k3⟩
    have B3 := k3.blk HB1.out (fun e => by have := HS.out _ e; omega)
    have HE := hide (Steps.done (q := 0) (k := k) (s := s) (c := (pushR s k).2) (n := (pushR s k).1) (b := false) (kk := 0) (r := []) (s2 := (s.pushed k)) (a := none) (cc := 0) rfl rfl rfl rfl rfl rfl q3 K1.out HSz.out k3 HS.out (World.ownsRow_nil _ _ _ _))
    generalize (pushR s k).1 = pn at *
    generalize (pushR s k).2 = pc at *
    have z0 := cell_blk B3 0 (v := .int .i64 0) rfl
    have z1 := cell_blk B3 1 (v := .int .i64 0) rfl
    have z2 := cell_blk B3 2 (v := .bool false) rfl
    have z3 := cell_blk B3 3 (v := .int .i64 0) rfl
    have z4 := cell_blk B3 4 (v := .slice none 0 0) rfl
    have f0 := frozen_blk B3 0
    have f1 := frozen_blk B3 1
    have f2 := frozen_blk B3 2
    have f3 := frozen_blk B3 3
    have f4 := frozen_blk B3 4
    have HB3 := hide B3
    clear q3 k3 B3
    go_wp2
    exact bodyPost_ret (res_told rfl _ _ (w.heap.size + 1) _ _ _ _ _ rfl (put5_blk HB3.out _ _ _ _ _)) rfl HE.out
  · go_wp2_with fail
    go_at_call 24
    refine (pushI k w2 H1.out HK.out hlast).mono ?_
    rintro e w3 ⟨rfl, q3, k3⟩
    have B3 := k3.blk HB1.out (fun e => by have := HS.out _ e; omega)
    have HE := hide (Steps.done (q := 1) (k := k) (s := s) (c := (pushR s k).2) (n := (pushR s k).1) (b := false) (kk := 0) (r := []) (s2 := (s.pushed k)) (a := none) (cc := 0) rfl rfl rfl rfl rfl rfl q3 K1.out HSz.out k3 HS.out (World.ownsRow_nil _ _ _ _))
    generalize (pushR s k).1 = pn at *
    generalize (pushR s k).2 = pc at *
    have z0 := cell_blk B3 0 (v := .int .i64 0) rfl
    have z1 := cell_blk B3 1 (v := .int .i64 0) rfl
    have z2 := cell_blk B3 2 (v := .bool false) rfl
    have z3 := cell_blk B3 3 (v := .int .i64 0) rfl
    have z4 := cell_blk B3 4 (v := .slice none 0 0) rfl
    have f0 := frozen_blk B3 0
    have f1 := frozen_blk B3 1
    have f2 := frozen_blk B3 2
    have f3 := frozen_blk B3 3
    have f4 := frozen_blk B3 4
    have HB3 := hide B3
    clear q3 k3 B3
    go_wp2
    exact bodyPost_ret (res_told rfl _ _ (w.heap.size + 1) _ _ _ _ _ rfl (put5_blk HB3.out _ _ _ _ _)) rfl HE.out
  · go_wp2_with fail
    go_at_call 25
    refine (popI w2 H1.out).mono ?_
    rintro e w3 ⟨rfl, q3, k3⟩
    replace q3 := q3.mono (T := fun i => S i ∨ w2.heap.size ≤ i) fun _ e => .inl e
    have B3 := k3.blk HB1.out (fun e => by have := HS.out _ e; omega)
    have HE := hide (Steps.done (q := 2) (k := k) (s := s) (c := 0) (n := 0) (b := (!s.row.isEmpty)) (kk := (frN s)) (r := []) (s2 := (s.take 0)) (a := none) (cc := 0) rfl rfl rfl rfl rfl rfl q3 K1.out HSz.out k3 HS.out (World.ownsRow_nil _ _ _ _))
    rw [frontV_I]
    generalize frN s = fk at *
    generalize (!s.row.isEmpty) = fb at *
    have z0 := cell_blk B3 0 (v := .int .i64 0) rfl
    have z1 := cell_blk B3 1 (v := .int .i64 0) rfl
    have z2 := cell_blk B3 2 (v := .bool false) rfl
    have z3 := cell_blk B3 3 (v := .int .i64 0) rfl
    have z4 := cell_blk B3 4 (v := .slice none 0 0) rfl
    have f0 := frozen_blk B3 0
    have f1 := frozen_blk B3 1
    have f2 := frozen_blk B3 2
    have f3 := frozen_blk B3 3
    have f4 := frozen_blk B3 4
    have HB3 := hide B3
    clear q3 k3 B3
    go_wp2
    exact bodyPost_ret (res_told rfl _ _ (w.heap.size + 1) _ _ _ _ _ rfl (put5_blk HB3.out _ _ _ _ _)) rfl HE.out
  · go_wp2_with fail
    go_at_call 26
    obtain ⟨_, _, m1, v1, q1⟩ := H1.out
    refine (frontI w2 q1).mono ?_
    rintro e w3 ⟨rfl, rfl⟩
    have k3 : Keep (fun _ => False) w3 w3 := Keep.refl _ _
    have q3 : QAt KI (fun i => S i ∨ w3.heap.size ≤ i) w3 P s := H1.out.mono fun _ e => .inl e
    have B3 := k3.blk HB1.out (fun e => e)
    have HE := hide (Steps.done (q := 3) (k := k) (s := s) (c := 0) (n := 0) (b := (!s.row.isEmpty)) (kk := (frN s)) (r := []) (s2 := s) (a := none) (cc := 0) rfl rfl rfl rfl rfl rfl q3 K1.out HSz.out (k3.mono fun _ f => f.elim) HS.out (World.ownsRow_nil _ _ _ _))
    rw [frontV_I]
    generalize frN s = fk at *
    generalize (!s.row.isEmpty) = fb at *
    have z0 := cell_blk B3 0 (v := .int .i64 0) rfl
    have z1 := cell_blk B3 1 (v := .int .i64 0) rfl
    have z2 := cell_blk B3 2 (v := .bool false) rfl
    have z3 := cell_blk B3 3 (v := .int .i64 0) rfl
    have z4 := cell_blk B3 4 (v := .slice none 0 0) rfl
    have f0 := frozen_blk B3 0
    have f1 := frozen_blk B3 1
    have f2 := frozen_blk B3 2
    have f3 := frozen_blk B3 3
    have f4 := frozen_blk B3 4
    have HB3 := hide B3
    clear q3 k3 B3
    go_wp2
    exact bodyPost_ret (res_told rfl _ _ (w.heap.size + 1) _ _ _ _ _ rfl (put5_blk HB3.out _ _ _ _ _)) rfl HE.out
  · go_wp2_with fail
    go_at_call 27
    refine (removeI k w2 H1.out HK.out).mono ?_
    rintro e w3 ⟨rfl, q3, k3⟩
    replace q3 := q3.mono (T := fun i => S i ∨ w2.heap.size ≤ i) fun _ e => .inl e
    have B3 := k3.blk HB1.out (fun e => by have := HS.out _ e; omega)
    have HE := hide (Steps.done (q := 4) (k := k) (s := s) (c := (aheadR s.row k).2) (n := 0) (b := false) (kk := 0) (r := []) (s2 := (s.remove k)) (a := none) (cc := 0) rfl rfl rfl rfl rfl rfl q3 K1.out HSz.out k3 HS.out (World.ownsRow_nil _ _ _ _))
    generalize (aheadR s.row k).2 = pc at *
    have z0 := cell_blk B3 0 (v := .int .i64 0) rfl
    have z1 := cell_blk B3 1 (v := .int .i64 0) rfl
    have z2 := cell_blk B3 2 (v := .bool false) rfl
    have z3 := cell_blk B3 3 (v := .int .i64 0) rfl
    have z4 := cell_blk B3 4 (v := .slice none 0 0) rfl
    have f0 := frozen_blk B3 0
    have f1 := frozen_blk B3 1
    have f2 := frozen_blk B3 2
    have f3 := frozen_blk B3 3
    have f4 := frozen_blk B3 4
    have HB3 := hide B3
    clear q3 k3 B3
    go_wp2
    exact bodyPost_ret (res_told rfl _ _ (w.heap.size + 1) _ _ _ _ _ rfl (put5_blk HB3.out _ _ _ _ _)) rfl HE.out
  · go_wp2_with fail
    go_at_call 28
    refine (aheadI k w2 H1.out HK.out).mono ?_
    rintro e w3 ⟨rfl, k3⟩
    have q3 : QAt KI (fun i => S i ∨ w2.heap.size ≤ i) w3 P s := (H1.out.new k3).mono fun _ e => .inl e
    have B3 := k3.blk HB1.out (fun e => e)
    have HE := hide (Steps.done (q := 5) (k := k) (s := s) (c := (aheadR s.row k).2) (n := (aheadR s.row k).1) (b := false) (kk := 0) (r := []) (s2 := s) (a := none) (cc := 0) rfl rfl rfl rfl rfl rfl q3 K1.out HSz.out (k3.mono fun _ f => f.elim) HS.out (World.ownsRow_nil _ _ _ _))
    generalize (aheadR s.row k).2 = pc at *
    generalize (aheadR s.row k).1 = pn at *
    have z0 := cell_blk B3 0 (v := .int .i64 0) rfl
    have z1 := cell_blk B3 1 (v := .int .i64 0) rfl
    have z2 := cell_blk B3 2 (v := .bool false) rfl
    have z3 := cell_blk B3 3 (v := .int .i64 0) rfl
    have z4 := cell_blk B3 4 (v := .slice none 0 0) rfl
    have f0 := frozen_blk B3 0
    have f1 := frozen_blk B3 1
    have f2 := frozen_blk B3 2
    have f3 := frozen_blk B3 3
    have f4 := frozen_blk B3 4
    have HB3 := hide B3
    clear q3 k3 B3
    go_wp2
    exact bodyPost_ret (res_told rfl _ _ (w.heap.size + 1) _ _ _ _ _ rfl (put5_blk HB3.out _ _ _ _ _)) rfl HE.out
  · go_wp2_with fail
    go_at_call 29
    obtain ⟨_, _, m1, v1, q1⟩ := H1.out
    refine (lenI w2 q1).mono ?_
    rintro e w3 ⟨rfl, rfl⟩
    have k3 : Keep (fun _ => False) w3 w3 := Keep.refl _ _
    have q3 : QAt KI (fun i => S i ∨ w3.heap.size ≤ i) w3 P s := H1.out.mono fun _ e => .inl e
    have B3 := k3.blk HB1.out (fun e => e)
    have HE := hide (Steps.done (q := 6) (k := k) (s := s) (c := 0) (n := s.row.length) (b := false) (kk := 0) (r := []) (s2 := s) (a := none) (cc := 0) rfl rfl rfl rfl rfl rfl q3 K1.out HSz.out (k3.mono fun _ f => f.elim) HS.out (World.ownsRow_nil _ _ _ _))
    have z0 := cell_blk B3 0 (v := .int .i64 0) rfl
    have z1 := cell_blk B3 1 (v := .int .i64 0) rfl
    have z2 := cell_blk B3 2 (v := .bool false) rfl
    have z3 := cell_blk B3 3 (v := .int .i64 0) rfl
    have z4 := cell_blk B3 4 (v := .slice none 0 0) rfl
    have f0 := frozen_blk B3 0
    have f1 := frozen_blk B3 1
    have f2 := frozen_blk B3 2
    have f3 := frozen_blk B3 3
    have f4 := frozen_blk B3 4
    have HB3 := hide B3
    clear q3 k3 B3
    go_wp2
    exact bodyPost_ret (res_told rfl _ _ (w.heap.size + 1) _ _ _ _ _ rfl (put5_blk HB3.out _ _ _ _ _)) rfl HE.out
  · go_wp2_with fail
    go_at_call 16
    refine (whole_any w2 H1.out).mono ?_
    rintro e w3 ⟨a3, c3, rfl, r3, k3⟩
    have q3 : QAt KI (fun i => S i ∨ w2.heap.size ≤ i) w3 P s := (H1.out.new k3).mono fun _ e => .inl e
    rw [HSz.out] at r3
    have RW := hide r3
    clear r3
    have B3 := k3.blk HB1.out (fun e => e)
    have HE := hide (Steps.done (q := 7) (k := k) (s := s) (c := 0) (n := 0) (b := false) (kk := 0) (r := s.row) (s2 := s) (a := a3) (cc := c3) rfl rfl rfl rfl rfl rfl q3 K1.out HSz.out (k3.mono fun _ f => f.elim) HS.out RW.out)
    have z0 := cell_blk B3 0 (v := .int .i64 0) rfl
    have z1 := cell_blk B3 1 (v := .int .i64 0) rfl
    have z2 := cell_blk B3 2 (v := .bool false) rfl
    have z3 := cell_blk B3 3 (v := .int .i64 0) rfl
    have z4 := cell_blk B3 4 (v := .slice none 0 0) rfl
    have f0 := frozen_blk B3 0
    have f1 := frozen_blk B3 1
    have f2 := frozen_blk B3 2
    have f3 := frozen_blk B3 3
    have f4 := frozen_blk B3 4
    have HB3 := hide B3
    clear q3 k3 B3
    go_wp2
    exact bodyPost_ret (res_told rfl _ _ (w.heap.size + 1) _ _ _ _ _ rfl (put5_blk HB3.out _ _ _ _ _)) rfl HE.out

end Qu
end Go.Proofs.Ytobmnkoohgkiiaa
