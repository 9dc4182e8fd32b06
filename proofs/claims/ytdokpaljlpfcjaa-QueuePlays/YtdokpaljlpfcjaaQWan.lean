/- Chapter 8's laws: wanted: a step of the document's queue (wan_gen.py). -/
import Derived.Test.YtdokpaljlpfcjaaQDo5
import Derived.Test.YtdokpaljlpfcjaaQDo6
import Derived.Test.YtdokpaljlpfcjaaQDo7
namespace Go.Proofs.Ytdokpaljlpfcjaa
namespace Qu
open Go.RowKit

/-- what the document's step does -/
def Wants (S : Nat → Prop) (w : World) (P : Nat) (s : St Int) (q k : Int) (e : Ending) (w' : World) : Prop :=
  ∃ a c, e = .returned (.agg #[.int .i64 (stC s q k : Nat), .int .i64 (stN s q k : Nat), .bool (stB s q), .int .i64 (stK s q), .slice a ((stL s q).length * 2) c]) ∧ w'.ownsRow w.heap.size 3 1 (.slice a ((stL s q).length * 2) c) ((stL s q).length * 2) (flat KI (stL s q)) ∧
    Dq (fun i => S i ∨ w.heap.size ≤ i) w' P (stS s q k) ∧ Keep S w w'
theorem Wants.done {S : Nat → Prop} {w w2 w3 : World} {P : Nat} {s : St Int} {q k : Int} {c n : Nat} {b : Bool} {kk : Int} {r : List (Nat × Int)} {s2 : St Int} {a : Option Addr} {cc : Nat}
    (e1 : stC s q k = c) (e2 : stN s q k = n) (e3 : stB s q = b) (e4 : stK s q = kk) (e5 : stL s q = r) (e6 : stS s q k = s2)
    (h : Dq (fun i => S i ∨ w2.heap.size ≤ i) w3 P s2) (k1 : Keep (fun _ => False) w w2) (h2 : w.heap.size + 2 ≤ w2.heap.size) (k3 : Keep S w2 w3) (hS : ∀ i, S i → i < w.heap.size) (hr : w3.ownsRow w2.heap.size 3 1 (.slice a (r.length * 2) cc) (r.length * 2) (flat KI r)) :
    Wants S w P s q k (.returned (.agg #[.int .i64 (c : Nat), .int .i64 (n : Nat), .bool b, .int .i64 kk, .slice a (r.length * 2) cc])) (put5 w3 (w.heap.size + 1) (.int .i64 (c : Nat)) (.int .i64 (n : Nat)) (.bool b) (.int .i64 kk) (.slice a (r.length * 2) cc)) := by
  subst e1 e2 e3 e4 e5 e6
  have kk := put5_keep w3 (w.heap.size + 1) (.int .i64 (stC s q k : Nat)) (.int .i64 (stN s q k : Nat)) (.bool (stB s q)) (.int .i64 (stK s q)) (.slice a ((stL s q).length * 2) cc)
  refine ⟨a, cc, rfl, ownsRow_base (ownsRow_kp hr kk fun g e (e2 : g = w.heap.size + 1) => by have := (hr.lt g e).1; omega) (by omega), (h.stay kk fun k e1 (e2 : k = w.heap.size + 1) => ?_).mono fun k e => e.imp (fun x => x) fun e => by omega, ?_⟩
  · rcases e1 with e1 | e1
    · have := hS k e1; omega
    · omega
  · exact ((k1.mono fun _ f => f.elim).more k3).trans kk fun k e => .inr (by have e : k = w.heap.size + 1 := e; omega)
theorem number_none (w : World) : Calls Try.prog 30 #[.string ⟨#[]⟩] w fun e w' => e = .returned (.int .i64 0) ∧ w' = w := by
  go_enter Try.func30, Try.ntmps30
  go_wp2
  go_rounds 1
  go_ret
  exact ⟨rfl, rfl⟩
theorem number_fr (s : St Int) (hr : ∀ e ∈ s.row, KI.ok e.2) (w : World) : Calls Try.prog 30 #[.string (frT s)] w fun e w' => e = .returned (.int .i64 (frN s)) ∧ w' = w := by
  unfold frT frN
  cases h : s.row with
  | nil => exact number_none w
  | cons e r =>
    have := hr e (by rw [h]; simp)
    exact number_any e.2 this.1 this.2 w
set_option maxRecDepth 100000 in
set_option maxHeartbeats 4000000 in
theorem wanted_any {S : Nat → Prop} {P : Nat} {s : St Int} (x y k : Int) (w : World) (h : Dq S w P s) (hr : ∀ e ∈ s.row, KI.ok e.2) (ok : Ok s) (hS : ∀ i, S i → i < w.heap.size) (y1 : -9223372036854775808 ≤ y) (y2 : y ≤ 9223372036854775807) (k1 : -9223372036854775808 ≤ k) (k2 : k ≤ 9223372036854775807) (hlast : s.last < 9007199254740990) :
    Calls Try.prog 10 #[.pointer (some ⟨P, 0, none⟩), .agg #[.int .i64 x, .int .i64 y, .int .i64 k]] w (Wants S w P s (pickV y 8) k) := by
  have hq := eight (pickV_in y 8 (by decide))
  have hlen : s.row.length ≤ 65536 := Nat.le_trans ok.len ok.pl
  obtain ⟨w1, hw1⟩ : ∃ w1, w1 = (w.alloc (.cells #[.int .i64 x, .int .i64 y, .int .i64 k] 36)).alloc (.cells #[.int .i64 0, .int .i64 0, .bool false, .int .i64 0, .slice none 0 0] 39) := ⟨_, rfl⟩
  have PK := hide fun W => pick_any y 8 y1 y2 (by decide) (by decide) W
  have HTx := hide (text_any k w1)
  generalize hqv : pickV y 8 = q at *
  have K1 : Hid (Keep (fun _ => False) w w1) := by rw [hw1]; exact (Keep.alloc _ _ _).more (Keep.alloc _ _ _)
  have HD := hide h
  have hsz1 : w1.heap.size = w.heap.size + 2 := by rw [hw1]; simp
  have b0 : w1.heap[w.heap.size]? = some (.cells #[.int .i64 x, .int .i64 y, .int .i64 k] 36 (0, 0)) := by rw [hw1]; exact (Keep.alloc (fun _ => False) _ _).blk (heap_alloc_new _ _) fun f => f
  have b1 : w1.heap[w.heap.size + 1]? = some (.cells #[.int .i64 0, .int .i64 0, .bool false, .int .i64 0, .slice none 0 0] 39 (0, 0)) := by
    rw [hw1]
    have := heap_alloc_new (w.alloc (.cells #[.int .i64 x, .int .i64 y, .int .i64 k] 36)) (.cells #[.int .i64 0, .int .i64 0, .bool false, .int .i64 0, .slice none 0 0] 39)
    rwa [World.size_alloc] at this
  have hok : KI.ok k := ⟨k1, k2⟩
  have HW1 := hide hw1
  have HB0 := hide b0
  have HB1 := hide b1
  have HSz1 := hide hsz1
  have HS := hide hS
  have HK := hide hok
  have HR := hide hr
  have HOk := hide ok
  have HNf := hide (number_fr s hr)
  have x2 := cell_blk b0 2 (v := .int .i64 k) rfl
  clear hqv hw1 h b0 b1 hsz1 hS hok y1 y2 hr ok
  go_enter Try.func10, Try.ntmps10
  go_wp2_with fail
  go_at_call 27
  simp only [← HW1.out]
  refine HTx.out.mono ?_
  rintro e w2 ⟨rfl, kt⟩
  have K2 := hide (K1.out.more kt)
  have H2 := hide (HD.out.stay K2.out fun _ _ f => f)
  have HB2 := hide (kt.blk HB1.out fun f => f)
  have HSz : Hid (w.heap.size + 2 ≤ w2.heap.size) := by
    have h1 := HSz1.out
    have h2 := kt.size
    show _ ≤ _
    omega
  have x1 := cell_blk (kt.blk HB0.out fun f => f) 1 (v := .int .i64 y) rfl
  clear kt x2 HTx HB0 HB1 HSz1 HW1 K1 HD
  go_wp2_with fail
  go_at_call 8
  refine (PK.out _).mono ?_
  rintro e w2' ⟨rfl, hw2⟩
  have hw2 := hw2.symm
  subst hw2
  obtain ⟨T, hT⟩ : ∃ T, tx k = T := ⟨_, rfl⟩
  have CP := hide (refPush_any k w2 H2.out HR.out HK.out HOk.out hlast)
  have CR := hide (refRemove_any k w2 H2.out HR.out HK.out hlen)
  have CA := hide (refAhead_any k w2 H2.out HR.out HK.out hlen)
  rw [hT] at CP CR CA ⊢
  clear hT
  rcases hq with rfl | rfl | rfl | rfl | rfl | rfl | rfl | rfl
  · as_aux_lemma =>
    go_wp2_with fail
    go_at_call 28
    refine CP.out.mono ?_
    rintro e w3 ⟨rfl, q3, k3⟩
    have B3 := k3.blk HB2.out (fun e => by have := HS.out _ e; omega)
    have HE := hide (Wants.done (q := 0) (k := k) (s := s) (c := (pushR s k).2) (n := (pushR s k).1) (b := false) (kk := 0) (r := []) (s2 := (s.pushed k)) (a := none) (cc := 0) rfl rfl rfl rfl rfl rfl q3 K2.out HSz.out k3 HS.out (World.ownsRow_nil _ _ _ _))
    generalize (pushR s k).1 = pn at *
    generalize (pushR s k).2 = pc at *
    have z0 := cell_blk B3 0 (v := .int .i64 0) rfl
    have z1 := cell_blk B3 1 (v := .int .i64 0) rfl
    have z2 := cell_blk B3 2 (v := .bool false) rfl
    have z3 := cell_blk B3 3 (v := .int .i64 0) rfl
    have z4 := cell_blk B3 4 (v := .slice none 0 0) rfl
    have f0 := frozen_blk B3 0
    have f1 := frozen_blk B3 1
    have f2 := frozen_blk B3 2
    have f3 := frozen_blk B3 3
    have f4 := frozen_blk B3 4
    have HB3 := hide B3
    clear q3 k3 B3 CP CR CA
    go_wp2
    exact bodyPost_ret (res_told rfl _ _ (w.heap.size + 1) _ _ _ _ _ rfl (put5_blk HB3.out _ _ _ _ _)) rfl HE.out
  · as_aux_lemma =>
    go_wp2_with fail
    go_at_call 28
    refine CP.out.mono ?_
    rintro e w3 ⟨rfl, q3, k3⟩
    have B3 := k3.blk HB2.out (fun e => by have := HS.out _ e; omega)
    have HE := hide (Wants.done (q := 1) (k := k) (s := s) (c := (pushR s k).2) (n := (pushR s k).1) (b := false) (kk := 0) (r := []) (s2 := (s.pushed k)) (a := none) (cc := 0) rfl rfl rfl rfl rfl rfl q3 K2.out HSz.out k3 HS.out (World.ownsRow_nil _ _ _ _))
    generalize (pushR s k).1 = pn at *
    generalize (pushR s k).2 = pc at *
    have z0 := cell_blk B3 0 (v := .int .i64 0) rfl
    have z1 := cell_blk B3 1 (v := .int .i64 0) rfl
    have z2 := cell_blk B3 2 (v := .bool false) rfl
    have z3 := cell_blk B3 3 (v := .int .i64 0) rfl
    have z4 := cell_blk B3 4 (v := .slice none 0 0) rfl
    have f0 := frozen_blk B3 0
    have f1 := frozen_blk B3 1
    have f2 := frozen_blk B3 2
    have f3 := frozen_blk B3 3
    have f4 := frozen_blk B3 4
    have HB3 := hide B3
    clear q3 k3 B3 CP CR CA
    go_wp2
    exact bodyPost_ret (res_told rfl _ _ (w.heap.size + 1) _ _ _ _ _ rfl (put5_blk HB3.out _ _ _ _ _)) rfl HE.out
  · as_aux_lemma =>
    go_wp2_with fail
    go_at_call 29
    refine (refPop_any w2 H2.out hlen).mono ?_
    rintro e w3 ⟨rfl, q3, k3⟩
    have B3 := k3.blk HB2.out (fun e => by have := HS.out _ e; omega)
    have HE := hide (Wants.done (q := 2) (k := k) (s := s) (c := 0) (n := 0) (b := (!s.row.isEmpty)) (kk := (frN s)) (r := []) (s2 := (s.take 0)) (a := none) (cc := 0) rfl rfl rfl rfl rfl rfl q3 K2.out HSz.out k3 HS.out (World.ownsRow_nil _ _ _ _))
    generalize frN s = fk at *
    generalize frT s = ft at *
    generalize (!s.row.isEmpty) = fb at *
    have z0 := cell_blk B3 0 (v := .int .i64 0) rfl
    have z1 := cell_blk B3 1 (v := .int .i64 0) rfl
    have z2 := cell_blk B3 2 (v := .bool false) rfl
    have z3 := cell_blk B3 3 (v := .int .i64 0) rfl
    have z4 := cell_blk B3 4 (v := .slice none 0 0) rfl
    have f0 := frozen_blk B3 0
    have f1 := frozen_blk B3 1
    have f2 := frozen_blk B3 2
    have f3 := frozen_blk B3 3
    have f4 := frozen_blk B3 4
    have HB3 := hide B3
    clear q3 k3 B3 CP CR CA
    go_wp2_with (go_at_call 30; refine (HNf.out _).mono ?_; rintro e w4 ⟨rfl, hw4⟩; have hw4 := hw4.symm; subst hw4)
    exact bodyPost_ret (res_told rfl _ _ (w.heap.size + 1) _ _ _ _ _ rfl (put5_blk HB3.out _ _ _ _ _)) rfl HE.out
  · as_aux_lemma =>
    go_wp2_with fail
    go_at_call 31
    refine (refFront_any w2 H2.out hlen).mono ?_
    rintro e w3 ⟨rfl, hw3⟩
    have hw3 := hw3.symm
    subst hw3
    have k3 : Keep S w2 w2 := Keep.refl _ _
    have q3 : Dq (fun i => S i ∨ w2.heap.size ≤ i) w2 P s := H2.out.mono fun _ e => .inl e
    have B3 := k3.blk HB2.out (fun e => by have := HS.out _ e; omega)
    have HE := hide (Wants.done (q := 3) (k := k) (s := s) (c := 0) (n := 0) (b := (!s.row.isEmpty)) (kk := (frN s)) (r := []) (s2 := s) (a := none) (cc := 0) rfl rfl rfl rfl rfl rfl q3 K2.out HSz.out k3 HS.out (World.ownsRow_nil _ _ _ _))
    generalize frN s = fk at *
    generalize frT s = ft at *
    generalize (!s.row.isEmpty) = fb at *
    have z0 := cell_blk B3 0 (v := .int .i64 0) rfl
    have z1 := cell_blk B3 1 (v := .int .i64 0) rfl
    have z2 := cell_blk B3 2 (v := .bool false) rfl
    have z3 := cell_blk B3 3 (v := .int .i64 0) rfl
    have z4 := cell_blk B3 4 (v := .slice none 0 0) rfl
    have f0 := frozen_blk B3 0
    have f1 := frozen_blk B3 1
    have f2 := frozen_blk B3 2
    have f3 := frozen_blk B3 3
    have f4 := frozen_blk B3 4
    have HB3 := hide B3
    clear q3 k3 B3 CP CR CA
    go_wp2_with (go_at_call 30; refine (HNf.out _).mono ?_; rintro e w4 ⟨rfl, hw4⟩; have hw4 := hw4.symm; subst hw4)
    exact bodyPost_ret (res_told rfl _ _ (w.heap.size + 1) _ _ _ _ _ rfl (put5_blk HB3.out _ _ _ _ _)) rfl HE.out
  · as_aux_lemma =>
    go_wp2_with fail
    go_at_call 32
    refine CR.out.mono ?_
    rintro e w3 ⟨rfl, q3, k3⟩
    have B3 := k3.blk HB2.out (fun e => by have := HS.out _ e; omega)
    have HE := hide (Wants.done (q := 4) (k := k) (s := s) (c := (aheadR s.row k).2) (n := 0) (b := false) (kk := 0) (r := []) (s2 := (s.remove k)) (a := none) (cc := 0) rfl rfl rfl rfl rfl rfl q3 K2.out HSz.out k3 HS.out (World.ownsRow_nil _ _ _ _))
    generalize (aheadR s.row k).2 = pc at *
    have z0 := cell_blk B3 0 (v := .int .i64 0) rfl
    have z1 := cell_blk B3 1 (v := .int .i64 0) rfl
    have z2 := cell_blk B3 2 (v := .bool false) rfl
    have z3 := cell_blk B3 3 (v := .int .i64 0) rfl
    have z4 := cell_blk B3 4 (v := .slice none 0 0) rfl
    have f0 := frozen_blk B3 0
    have f1 := frozen_blk B3 1
    have f2 := frozen_blk B3 2
    have f3 := frozen_blk B3 3
    have f4 := frozen_blk B3 4
    have HB3 := hide B3
    clear q3 k3 B3 CP CR CA
    go_wp2
    exact bodyPost_ret (res_told rfl _ _ (w.heap.size + 1) _ _ _ _ _ rfl (put5_blk HB3.out _ _ _ _ _)) rfl HE.out
  · as_aux_lemma =>
    go_wp2_with fail
    go_at_call 33
    refine CA.out.mono ?_
    rintro e w3 ⟨rfl, hw3⟩
    have hw3 := hw3.symm
    subst hw3
    have k3 : Keep S w2 w2 := Keep.refl _ _
    have q3 : Dq (fun i => S i ∨ w2.heap.size ≤ i) w2 P s := H2.out.mono fun _ e => .inl e
    have B3 := k3.blk HB2.out (fun e => by have := HS.out _ e; omega)
    have HE := hide (Wants.done (q := 5) (k := k) (s := s) (c := (aheadR s.row k).2) (n := (aheadR s.row k).1) (b := false) (kk := 0) (r := []) (s2 := s) (a := none) (cc := 0) rfl rfl rfl rfl rfl rfl q3 K2.out HSz.out k3 HS.out (World.ownsRow_nil _ _ _ _))
    generalize (aheadR s.row k).2 = pc at *
    generalize (aheadR s.row k).1 = pn at *
    have z0 := cell_blk B3 0 (v := .int .i64 0) rfl
    have z1 := cell_blk B3 1 (v := .int .i64 0) rfl
    have z2 := cell_blk B3 2 (v := .bool false) rfl
    have z3 := cell_blk B3 3 (v := .int .i64 0) rfl
    have z4 := cell_blk B3 4 (v := .slice none 0 0) rfl
    have f0 := frozen_blk B3 0
    have f1 := frozen_blk B3 1
    have f2 := frozen_blk B3 2
    have f3 := frozen_blk B3 3
    have f4 := frozen_blk B3 4
    have HB3 := hide B3
    clear q3 k3 B3 CP CR CA
    go_wp2
    exact bodyPost_ret (res_told rfl _ _ (w.heap.size + 1) _ _ _ _ _ rfl (put5_blk HB3.out _ _ _ _ _)) rfl HE.out
  · as_aux_lemma =>
    have k3 : Keep S w2 w2 := Keep.refl _ _
    have q3 : Dq (fun i => S i ∨ w2.heap.size ≤ i) w2 P s := H2.out.mono fun _ e => .inl e
    obtain ⟨v0, h0⟩ := H2.out
    obtain ⟨a0, c0, hv0, _⟩ := ownsRow_sh h0.row
    subst hv0
    have y2 := cell_blk h0.blk 2 (v := .slice a0 s.row.length c0) rfl
    clear h0
    have B3 := k3.blk HB2.out (fun e => by have := HS.out _ e; omega)
    have HE := hide (Wants.done (q := 6) (k := k) (s := s) (c := 0) (n := s.row.length) (b := false) (kk := 0) (r := []) (s2 := s) (a := none) (cc := 0) rfl rfl rfl rfl rfl rfl q3 K2.out HSz.out k3 HS.out (World.ownsRow_nil _ _ _ _))
    generalize s.row.length = nl at *
    have z0 := cell_blk B3 0 (v := .int .i64 0) rfl
    have z1 := cell_blk B3 1 (v := .int .i64 0) rfl
    have z2 := cell_blk B3 2 (v := .bool false) rfl
    have z3 := cell_blk B3 3 (v := .int .i64 0) rfl
    have z4 := cell_blk B3 4 (v := .slice none 0 0) rfl
    have f0 := frozen_blk B3 0
    have f1 := frozen_blk B3 1
    have f2 := frozen_blk B3 2
    have f3 := frozen_blk B3 3
    have f4 := frozen_blk B3 4
    have HB3 := hide B3
    clear q3 k3 B3 CP CR CA
    go_wp2
    exact bodyPost_ret (res_told rfl _ _ (w.heap.size + 1) _ _ _ _ _ rfl (put5_blk HB3.out _ _ _ _ _)) rfl HE.out
  · as_aux_lemma =>
    go_wp2_with fail
    go_at_call 14
    refine (refRow_any w2 H2.out HR.out hlen).mono ?_
    rintro e w3 ⟨a3, c3, rfl, r3, kf⟩
    have q3 : Dq (fun i => S i ∨ w2.heap.size ≤ i) w3 P s := (H2.out.stay kf fun _ _ f => f).mono fun _ e => .inl e
    have k3 : Keep S w2 w3 := kf.mono fun _ f => f.elim
    clear kf
    have B3 := k3.blk HB2.out (fun e => by have := HS.out _ e; omega)
    have HE := hide (Wants.done (q := 7) (k := k) (s := s) (c := 0) (n := 0) (b := false) (kk := 0) (r := s.row) (s2 := s) (a := a3) (cc := c3) rfl rfl rfl rfl rfl rfl q3 K2.out HSz.out k3 HS.out r3)
    have z0 := cell_blk B3 0 (v := .int .i64 0) rfl
    have z1 := cell_blk B3 1 (v := .int .i64 0) rfl
    have z2 := cell_blk B3 2 (v := .bool false) rfl
    have z3 := cell_blk B3 3 (v := .int .i64 0) rfl
    have z4 := cell_blk B3 4 (v := .slice none 0 0) rfl
    have f0 := frozen_blk B3 0
    have f1 := frozen_blk B3 1
    have f2 := frozen_blk B3 2
    have f3 := frozen_blk B3 3
    have f4 := frozen_blk B3 4
    have HB3 := hide B3
    clear q3 k3 B3 CP CR CA r3
    go_wp2
    exact bodyPost_ret (res_told rfl _ _ (w.heap.size + 1) _ _ _ _ _ rfl (put5_blk HB3.out _ _ _ _ _)) rfl HE.out

end Qu
end Go.Proofs.Ytdokpaljlpfcjaa
