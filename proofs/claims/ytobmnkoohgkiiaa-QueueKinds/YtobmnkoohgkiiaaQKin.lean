/- Chapter 8's laws: kinded: a step on a queue of texts (kin_gen.py). -/
import Derived.Test.YtobmnkoohgkiiaaQKnM
namespace Go.Proofs.Ytobmnkoohgkiiaa
namespace Qu
open Go.RowKit
attribute [local go_sem] Oper.semAt_some

set_option maxRecDepth 100000 in
set_option maxHeartbeats 4000000 in
theorem kinded_any {S : Nat → Prop} {P : Nat} {s : St Int} (x y k : Int) (w : World) (h : QAt KS S w P (mapS tx s)) (hr : ∀ e ∈ s.row, KI.ok e.2) (ok : Ok s) (hS : ∀ i, S i → i < w.heap.size) (y1 : -9223372036854775808 ≤ y) (y2 : y ≤ 9223372036854775807) (k1 : -9223372036854775808 ≤ k) (k2 : k ≤ 9223372036854775807) (hlast : s.last < 9007199254740990) :
    Calls Try.prog 11 #[.pointer (some ⟨P, 0, none⟩), .agg #[.int .i64 x, .int .i64 y, .int .i64 k]] w (Tells (fun S w => QAt KS S w P (mapS tx (stS s (pickV y 8) k))) S w s (pickV y 8) k) := by
  have hq := eight (pickV_in y 8 (by decide))
  have hlen : s.row.length ≤ 65536 := Nat.le_trans ok.len ok.pl
  have hinj : ∀ a b, KI.ok a → KI.ok b → tx a = tx b → a = b := fun a b ha hb e => tx_injK e ha hb
  have hks : KS.ok (tx k) := by show (tx k).size ≤ _; rw [tx_size]; decide
  obtain ⟨w1, hw1⟩ : ∃ w1, w1 = (w.alloc (.cells #[.int .i64 x, .int .i64 y, .int .i64 k] 42)).alloc (.cells #[.int .i64 0, .int .i64 0, .bool false, .int .i64 0, .slice none 0 0] 39) := ⟨_, rfl⟩
  have PK := hide fun W => pick_any y 8 y1 y2 (by decide) (by decide) W
  have HTx := hide (text_any k w1)
  generalize hqv : pickV y 8 = q at *
  have K1 : Hid (Keep (fun _ => False) w w1) := by rw [hw1]; exact (Keep.alloc _ _ _).more (Keep.alloc _ _ _)
  have HD := hide h
  have hsz1 : w1.heap.size = w.heap.size + 2 := by rw [hw1]; simp
  have b0 : w1.heap[w.heap.size]? = some (.cells #[.int .i64 x, .int .i64 y, .int .i64 k] 42 (0, 0)) := by rw [hw1]; exact (Keep.alloc (fun _ => False) _ _).blk (heap_alloc_new _ _) fun f => f
  have b1 : w1.heap[w.heap.size + 1]? = some (.cells #[.int .i64 0, .int .i64 0, .bool false, .int .i64 0, .slice none 0 0] 39 (0, 0)) := by
    rw [hw1]
    have := heap_alloc_new (w.alloc (.cells #[.int .i64 x, .int .i64 y, .int .i64 k] 42)) (.cells #[.int .i64 0, .int .i64 0, .bool false, .int .i64 0, .slice none 0 0] 39)
    rwa [World.size_alloc] at this
  have hok : KI.ok k := ⟨k1, k2⟩
  have HW1 := hide hw1
  have HB0 := hide b0
  have HB1 := hide b1
  have HSz1 := hide hsz1
  have HS := hide hS
  have HK := hide hok
  have HR := hide hr
  have HOk := hide ok
  have HNf := hide (numK_fr s hr)
  have HInj := hide hinj
  have HKS := hide hks
  have x2 := cell_blk b0 2 (v := .int .i64 k) rfl
  clear hqv hw1 h b0 b1 hsz1 hS hok y1 y2 hr ok hinj hks
  refine (callsIn_wide (n := 3)).1 (callsIn_of_wp_marks Try.func11 rfl trivial ?_ rfl)
  simp only [Try.ntmps11, List.size_toArray, List.length_cons, List.length_nil, Nat.reduceAdd, Nat.reduceSub, Array.replicate_succ, Array.replicate_zero, List.push_toArray, List.append_toArray, List.nil_append, List.cons_append]
  refine wpIn_wide.2 ?_
  go_wp2_with fail
  go_at_call 30
  simp only [← HW1.out]
  refine HTx.out.mono ?_
  rintro e w2 ⟨rfl, kt⟩
  have K2 := hide (K1.out.more kt)
  have H2 := hide (HD.out.new K2.out)
  have HB2 := hide (kt.blk HB1.out fun f => f)
  have HSz : Hid (w.heap.size + 2 ≤ w2.heap.size) := by
    have h1 := HSz1.out
    have h2 := kt.size
    show _ ≤ _
    omega
  have x1 := cell_blk (kt.blk HB0.out fun f => f) 1 (v := .int .i64 y) rfl
  clear kt x2 HTx HB0 HB1 HSz1 HW1 K1 HD
  go_wp2_with fail
  go_at_call 13
  refine (PK.out _).mono ?_
  rintro e w2' ⟨rfl, hw2⟩
  have hw2 := hw2.symm
  subst hw2
  have hcp := pushS (tx k) w2 H2.out HKS.out hlast
  have hcr := removeS (tx k) w2 H2.out HKS.out
  have hca := aheadS (tx k) w2 H2.out HKS.out
  have hco := popS w2 H2.out
  have hcf := frontS w2 H2.out.2.2.choose_spec.choose_spec
  have hcl := lenS w2 H2.out.2.2.choose_spec.choose_spec
  unfold Pushd at hcp
  rw [pushR_map HInj.out HK.out HR.out, pushed_map HInj.out HK.out HR.out] at hcp
  rw [aheadR_map HInj.out HK.out HR.out] at hca
  rw [aheadR_map HInj.out HK.out HR.out, remove_map HInj.out HK.out HR.out] at hcr
  rw [frontV_tx, empty_map, take_map] at hco
  rw [frontV_tx, empty_map] at hcf
  rw [show (mapS tx s).row.length = s.row.length from List.length_map _] at hcl
  have CP := hide hcp
  have CR := hide hcr
  have CA := hide hca
  have CO := hide hco
  have CF := hide hcf
  have CL := hide hcl
  clear hcp hcr hca hco hcf hcl
  obtain ⟨T, hT⟩ : ∃ T, tx k = T := ⟨_, rfl⟩
  rw [hT] at CP CR CA ⊢
  have HT := hide hT
  clear hT
  rcases hq with rfl | rfl | rfl | rfl | rfl | rfl | rfl | rfl
  · as_aux_lemma =>
    go_wp2_with fail
    go_at_call 20
    refine CP.out.mono ?_
    rintro e w3 ⟨rfl, q3, k3⟩
    have B3 := k3.blk HB2.out (fun e => by have := HS.out _ e; omega)
    have HE := hide (Tells.done (staysK KS P (mapS tx (s.pushed k))) (q := 0) (k := k) (s := s) (c := (pushR s k).2) (n := (pushR s k).1) (b := false) (kk := 0) (r := []) (a := none) (cc := 0) rfl rfl rfl rfl rfl q3 K2.out HSz.out k3 HS.out (World.ownsRow_nil _ _ _ _))
    generalize (pushR s k).1 = pn at *
    generalize (pushR s k).2 = pc at *
    have z0 := cell_blk B3 0 (v := .int .i64 0) rfl
    have z1 := cell_blk B3 1 (v := .int .i64 0) rfl
    have z2 := cell_blk B3 2 (v := .bool false) rfl
    have z3 := cell_blk B3 3 (v := .int .i64 0) rfl
    have z4 := cell_blk B3 4 (v := .slice none 0 0) rfl
    have f0 := frozen_blk B3 0
    have f1 := frozen_blk B3 1
    have f2 := frozen_blk B3 2
    have f3 := frozen_blk B3 3
    have f4 := frozen_blk B3 4
    have HB3 := hide B3
    clear q3 k3 B3 CP CR CA CF CO CL
    go_wp2
    exact ⟨_, res_told rfl _ _ (w.heap.size + 1) _ _ _ _ _ rfl (put5_blk HB3.out _ _ _ _ _), HE.out⟩
  · as_aux_lemma =>
    go_wp2_with fail
    go_at_call 20
    refine CP.out.mono ?_
    rintro e w3 ⟨rfl, q3, k3⟩
    have B3 := k3.blk HB2.out (fun e => by have := HS.out _ e; omega)
    have HE := hide (Tells.done (staysK KS P (mapS tx (s.pushed k))) (q := 1) (k := k) (s := s) (c := (pushR s k).2) (n := (pushR s k).1) (b := false) (kk := 0) (r := []) (a := none) (cc := 0) rfl rfl rfl rfl rfl q3 K2.out HSz.out k3 HS.out (World.ownsRow_nil _ _ _ _))
    generalize (pushR s k).1 = pn at *
    generalize (pushR s k).2 = pc at *
    have z0 := cell_blk B3 0 (v := .int .i64 0) rfl
    have z1 := cell_blk B3 1 (v := .int .i64 0) rfl
    have z2 := cell_blk B3 2 (v := .bool false) rfl
    have z3 := cell_blk B3 3 (v := .int .i64 0) rfl
    have z4 := cell_blk B3 4 (v := .slice none 0 0) rfl
    have f0 := frozen_blk B3 0
    have f1 := frozen_blk B3 1
    have f2 := frozen_blk B3 2
    have f3 := frozen_blk B3 3
    have f4 := frozen_blk B3 4
    have HB3 := hide B3
    clear q3 k3 B3 CP CR CA CF CO CL
    go_wp2
    exact ⟨_, res_told rfl _ _ (w.heap.size + 1) _ _ _ _ _ rfl (put5_blk HB3.out _ _ _ _ _), HE.out⟩
  · as_aux_lemma =>
    go_wp2_with fail
    go_at_call 21
    refine CO.out.mono ?_
    rintro e w3 ⟨rfl, q3, k3⟩
    have q3 := q3.mono (T := fun i => S i ∨ w2.heap.size ≤ i) fun _ e => .inl e
    have B3 := k3.blk HB2.out (fun e => by have := HS.out _ e; omega)
    have HE := hide (Tells.done (staysK KS P (mapS tx (s.take 0))) (q := 2) (k := k) (s := s) (c := 0) (n := 0) (b := (!s.row.isEmpty)) (kk := (frN s)) (r := []) (a := none) (cc := 0) rfl rfl rfl rfl rfl q3 K2.out HSz.out k3 HS.out (World.ownsRow_nil _ _ _ _))
    generalize frN s = fk at *
    generalize ftx s = ft at *
    generalize (!s.row.isEmpty) = fb at *
    have z0 := cell_blk B3 0 (v := .int .i64 0) rfl
    have z1 := cell_blk B3 1 (v := .int .i64 0) rfl
    have z2 := cell_blk B3 2 (v := .bool false) rfl
    have z3 := cell_blk B3 3 (v := .int .i64 0) rfl
    have z4 := cell_blk B3 4 (v := .slice none 0 0) rfl
    have f0 := frozen_blk B3 0
    have f1 := frozen_blk B3 1
    have f2 := frozen_blk B3 2
    have f3 := frozen_blk B3 3
    have f4 := frozen_blk B3 4
    have HB3 := hide B3
    clear q3 k3 B3 CP CR CA CF CO CL
    go_wp2_with (go_at_call 31; refine (HNf.out _).mono ?_; rintro e w4 ⟨rfl, hw4⟩; have hw4 := hw4.symm; subst hw4)
    exact ⟨_, res_told rfl _ _ (w.heap.size + 1) _ _ _ _ _ rfl (put5_blk HB3.out _ _ _ _ _), HE.out⟩
  · as_aux_lemma =>
    go_wp2_with fail
    go_at_call 32
    refine CF.out.mono ?_
    rintro e w3 ⟨rfl, hw3⟩
    have hw3 := hw3.symm
    subst hw3
    have k3 : Keep S w2 w2 := Keep.refl _ _
    have q3 : QAt KS (fun i => S i ∨ w2.heap.size ≤ i) w2 P (mapS tx s) := H2.out.mono fun _ e => .inl e
    have B3 := k3.blk HB2.out (fun e => by have := HS.out _ e; omega)
    have HE := hide (Tells.done (staysK KS P (mapS tx s)) (q := 3) (k := k) (s := s) (c := 0) (n := 0) (b := (!s.row.isEmpty)) (kk := (frN s)) (r := []) (a := none) (cc := 0) rfl rfl rfl rfl rfl q3 K2.out HSz.out k3 HS.out (World.ownsRow_nil _ _ _ _))
    generalize frN s = fk at *
    generalize ftx s = ft at *
    generalize (!s.row.isEmpty) = fb at *
    have z0 := cell_blk B3 0 (v := .int .i64 0) rfl
    have z1 := cell_blk B3 1 (v := .int .i64 0) rfl
    have z2 := cell_blk B3 2 (v := .bool false) rfl
    have z3 := cell_blk B3 3 (v := .int .i64 0) rfl
    have z4 := cell_blk B3 4 (v := .slice none 0 0) rfl
    have f0 := frozen_blk B3 0
    have f1 := frozen_blk B3 1
    have f2 := frozen_blk B3 2
    have f3 := frozen_blk B3 3
    have f4 := frozen_blk B3 4
    have HB3 := hide B3
    clear q3 k3 B3 CP CR CA CF CO CL
    go_wp2_with (go_at_call 31; refine (HNf.out _).mono ?_; rintro e w4 ⟨rfl, hw4⟩; have hw4 := hw4.symm; subst hw4)
    exact ⟨_, res_told rfl _ _ (w.heap.size + 1) _ _ _ _ _ rfl (put5_blk HB3.out _ _ _ _ _), HE.out⟩
  · as_aux_lemma =>
    go_wp2_with fail
    go_at_call 33
    refine CR.out.mono ?_
    rintro e w3 ⟨rfl, q3, k3⟩
    have q3 := q3.mono (T := fun i => S i ∨ w2.heap.size ≤ i) fun _ e => .inl e
    have B3 := k3.blk HB2.out (fun e => by have := HS.out _ e; omega)
    have HE := hide (Tells.done (staysK KS P (mapS tx (s.remove k))) (q := 4) (k := k) (s := s) (c := (aheadR s.row k).2) (n := 0) (b := false) (kk := 0) (r := []) (a := none) (cc := 0) rfl rfl rfl rfl rfl q3 K2.out HSz.out k3 HS.out (World.ownsRow_nil _ _ _ _))
    generalize (aheadR s.row k).2 = pc at *
    have z0 := cell_blk B3 0 (v := .int .i64 0) rfl
    have z1 := cell_blk B3 1 (v := .int .i64 0) rfl
    have z2 := cell_blk B3 2 (v := .bool false) rfl
    have z3 := cell_blk B3 3 (v := .int .i64 0) rfl
    have z4 := cell_blk B3 4 (v := .slice none 0 0) rfl
    have f0 := frozen_blk B3 0
    have f1 := frozen_blk B3 1
    have f2 := frozen_blk B3 2
    have f3 := frozen_blk B3 3
    have f4 := frozen_blk B3 4
    have HB3 := hide B3
    clear q3 k3 B3 CP CR CA CF CO CL
    go_wp2
    exact ⟨_, res_told rfl _ _ (w.heap.size + 1) _ _ _ _ _ rfl (put5_blk HB3.out _ _ _ _ _), HE.out⟩
  · as_aux_lemma =>
    go_wp2_with fail
    go_at_call 22
    refine CA.out.mono ?_
    rintro e w3 ⟨rfl, kf⟩
    have q3 : QAt KS (fun i => S i ∨ w2.heap.size ≤ i) w3 P (mapS tx s) := (H2.out.new kf).mono fun _ e => .inl e
    have k3 : Keep S w2 w3 := kf.mono fun _ f => f.elim
    clear kf
    have B3 := k3.blk HB2.out (fun e => by have := HS.out _ e; omega)
    have HE := hide (Tells.done (staysK KS P (mapS tx s)) (q := 5) (k := k) (s := s) (c := (aheadR s.row k).2) (n := (aheadR s.row k).1) (b := false) (kk := 0) (r := []) (a := none) (cc := 0) rfl rfl rfl rfl rfl q3 K2.out HSz.out k3 HS.out (World.ownsRow_nil _ _ _ _))
    generalize (aheadR s.row k).2 = pc at *
    generalize (aheadR s.row k).1 = pn at *
    have z0 := cell_blk B3 0 (v := .int .i64 0) rfl
    have z1 := cell_blk B3 1 (v := .int .i64 0) rfl
    have z2 := cell_blk B3 2 (v := .bool false) rfl
    have z3 := cell_blk B3 3 (v := .int .i64 0) rfl
    have z4 := cell_blk B3 4 (v := .slice none 0 0) rfl
    have f0 := frozen_blk B3 0
    have f1 := frozen_blk B3 1
    have f2 := frozen_blk B3 2
    have f3 := frozen_blk B3 3
    have f4 := frozen_blk B3 4
    have HB3 := hide B3
    clear q3 k3 B3 CP CR CA CF CO CL
    go_wp2
    exact ⟨_, res_told rfl _ _ (w.heap.size + 1) _ _ _ _ _ rfl (put5_blk HB3.out _ _ _ _ _), HE.out⟩
  · as_aux_lemma =>
    go_wp2_with fail
    go_at_call 23
    refine CL.out.mono ?_
    rintro e w3 ⟨rfl, hw3⟩
    have hw3 := hw3.symm
    subst hw3
    have k3 : Keep S w2 w2 := Keep.refl _ _
    have q3 : QAt KS (fun i => S i ∨ w2.heap.size ≤ i) w2 P (mapS tx s) := H2.out.mono fun _ e => .inl e
    have B3 := k3.blk HB2.out (fun e => by have := HS.out _ e; omega)
    have HE := hide (Tells.done (staysK KS P (mapS tx s)) (q := 6) (k := k) (s := s) (c := 0) (n := s.row.length) (b := false) (kk := 0) (r := []) (a := none) (cc := 0) rfl rfl rfl rfl rfl q3 K2.out HSz.out k3 HS.out (World.ownsRow_nil _ _ _ _))
    generalize s.row.length = pn at *
    have z0 := cell_blk B3 0 (v := .int .i64 0) rfl
    have z1 := cell_blk B3 1 (v := .int .i64 0) rfl
    have z2 := cell_blk B3 2 (v := .bool false) rfl
    have z3 := cell_blk B3 3 (v := .int .i64 0) rfl
    have z4 := cell_blk B3 4 (v := .slice none 0 0) rfl
    have f0 := frozen_blk B3 0
    have f1 := frozen_blk B3 1
    have f2 := frozen_blk B3 2
    have f3 := frozen_blk B3 3
    have f4 := frozen_blk B3 4
    have HB3 := hide B3
    clear q3 k3 B3 CP CR CA CF CO CL
    go_wp2
    exact ⟨_, res_told rfl _ _ (w.heap.size + 1) _ _ _ _ _ rfl (put5_blk HB3.out _ _ _ _ _), HE.out⟩
  · as_aux_lemma =>
    clear CP CR CA CO CF CL
    have kA : Keep (fun _ => False) w2 (w2.alloc (.cells #[.int .i64 0, .int .i64 0, .bool false, .int .i64 0, .slice none 0 0] 39)) := Keep.alloc _ _ _
    have hrl : (mapS tx s).row.length = s.row.length := List.length_map _
    have AL := hide (allS (w2.alloc (.cells #[.int .i64 0, .int .i64 0, .bool false, .int .i64 0, .slice none 0 0] 39)) (H2.out.new kA).2.2.choose_spec.choose_spec (by rw [hrl]; exact hlen))
    have HKA := hide kA
    clear kA
    go_wp2_with fail
    go_at_call 19
    refine AL.out.mono ?_
    rintro e w3 ⟨Bv, a, c, rfl, hBv, hb, hrow, hk3⟩
    rw [World.size_alloc] at hBv
    obtain ⟨Bl, hBl⟩ : ∃ Bl, Bl = w2.heap.size := ⟨_, rfl⟩
    rw [← hBl]
    have g0 : w3.heap[Bl]? = some (.cells #[.int .i64 0, .int .i64 0, .bool false, .int .i64 0, .slice none 0 0] 39 (0, 0)) := by rw [hBl]; exact hk3.blk (heap_alloc_new _ _) fun f => f
    have hBl3 : Bl < w3.heap.size := lt_blk g0
    have K3 := hide (HKA.out.more hk3)
    have HB := hide hb
    have G0 := hide g0
    have HRow := hide hrow
    have hne : Bv ≠ Bl := by omega
    have HRo : Hid (∀ k, (w2.alloc (.cells #[.int .i64 0, .int .i64 0, .bool false, .int .i64 0, .slice none 0 0] 39)).heap.size ≤ k → k ≠ Bl) := fun k e => by rw [World.size_alloc] at e; omega
    have HBl := hide hBl
    have HB4 := hide (K3.out.blk HB2.out fun f => f)
    clear hb g0 hrow hk3 AL hBv hBl HKA HB2
    go_wp2_with fail
    refine named_actK fun A hA => ?_
    refine wpIn_wide.1 (wp_range1 (n := 3) (gf := 44) (lb := #[.pointer (some ⟨Bv, 0, none⟩)]) (by rw [hA]; rfl) (enters_of Try.func44 (by kernel_rfl) rfl) (encs := fun x : Nat × ByteArray => #[.int .i64 (x.1 : Nat), .string x.2]) (fun _ => rfl)
      (fun pre V => ∃ pr : List (Nat × Int), pre = pr.map (fun e => (e.1, tx e.2)) ∧ (∃ post, s.row = pr ++ post) ∧ ∃ v, WhoT w3 Bl pr v V)
      (fun pre x V => (∃ post, (mapS tx s).row = pre ++ x :: post) ∧ ∃ pr : List (Nat × Int), pre = pr.map (fun e => (e.1, tx e.2)) ∧ (∃ post, s.row = pr ++ post) ∧ ∃ v, WhoT w3 Bl pr v V)
      (fun pre x a' V => ∃ (pr : List (Nat × Int)) (v : Value) (kk : Int), pre = pr.map (fun e => (e.1, tx e.2)) ∧ (∃ post, s.row = pr ++ (x.1, kk) :: post) ∧ x.2 = tx kk ∧ a' = { tmps := (((A.tmps.setIfInBounds 81 (.int .i64 (x.1 : Nat))).setIfInBounds 82 (.string x.2)).setIfInBounds 15 (.int .i64 (x.1 : Nat))).setIfInBounds 16 (.string x.2), defers := [] } ∧ WhoT w3 Bl pr v V)
      (fun xs V => xs = (mapS tx s).row ∧ ∃ pr : List (Nat × Int), xs = pr.map (fun e => (e.1, tx e.2)) ∧ (∃ post, s.row = pr ++ post) ∧ ∃ v, WhoT w3 Bl pr v V) ?h0 ?hY ?hI ?assign ?body ?iter ?done)
    case h0 => exact fun q => ⟨[], rfl, ⟨_, rfl⟩, .slice none 0 0, WhoT.new ⟨G0.out, World.ownsRow_nil _ _ _ _, Keep.refl _ _⟩ ((Keep.alloc _ _ _).more (Keep.alloc _ _ _))⟩
    case hY =>
      rintro pre x a' V q ⟨pr, v, kk, e1, e2, e3, e4, e5⟩
      exact ⟨pr, v, kk, e1, e2, e3, e4, e5.put hBl3 _⟩
    case hI =>
      rintro pre V q ⟨pr, e1, e2, v, h⟩
      exact ⟨pr, e1, e2, v, h.put hBl3 _⟩
    case iter =>
      intro L hLs hLz hR2 V hV hL
      exact all1S (r := (mapS tx s).row) (a := a) (c := c) 3 (w3.heap.size + 1) Bv w3.heap.size _ L hLs hLz (fun pre V ⟨pr, _, _, v, h⟩ => ⟨cell_blk (h.keep.blk HB.out hne) 0 rfl, (HRow.out.mono fun _ _ => trivial).far h.keep fun k e1 e2 => HRo.out k (HRow.out.own e1).1 e2⟩) (fun pre V V' ⟨pr, e1, e2, v, h⟩ hk => ⟨pr, e1, e2, v, h.new hk⟩) (fun pre x W1 hp hv hl => hR2 pre x W1 ⟨hp, hv⟩ hl) (by rw [hrl]; exact hlen) V hV hL
    case assign => as_aux_lemma =>
      rintro lr pre x V K ⟨⟨post, hp⟩, pr, hpr, ⟨post2, hp2⟩, v, hW⟩ hlt hK
      have hx : (mapS tx s).row[pre.length]? = some x := by rw [hp]; simp
      have hpl : pre.length = pr.length := by rw [hpr]; simp
      obtain ⟨⟨n, kk⟩, hk, hxe⟩ : ∃ e, s.row[pr.length]? = some e ∧ (e.1, tx e.2) = x := by
        have h1 : (mapS tx s).row[pre.length]? = (s.row[pre.length]?).map fun e => (e.1, tx e.2) := List.getElem?_map
        rw [hx, hpl] at h1
        cases h2 : s.row[pr.length]? with
        | none => rw [h2] at h1; cases h1
        | some e => rw [h2] at h1; exact ⟨e, rfl, (Option.some.inj h1).symm⟩
      subst hxe
      have hp3 : post2 = (n, kk) :: post2.tail := by
        rw [hp2, List.getElem?_append_right (Nat.le_refl _), Nat.sub_self] at hk
        cases post2 with
        | nil => simp at hk
        | cons e t => simp at hk; rw [hk]; rfl
      subst hA
      gi_wp2
      exact hK _ _ (Same2.refl _ _) ⟨pr, v, kk, hpr, ⟨_, by rw [hp2, hp3]⟩, rfl, rfl, hW⟩
    case body => as_aux_lemma =>
      rintro lr pre x a' V ⟨pr, v, kk, hpr, ⟨post, hpost⟩, hxk, rfl, hW⟩ hlt
      subst hA
      simp only [List.setIfInBounds_toArray, List.set_cons_succ, List.set_cons_zero]
      have hkk := HR.out (x.1, kk) (by rw [hpost]; simp)
      have hpl : pr.length + 1 ≤ 65536 := by have := congrArg List.length hpost; simp at this; omega
      have HNu := hide (fun W => number_any kk hkk.1 hkk.2 W)
      obtain ⟨n, T⟩ := x
      simp only at hxk hpost ⊢
      rw [← hxk] at HNu
      have HX := hide hxk
      have HP := hide (And.intro hpr hpost)
      have HW := hide hW
      have c6 := cell_blk hW.box 4 (v := v) rfl
      have HSb : Hid (∀ V', Keep (fun i => w3.heap.size + 2 ≤ i) V V' → (fun U : World => U.cell? ⟨Bl, 4, none⟩ = some v) V') := fun V' kv => kv.cell c6 (by show ¬ (w3.heap.size + 2 ≤ Bl); omega)
      clear hkk hxk hpr hpost hW
      gi_wp2
      refine wpIn_region_held_last (S := fun U : World => U.cell? ⟨Bl, 4, none⟩ = some v) rfl (by kernel_rfl) (by kernel_rfl) (by kernel_rfl) ?hQ (HSb.out _ (Keep.drew _ _)) (fun hHeld => ?_)
      case hQ =>
        rintro ⟨a, w, h⟩
        exact absurd (show (Exit.outgrown : Exit) = Exit.normal from h.1) (by simp)
      change wpAnyH _ _ _ _ _ 9 (Array.replicate 9 false) _ _
      simp only [List.dropLast, List.getLast, List.cons_append, List.nil_append, RL.still]
      refine wpAnyH_take (i := 0) (oi := _) (v := ?_) rfl (by kernel_rfl) (by kernel_rfl) (by kernel_rfl) (fun _ _ _ h => h) (Or.inl ⟨by rfl, ?_⟩) (by assumption) ?_
      rotate_left
      · (intro w hSw; (try dsimp only at hSw); go_simp)
        all_goals with_reducible rfl
      go_simp
      refine wpAnyH_take (i := 1) (oi := _) (v := ?_) rfl (by kernel_rfl) (by kernel_rfl) (by kernel_rfl) (fun _ _ _ h => h) (Or.inl ⟨by rfl, ?_⟩) (by assumption) ?_
      rotate_left
      · (intro w hSw; (try dsimp only at hSw); go_simp)
        all_goals with_reducible rfl
      go_simp
      refine wpAnyH_take (i := 2) (oi := _) (v := ?_) rfl (by kernel_rfl) (by kernel_rfl) (by kernel_rfl) (fun _ _ _ h => h) (Or.inl ⟨by rfl, ?_⟩) (by assumption) ?_
      rotate_left
      · (intro w hSw; (try dsimp only at hSw); go_simp)
        all_goals with_reducible rfl
      go_simp
      refine wpAnyH_take (i := 3) (oi := _) (v := ?_) rfl (by kernel_rfl) (by kernel_rfl) (by kernel_rfl) (fun _ _ _ h => h) (Or.inl ⟨by rfl, ?_⟩) (by assumption) ?_
      rotate_left
      · (intro w hSw; (try dsimp only at hSw); go_simp)
        all_goals with_reducible rfl
      go_simp
      have kD0 : Keep (fun _ => False) V V.drew := Keep.drew _ _
      refine wpAnyH_ready (rs := [4]) (by kernel_rfl) (by simp) ?_
      refine AllReadyH.cons (o := _) rfl (fun K hK => ?_) AllReadyH.nil
      rw [if_pos (by rfl)]
      go_simp
      go_at_call 31
      refine (HNu.out _).mono ?_
      rintro e w7 ⟨rfl, hw7⟩
      have hw7 := hw7.symm
      subst hw7
      go_simp
      refine hK.out _ _ (HSb.out _ (kD0.mono fun _ f => f.elim)) (fun hHeld => ?_)
      clear hK K
      try simp only [Act.put, List.setIfInBounds_toArray, List.set_cons_zero, List.set_cons_succ]
      have kA := kD0.more (Keep.alloc (fun _ => False) V.drew (.cells #[.int .i64 (n : Int), .int .i64 kk] 3))
      refine wpAnyH_ready (rs := [5]) (by kernel_rfl) (by simp) ?_
      refine AllReadyH.cons (o := _) rfl (fun K hK => ?_) AllReadyH.nil
      rw [if_pos (by rfl)]
      unfold Oper.wp
      go_simp
      refine hK.out _ _ (HSb.out _ (kA.mono fun _ f => f.elim)) (fun hHeld => ?_)
      clear hK K
      try simp only [Act.put, List.setIfInBounds_toArray, List.set_cons_zero, List.set_cons_succ]
      obtain ⟨xa, xc, wF, hrF, hoF, kF⟩ := app_runK (ownsRow_kr HW.out.row kA fun _ _ f => f) (Nat.le_trans (by have := hlt; omega) kA.size) (heap_alloc_new V.drew _) (by omega) 37
      have kW : Keep (fun i => w3.heap.size + 2 ≤ i) V wF := (kA.mono fun _ f => f.elim).more (kF.mono fun i e => (HW.out.row.lt i e).1)
      refine wpAnyH_ready (rs := [6]) (by kernel_rfl) (by simp) ?_
      refine AllReadyH.cons (o := _) rfl (fun K hK => ?_) AllReadyH.nil
      refine step_append_run rfl _ _ _ rfl _ _ rfl rfl hrF ?_
      refine hK.out _ _ (HSb.out _ kW) (fun hHeld => ?_)
      clear hK K
      try simp only [Act.put, List.setIfInBounds_toArray]
      refine wpAnyH_take (i := 7) (oi := _) (v := ?_) rfl (by kernel_rfl) (by kernel_rfl) (by kernel_rfl) (fun _ _ _ h => h) (Or.inl ⟨by rfl, ?_⟩) (by assumption) ?_
      rotate_left
      · (intro w hSw; (try dsimp only at hSw); go_simp)
        all_goals with_reducible rfl
      go_simp
      refine wpAnyH_take (i := 8) (oi := _) (v := ?_) rfl (by kernel_rfl) (by kernel_rfl) (by kernel_rfl) (fun _ _ _ h => h) (Or.inl ⟨by rfl, ?_⟩) (by assumption) ?_
      rotate_left
      · (intro w hSw; (try dsimp only at hSw); go_simp)
        all_goals with_reducible rfl
      go_simp
      refine wpAnyH_done (by kernel_rfl) ?_ _
      simp only [RL.endQ]
      unfold Oper.wp
      have hbF := kW.blk HW.out.box (by show ¬ (w3.heap.size + 2 ≤ Bl); omega)
      have d6 := cell_blk hbF 4 (v := v) rfl
      have d7 := frozen_blk hbF 4
      have kb := keep_cell wF Bl 4 (.slice xa (pr.length * 2 + 2) xc)
      have HFin : Hid (Same2 w3.heap.size V (wF.setCell ⟨Bl, 4, none⟩ (.slice xa (pr.length * 2 + 2) xc)) ∧ WhoT w3 Bl (pr ++ [(n, kk)]) (.slice xa (pr.length * 2 + 2) xc) (wF.setCell ⟨Bl, 4, none⟩ (.slice xa (pr.length * 2 + 2) xc))) := by
        refine ⟨((kW.mono (T := fun k => w3.heap.size + 2 ≤ k ∨ k = Bl) fun _ e => .inl e).more (kb.mono fun _ e => .inr e)).same2 hlt (by show ¬ (w3.heap.size + 2 ≤ w3.heap.size ∨ w3.heap.size = Bl); omega) (by show ¬ (w3.heap.size + 2 ≤ w3.heap.size + 1 ∨ w3.heap.size + 1 = Bl); omega), ?_, ?_, (HW.out.keep.trans kW fun k e => .inr (by omega)).more kb⟩
        · rw [set_blk hbF 4 _]; rfl
        · have ho := ownsRow_far hoF kb (fun k e1 e2 => by omega)
          rw [flat_append, List.length_append, Nat.add_mul]
          exact ho
      clear hrF hoF kF kW kA kD0 hbF kb hHeld
      go_simp
      refine ⟨rfl, HFin.out.1, pr ++ [(n, kk)], ?_, ?_, _, HFin.out.2⟩
      · rw [HP.out.1, HX.out]; simp
      · exact ⟨post, by rw [HP.out.2]; simp⟩
    case done => as_aux_lemma =>
      rintro xs V q ⟨hx, pr, hpr, ⟨post, hpost⟩, v, hW⟩ hlt hK
      have hps : pr = s.row := by
        have h1 : pr.length = s.row.length := by
          have h2 := congrArg List.length hpr
          rw [hx, hrl, List.length_map] at h2
          exact h2.symm
        rw [hpost] at h1
        have h3 : post = [] := by simpa using h1
        rw [hpost, h3, List.append_nil]
      subst hps
      have hW' := hW.put hBl3 (.loop q)
      have kd : Keep (fun i => i = Bl ∨ i = w3.heap.size + 1) w3 (V.putObj (w3.heap.size + 1) (.loop q)) := (hW.keep.mono fun _ e => .inl e).more ((keep_put V (w3.heap.size + 1) (.loop q)).mono fun _ e => .inr e)
      have hsz := HSz.out
      have hbl := HBl.out
      have h23 := K3.out.size
      have K8 : Hid (Keep (fun _ => False) w2 (V.putObj (w3.heap.size + 1) (.loop q))) := K3.out.trans kd fun i e => .inr (by rcases e with e | e <;> omega)
      have HB8 := hide (kd.blk HB4.out (by show ¬ (w.heap.size + 1 = Bl ∨ w.heap.size + 1 = w3.heap.size + 1); omega))
      have HK' : Hid ((V.putObj (w3.heap.size + 1) (.loop q)).heap[w3.heap.size]? = some (.deferred (some []))) := (World.putObj_heap_other (by omega)).trans hK
      obtain ⟨a', c', hv⟩ := ownsRow_shape hW'.row
      subst hv
      have HW' := hide hW'
      generalize V.putObj (w3.heap.size + 1) (.loop q) = W8 at *
      have HT := hide (put5_blk HB8.out (.int .i64 0) (.int .i64 0) (.bool false) (.int .i64 0) (.slice a' (s.row.length * 2) c'))
      have kp := put5_keep W8 (w.heap.size + 1) (.int .i64 0) (.int .i64 0) (.bool false) (.int .i64 0) (.slice a' (s.row.length * 2) c')
      have HD9 := hide (kp.blk HK'.out (by show ¬ (w3.heap.size = w.heap.size + 1); omega))
      have kq := keep_put (put5 W8 (w.heap.size + 1) (.int .i64 0) (.int .i64 0) (.bool false) (.int .i64 0) (.slice a' (s.row.length * 2) c')) w3.heap.size (.deferred none)
      have HT9 := hide (kq.blk HT.out (by show ¬ (w.heap.size + 1 = w3.heap.size); omega))
      have HE9 : Hid (Tells (fun S w => QAt KS S w P (mapS tx (stS s 7 k))) S w s 7 k (.returned (.agg #[.int .i64 (0 : Nat), .int .i64 (0 : Nat), .bool false, .int .i64 0, .slice a' (s.row.length * 2) c'])) ((put5 W8 (w.heap.size + 1) (.int .i64 0) (.int .i64 0) (.bool false) (.int .i64 0) (.slice a' (s.row.length * 2) c')).putObj w3.heap.size (.deferred none))) := by
        refine ⟨a', c', rfl, ownsRow_base (ownsRow_kr (ownsRow_kr HW'.out.row kp fun g e e2 => ?_) kq fun g e e2 => ?_) (by omega), ?_, ?_⟩
        · have e2 : g = w.heap.size + 1 := e2; have := (HW'.out.row.lt g e).1; omega
        · have e2 : g = w3.heap.size := e2; have := (HW'.out.row.lt g e).1; omega
        · refine QAt.mono (S := S) (s := mapS tx s) (((H2.out.new K8.out).stay kp fun i _ e1 e2 => ?_).stay kq fun i _ e1 e2 => ?_) fun i e => .inl e
          · have e2 : i = w.heap.size + 1 := e2; have := HS.out i e1; omega
          · have e2 : i = w3.heap.size := e2; have := HS.out i e1; omega
        · refine ((((K2.out.more K8.out).trans kp fun i e => .inr ?_).trans kq fun i e => .inr ?_)).mono fun _ f => f.elim
          · have e : i = w.heap.size + 1 := e; omega
          · have e : i = w3.heap.size := e; omega
      have y0 := cell_blk HW'.out.box 0 (v := .int .i64 0) rfl
      have y1 := cell_blk HW'.out.box 1 (v := .int .i64 0) rfl
      have y2 := cell_blk HW'.out.box 2 (v := .bool false) rfl
      have y3 := cell_blk HW'.out.box 3 (v := .int .i64 0) rfl
      have y4 := cell_blk HW'.out.box 4 (v := .slice a' (s.row.length * 2) c') rfl
      have z0 := cell_blk HB8.out 0 (v := .int .i64 0) rfl
      have z1 := cell_blk HB8.out 1 (v := .int .i64 0) rfl
      have z2 := cell_blk HB8.out 2 (v := .bool false) rfl
      have z3 := cell_blk HB8.out 3 (v := .int .i64 0) rfl
      have z4 := cell_blk HB8.out 4 (v := .slice none 0 0) rfl
      have f0 := frozen_blk HB8.out 0
      have f1 := frozen_blk HB8.out 1
      have f2 := frozen_blk HB8.out 2
      have f3 := frozen_blk HB8.out 3
      have f4 := frozen_blk HB8.out 4
      clear hW' hW kd kp kq hpr hpost hx hK hlt hsz hbl h23
      subst hA
      go_wp2_with fail
      refine ⟨by simp, .inl ⟨_, _, rfl, run_takeDeferred HD9.out, ?_⟩⟩
      exact ⟨_, res_told rfl _ _ (w.heap.size + 1) _ _ _ _ _ rfl HT9.out, HE9.out⟩


end Qu
end Go.Proofs.Ytobmnkoohgkiiaa
