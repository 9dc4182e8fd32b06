/- Chapter 8's laws: paired: a step on a queue of things of two parts (pai_gen.py). -/
import Derived.Test.YtobmnkoohgkiiaaQKnM
import Derived.Deep.Cut
namespace Go.Proofs.Ytobmnkoohgkiiaa
namespace Qu
open Go.RowKit
attribute [local go_sem] Oper.semAt_some

theorem pk_in {k : Int} (h : KI.ok k) : (-9223372036854775808 ≤ k.tdiv 4 ∧ k.tdiv 4 ≤ 9223372036854775807) ∧ (-9223372036854775808 ≤ k.tmod 4 ∧ k.tmod 4 ≤ 9223372036854775807) ∧ -9223372036854775808 ≤ 4 * k.tdiv 4 ∧ 4 * k.tdiv 4 ≤ 9223372036854775807 := by
  have h1 : -9223372036854775808 ≤ k := h.1
  have h2 : k ≤ 9223372036854775807 := h.2
  rcases Int.le_total 0 k with h | h
  · rw [Int.tdiv_eq_ediv_of_nonneg h, Int.tmod_eq_emod_of_nonneg h]; omega
  · obtain ⟨j, rfl⟩ : ∃ j, k = -j := ⟨-k, by omega⟩
    rw [Int.neg_tdiv, Int.neg_tmod, Int.tdiv_eq_ediv_of_nonneg (by omega), Int.tmod_eq_emod_of_nonneg (by omega)]; omega
theorem pk_sum (k : Int) : 4 * k.tdiv 4 + k.tmod 4 = k := by
  rcases Int.le_total 0 k with h | h
  · rw [Int.tdiv_eq_ediv_of_nonneg h, Int.tmod_eq_emod_of_nonneg h]; omega
  · obtain ⟨j, rfl⟩ : ∃ j, k = -j := ⟨-k, by omega⟩
    rw [Int.neg_tdiv, Int.neg_tmod, Int.tdiv_eq_ediv_of_nonneg (by omega), Int.tmod_eq_emod_of_nonneg (by omega)]; omega
open Classical in
/-- a number as a thing of two parts -/
noncomputable def pk (k : Int) : Rk := if h : KI.ok k then ⟨(k.tdiv 4, k.tmod 4), (pk_in h).1, (pk_in h).2.1⟩ else ⟨(0, 0), by decide, by decide⟩
theorem pk_val {k : Int} (h : KI.ok k) : (pk k).1 = (k.tdiv 4, k.tmod 4) := by unfold pk; rw [dif_pos h]
theorem pk_inj (a b : Int) (ha : KI.ok a) (hb : KI.ok b) (h : pk a = pk b) : a = b := by
  have h1 := pk_val ha
  rw [h, pk_val hb] at h1
  injection h1 with h2 h3
  rw [← pk_sum a, ← pk_sum b, h2, h3]
theorem enc_pk {k : Int} (h : KI.ok k) : KF.enc (pk k) = .agg #[.int .i64 (k.tdiv 4), .int .i64 (k.tmod 4)] := by
  show Value.agg #[.int .i64 (pk k).1.1, .int .i64 (pk k).1.2] = _
  rw [pk_val h]
theorem frontV_pk (s : St Int) (hr : ∀ e ∈ s.row, KI.ok e.2) : ∃ a b : Int, frontV KF (.agg #[.int .i64 0, .int .i64 0]) (mapS pk s) = .agg #[.int .i64 a, .int .i64 b] ∧ 4 * a + b = frN s ∧ IntKind.i64.wrap (4 * a) = 4 * a ∧ IntKind.i64.wrap (frN s) = frN s := by
  unfold frontV mapS frN
  cases h : s.row with
  | nil => exact ⟨0, 0, rfl, rfl, by decide, by decide⟩
  | cons e r =>
    have he := hr e (by rw [h]; simp)
    have hp := pk_in he
    have h1 : -9223372036854775808 ≤ e.2 := he.1
    have h2 : e.2 ≤ 9223372036854775807 := he.2
    exact ⟨e.2.tdiv 4, e.2.tmod 4, enc_pk he, pk_sum _, by rw [IntKind.wrap_i64]; omega, by show IntKind.i64.wrap e.2 = e.2; rw [IntKind.wrap_i64]; omega⟩
theorem info_ref2 : (Try.prog.info? 36).map (·.size) = some 2 := by kernel_rfl
set_option maxRecDepth 100000 in
set_option maxHeartbeats 4000000 in
theorem paired_any {S : Nat → Prop} {P : Nat} {s : St Int} (x y k : Int) (w : World) (h : QAt KF S w P (mapS pk s)) (hr : ∀ e ∈ s.row, KI.ok e.2) (ok : Ok s) (hS : ∀ i, S i → i < w.heap.size) (y1 : -9223372036854775808 ≤ y) (y2 : y ≤ 9223372036854775807) (k1 : -9223372036854775808 ≤ k) (k2 : k ≤ 9223372036854775807) (hlast : s.last < 9007199254740990) :
    Calls Try.prog 12 #[.pointer (some ⟨P, 0, none⟩), .agg #[.int .i64 x, .int .i64 y, .int .i64 k]] w (Tells (fun S w => QAt KF S w P (mapS pk (stS s (pickV y 8) k))) S w s (pickV y 8) k) := by
  have hq := eight (pickV_in y 8 (by decide))
  have hlen : s.row.length ≤ 65536 := Nat.le_trans ok.len ok.pl
  have hok : KI.ok k := ⟨k1, k2⟩
  have henc := enc_pk hok
  have hpi := pk_in hok
  obtain ⟨A, hA⟩ : ∃ A, k.tdiv 4 = A := ⟨_, rfl⟩
  obtain ⟨B, hB⟩ : ∃ B, k.tmod 4 = B := ⟨_, rfl⟩
  have hwA : IntKind.i64.wrap A = A := by rw [IntKind.wrap_i64]; omega
  have hwB : IntKind.i64.wrap B = B := by rw [IntKind.wrap_i64]; omega
  rw [hA, hB] at henc
  obtain ⟨w2, hw2⟩ : ∃ w2, w2 = ((w.alloc (.cells #[.int .i64 x, .int .i64 y, .int .i64 k] 42)).alloc (.cells #[.int .i64 0, .int .i64 0, .bool false, .int .i64 0, .slice none 0 0] 39)).alloc (.cells #[.int .i64 A, .int .i64 B] 36) := ⟨_, rfl⟩
  have PK := hide fun W => pick_any y 8 y1 y2 (by decide) (by decide) W
  generalize hqv : pickV y 8 = q at *
  have K2 : Hid (Keep (fun _ => False) w w2) := by rw [hw2]; exact ((Keep.alloc _ _ _).more (Keep.alloc _ _ _)).more (Keep.alloc _ _ _)
  have H2 := hide (h.new K2.out)
  have HSz : Hid (w.heap.size + 2 ≤ w2.heap.size) := by rw [hw2]; show _ ≤ _; simp
  have b0 : w2.heap[w.heap.size]? = some (.cells #[.int .i64 x, .int .i64 y, .int .i64 k] 42 (0, 0)) := by rw [hw2]; exact ((Keep.alloc (fun _ => False) _ _).more (Keep.alloc (fun _ => False) _ _)).blk (heap_alloc_new _ _) fun f => f
  have b1 : w2.heap[w.heap.size + 1]? = some (.cells #[.int .i64 0, .int .i64 0, .bool false, .int .i64 0, .slice none 0 0] 39 (0, 0)) := by
    rw [hw2]
    have := heap_alloc_new (w.alloc (.cells #[.int .i64 x, .int .i64 y, .int .i64 k] 42)) (.cells #[.int .i64 0, .int .i64 0, .bool false, .int .i64 0, .slice none 0 0] 39)
    rw [World.size_alloc] at this
    exact (Keep.alloc (fun _ => False) _ _).blk this fun f => f
  have b2 : w2.heap[w.heap.size + 1 + 1]? = some (.cells #[.int .i64 A, .int .i64 B] 36 (0, 0)) := by
    rw [hw2]
    have := heap_alloc_new ((w.alloc (.cells #[.int .i64 x, .int .i64 y, .int .i64 k] 42)).alloc (.cells #[.int .i64 0, .int .i64 0, .bool false, .int .i64 0, .slice none 0 0] 39)) (.cells #[.int .i64 A, .int .i64 B] 36)
    rw [World.size_alloc, World.size_alloc] at this
    exact this
  have HW2 := hide hw2
  have HB2 := hide b1
  have HS := hide hS
  have HK := hide hok
  have HR := hide hr
  have HOk := hide ok
  have x1 := cell_blk b0 1 (v := .int .i64 y) rfl
  have q0 := cell_blk b2 0 (v := .int .i64 A) rfl
  have q1 := cell_blk b2 1 (v := .int .i64 B) rfl
  obtain ⟨ra, rb, hab, hrs, hwa, hwr⟩ := frontV_pk s hr
  clear hqv hw2 h b0 b1 b2 hS hok y1 y2 hr ok hpi
  refine (callsIn_wide (n := 3)).1 (callsIn_of_wp_marks Try.func12 rfl trivial ?_ rfl)
  simp only [Try.ntmps12, List.size_toArray, List.length_cons, List.length_nil, Nat.reduceAdd, Nat.reduceSub, Array.replicate_succ, Array.replicate_zero, List.push_toArray, List.append_toArray, List.nil_append, List.cons_append]
  refine wpIn_wide.2 ?_
  go_upto_region 2 with fail
  simp only [← HW2.out]
  go_wp2_with fail
  go_at_call 13
  refine (PK.out _).mono ?_
  rintro e w2' ⟨rfl, hw2⟩
  have hw2 := hw2.symm
  subst hw2
  have hcp := pushF (pk k) w2 H2.out hlast
  have hcr := removeF (pk k) w2 H2.out
  have hca := aheadF (pk k) w2 H2.out
  have hco := popF w2 H2.out fun i e => Nat.lt_of_lt_of_le (HS.out i e) K2.out.size
  have hcf := frontF w2 H2.out.2.2.choose_spec.choose_spec
  have hcl := lenF w2 H2.out.2.2.choose_spec.choose_spec
  unfold Pushd at hcp
  rw [pushR_map pk_inj HK.out HR.out, pushed_map pk_inj HK.out HR.out, henc] at hcp
  rw [aheadR_map pk_inj HK.out HR.out, henc] at hca
  rw [aheadR_map pk_inj HK.out HR.out, remove_map pk_inj HK.out HR.out, henc] at hcr
  rw [hab, empty_map, take_map] at hco
  rw [hab, empty_map] at hcf
  rw [show (mapS pk s).row.length = s.row.length from List.length_map _] at hcl
  have CP := hide hcp
  have CR := hide hcr
  have CA := hide hca
  have CO := hide hco
  have CF := hide hcf
  have CL := hide hcl
  clear hcp hcr hca hco hcf hcl henc hab
  rcases hq with rfl | rfl | rfl | rfl | rfl | rfl | rfl | rfl
  · as_aux_lemma =>
    go_wp2_with fail
    go_at_call 34
    refine CP.out.mono ?_
    rintro e w3 ⟨rfl, q3, k3⟩
    have B3 := k3.blk HB2.out (fun e => by have := HS.out _ e; omega)
    have HE := hide (Tells.done (staysK KF P (mapS pk (s.pushed k))) (q := 0) (k := k) (s := s) (c := (pushR s k).2) (n := (pushR s k).1) (b := false) (kk := 0) (r := []) (a := none) (cc := 0) rfl rfl rfl rfl rfl q3 K2.out HSz.out k3 HS.out (World.ownsRow_nil _ _ _ _))
    generalize (pushR s k).1 = pn at *
    generalize (pushR s k).2 = pc at *
    have z0 := cell_blk B3 0 (v := .int .i64 0) rfl
    have z1 := cell_blk B3 1 (v := .int .i64 0) rfl
    have z2 := cell_blk B3 2 (v := .bool false) rfl
    have z3 := cell_blk B3 3 (v := .int .i64 0) rfl
    have z4 := cell_blk B3 4 (v := .slice none 0 0) rfl
    have f0 := frozen_blk B3 0
    have f1 := frozen_blk B3 1
    have f2 := frozen_blk B3 2
    have f3 := frozen_blk B3 3
    have f4 := frozen_blk B3 4
    have HB3 := hide B3
    clear q3 k3 B3 CP CR CA CF CO CL
    go_wp2
    exact ⟨_, res_told rfl _ _ (w.heap.size + 1) _ _ _ _ _ rfl (put5_blk HB3.out _ _ _ _ _), HE.out⟩
  · as_aux_lemma =>
    go_wp2_with fail
    go_at_call 34
    refine CP.out.mono ?_
    rintro e w3 ⟨rfl, q3, k3⟩
    have B3 := k3.blk HB2.out (fun e => by have := HS.out _ e; omega)
    have HE := hide (Tells.done (staysK KF P (mapS pk (s.pushed k))) (q := 1) (k := k) (s := s) (c := (pushR s k).2) (n := (pushR s k).1) (b := false) (kk := 0) (r := []) (a := none) (cc := 0) rfl rfl rfl rfl rfl q3 K2.out HSz.out k3 HS.out (World.ownsRow_nil _ _ _ _))
    generalize (pushR s k).1 = pn at *
    generalize (pushR s k).2 = pc at *
    have z0 := cell_blk B3 0 (v := .int .i64 0) rfl
    have z1 := cell_blk B3 1 (v := .int .i64 0) rfl
    have z2 := cell_blk B3 2 (v := .bool false) rfl
    have z3 := cell_blk B3 3 (v := .int .i64 0) rfl
    have z4 := cell_blk B3 4 (v := .slice none 0 0) rfl
    have f0 := frozen_blk B3 0
    have f1 := frozen_blk B3 1
    have f2 := frozen_blk B3 2
    have f3 := frozen_blk B3 3
    have f4 := frozen_blk B3 4
    have HB3 := hide B3
    clear q3 k3 B3 CP CR CA CF CO CL
    go_wp2
    exact ⟨_, res_told rfl _ _ (w.heap.size + 1) _ _ _ _ _ rfl (put5_blk HB3.out _ _ _ _ _), HE.out⟩
  · as_aux_lemma =>
    go_wp2_with fail
    go_at_call 35
    refine CO.out.mono ?_
    rintro e w3 ⟨rfl, q3, k3⟩
    have q3 := q3.mono (T := fun i => S i ∨ w2.heap.size ≤ i) fun _ e => .inl e
    go_upto_region 9 with fail
    obtain ⟨w4, hw4⟩ : ∃ w4, w4 = w3.alloc (.cells #[.int .i64 ra, .int .i64 rb] 36) := ⟨_, rfl⟩
    have k4 : Keep (fun _ => False) w3 w4 := by rw [hw4]; exact Keep.alloc _ _ _
    have b4 : w4.heap[w3.heap.size]? = some (.cells #[.int .i64 ra, .int .i64 rb] 36 (0, 0)) := by rw [hw4]; exact heap_alloc_new _ _
    rw [← hw4]
    have y0 := cell_blk b4 0 (v := .int .i64 ra) rfl
    have y1 := cell_blk b4 1 (v := .int .i64 rb) rfl
    have q3 := q3.new k4
    have k3 : Keep S w2 w4 := k3.more (k4.mono fun _ f => f.elim)
    clear hw4 k4 b4
    have B3 := k3.blk HB2.out (fun e => by have := HS.out _ e; omega)
    have HE := hide (Tells.done (staysK KF P (mapS pk (s.take 0))) (q := 2) (k := k) (s := s) (c := 0) (n := 0) (b := (!s.row.isEmpty)) (kk := (frN s)) (r := []) (a := none) (cc := 0) rfl rfl rfl rfl rfl q3 K2.out HSz.out k3 HS.out (World.ownsRow_nil _ _ _ _))
    generalize frN s = fk at *
    generalize (!s.row.isEmpty) = fb at *
    have z0 := cell_blk B3 0 (v := .int .i64 0) rfl
    have z1 := cell_blk B3 1 (v := .int .i64 0) rfl
    have z2 := cell_blk B3 2 (v := .bool false) rfl
    have z3 := cell_blk B3 3 (v := .int .i64 0) rfl
    have z4 := cell_blk B3 4 (v := .slice none 0 0) rfl
    have f0 := frozen_blk B3 0
    have f1 := frozen_blk B3 1
    have f2 := frozen_blk B3 2
    have f3 := frozen_blk B3 3
    have f4 := frozen_blk B3 4
    have HB3 := hide B3
    clear q3 k3 B3 CP CR CA CF CO CL
    go_wp2
    exact ⟨_, res_told rfl _ _ (w.heap.size + 1) _ _ _ _ _ rfl (put5_blk HB3.out _ _ _ _ _), HE.out⟩
  · as_aux_lemma =>
    go_wp2_with fail
    go_at_call 36
    refine CF.out.mono ?_
    rintro e w3 ⟨rfl, kf⟩
    have q3 : QAt KF (fun i => S i ∨ w2.heap.size ≤ i) w3 P (mapS pk s) := (H2.out.new kf).mono fun _ e => .inl e
    have k3 : Keep S w2 w3 := kf.mono fun _ f => f.elim
    clear kf
    go_upto_region 12 with fail
    obtain ⟨w4, hw4⟩ : ∃ w4, w4 = w3.alloc (.cells #[.int .i64 ra, .int .i64 rb] 36) := ⟨_, rfl⟩
    have k4 : Keep (fun _ => False) w3 w4 := by rw [hw4]; exact Keep.alloc _ _ _
    have b4 : w4.heap[w3.heap.size]? = some (.cells #[.int .i64 ra, .int .i64 rb] 36 (0, 0)) := by rw [hw4]; exact heap_alloc_new _ _
    rw [← hw4]
    have y0 := cell_blk b4 0 (v := .int .i64 ra) rfl
    have y1 := cell_blk b4 1 (v := .int .i64 rb) rfl
    have q3 := q3.new k4
    have k3 : Keep S w2 w4 := k3.more (k4.mono fun _ f => f.elim)
    clear hw4 k4 b4
    have B3 := k3.blk HB2.out (fun e => by have := HS.out _ e; omega)
    have HE := hide (Tells.done (staysK KF P (mapS pk s)) (q := 3) (k := k) (s := s) (c := 0) (n := 0) (b := (!s.row.isEmpty)) (kk := (frN s)) (r := []) (a := none) (cc := 0) rfl rfl rfl rfl rfl q3 K2.out HSz.out k3 HS.out (World.ownsRow_nil _ _ _ _))
    generalize frN s = fk at *
    generalize (!s.row.isEmpty) = fb at *
    have z0 := cell_blk B3 0 (v := .int .i64 0) rfl
    have z1 := cell_blk B3 1 (v := .int .i64 0) rfl
    have z2 := cell_blk B3 2 (v := .bool false) rfl
    have z3 := cell_blk B3 3 (v := .int .i64 0) rfl
    have z4 := cell_blk B3 4 (v := .slice none 0 0) rfl
    have f0 := frozen_blk B3 0
    have f1 := frozen_blk B3 1
    have f2 := frozen_blk B3 2
    have f3 := frozen_blk B3 3
    have f4 := frozen_blk B3 4
    have HB3 := hide B3
    clear q3 k3 B3 CP CR CA CF CO CL
    go_wp2
    exact ⟨_, res_told rfl _ _ (w.heap.size + 1) _ _ _ _ _ rfl (put5_blk HB3.out _ _ _ _ _), HE.out⟩
  · as_aux_lemma =>
    go_wp2_with fail
    go_at_call 37
    refine CR.out.mono ?_
    rintro e w3 ⟨rfl, q3, k3⟩
    have q3 := q3.mono (T := fun i => S i ∨ w2.heap.size ≤ i) fun _ e => .inl e
    have B3 := k3.blk HB2.out (fun e => by have := HS.out _ e; omega)
    have HE := hide (Tells.done (staysK KF P (mapS pk (s.remove k))) (q := 4) (k := k) (s := s) (c := (aheadR s.row k).2) (n := 0) (b := false) (kk := 0) (r := []) (a := none) (cc := 0) rfl rfl rfl rfl rfl q3 K2.out HSz.out k3 HS.out (World.ownsRow_nil _ _ _ _))
    generalize (aheadR s.row k).2 = pc at *
    have z0 := cell_blk B3 0 (v := .int .i64 0) rfl
    have z1 := cell_blk B3 1 (v := .int .i64 0) rfl
    have z2 := cell_blk B3 2 (v := .bool false) rfl
    have z3 := cell_blk B3 3 (v := .int .i64 0) rfl
    have z4 := cell_blk B3 4 (v := .slice none 0 0) rfl
    have f0 := frozen_blk B3 0
    have f1 := frozen_blk B3 1
    have f2 := frozen_blk B3 2
    have f3 := frozen_blk B3 3
    have f4 := frozen_blk B3 4
    have HB3 := hide B3
    clear q3 k3 B3 CP CR CA CF CO CL
    go_wp2
    exact ⟨_, res_told rfl _ _ (w.heap.size + 1) _ _ _ _ _ rfl (put5_blk HB3.out _ _ _ _ _), HE.out⟩
  · as_aux_lemma =>
    go_wp2_with fail
    go_at_call 38
    refine CA.out.mono ?_
    rintro e w3 ⟨rfl, kf⟩
    have q3 : QAt KF (fun i => S i ∨ w2.heap.size ≤ i) w3 P (mapS pk s) := (H2.out.new kf).mono fun _ e => .inl e
    have k3 : Keep S w2 w3 := kf.mono fun _ f => f.elim
    clear kf
    have B3 := k3.blk HB2.out (fun e => by have := HS.out _ e; omega)
    have HE := hide (Tells.done (staysK KF P (mapS pk s)) (q := 5) (k := k) (s := s) (c := (aheadR s.row k).2) (n := (aheadR s.row k).1) (b := false) (kk := 0) (r := []) (a := none) (cc := 0) rfl rfl rfl rfl rfl q3 K2.out HSz.out k3 HS.out (World.ownsRow_nil _ _ _ _))
    generalize (aheadR s.row k).2 = pc at *
    generalize (aheadR s.row k).1 = pn at *
    have z0 := cell_blk B3 0 (v := .int .i64 0) rfl
    have z1 := cell_blk B3 1 (v := .int .i64 0) rfl
    have z2 := cell_blk B3 2 (v := .bool false) rfl
    have z3 := cell_blk B3 3 (v := .int .i64 0) rfl
    have z4 := cell_blk B3 4 (v := .slice none 0 0) rfl
    have f0 := frozen_blk B3 0
    have f1 := frozen_blk B3 1
    have f2 := frozen_blk B3 2
    have f3 := frozen_blk B3 3
    have f4 := frozen_blk B3 4
    have HB3 := hide B3
    clear q3 k3 B3 CP CR CA CF CO CL
    go_wp2
    exact ⟨_, res_told rfl _ _ (w.heap.size + 1) _ _ _ _ _ rfl (put5_blk HB3.out _ _ _ _ _), HE.out⟩
  · as_aux_lemma =>
    go_wp2_with fail
    go_at_call 39
    refine CL.out.mono ?_
    rintro e w3 ⟨rfl, hw3⟩
    have hw3 := hw3.symm
    subst hw3
    have k3 : Keep S w2 w2 := Keep.refl _ _
    have q3 : QAt KF (fun i => S i ∨ w2.heap.size ≤ i) w2 P (mapS pk s) := H2.out.mono fun _ e => .inl e
    have B3 := k3.blk HB2.out (fun e => by have := HS.out _ e; omega)
    have HE := hide (Tells.done (staysK KF P (mapS pk s)) (q := 6) (k := k) (s := s) (c := 0) (n := s.row.length) (b := false) (kk := 0) (r := []) (a := none) (cc := 0) rfl rfl rfl rfl rfl q3 K2.out HSz.out k3 HS.out (World.ownsRow_nil _ _ _ _))
    generalize s.row.length = pn at *
    have z0 := cell_blk B3 0 (v := .int .i64 0) rfl
    have z1 := cell_blk B3 1 (v := .int .i64 0) rfl
    have z2 := cell_blk B3 2 (v := .bool false) rfl
    have z3 := cell_blk B3 3 (v := .int .i64 0) rfl
    have z4 := cell_blk B3 4 (v := .slice none 0 0) rfl
    have f0 := frozen_blk B3 0
    have f1 := frozen_blk B3 1
    have f2 := frozen_blk B3 2
    have f3 := frozen_blk B3 3
    have f4 := frozen_blk B3 4
    have HB3 := hide B3
    clear q3 k3 B3 CP CR CA CF CO CL
    go_wp2
    exact ⟨_, res_told rfl _ _ (w.heap.size + 1) _ _ _ _ _ rfl (put5_blk HB3.out _ _ _ _ _), HE.out⟩
  · as_aux_lemma =>
    clear CP CR CA CO CF CL
    have kA : Keep (fun _ => False) w2 (w2.alloc (.cells #[.int .i64 0, .int .i64 0, .bool false, .int .i64 0, .slice none 0 0] 39)) := Keep.alloc _ _ _
    have hrl : (mapS pk s).row.length = s.row.length := List.length_map _
    have AL := hide (allF (w2.alloc (.cells #[.int .i64 0, .int .i64 0, .bool false, .int .i64 0, .slice none 0 0] 39)) (H2.out.new kA).2.2.choose_spec.choose_spec (by rw [hrl]; exact hlen))
    have HKA := hide kA
    clear kA
    go_wp2_with fail
    go_at_call 40
    refine AL.out.mono ?_
    rintro e w3 ⟨Bv, a, c, rfl, hBv, hb, hrow, hk3⟩
    rw [World.size_alloc] at hBv
    obtain ⟨Bl, hBl⟩ : ∃ Bl, Bl = w2.heap.size := ⟨_, rfl⟩
    rw [← hBl]
    have g0 : w3.heap[Bl]? = some (.cells #[.int .i64 0, .int .i64 0, .bool false, .int .i64 0, .slice none 0 0] 39 (0, 0)) := by rw [hBl]; exact hk3.blk (heap_alloc_new _ _) fun f => f
    have hBl3 : Bl < w3.heap.size := lt_blk g0
    have K3 := hide (HKA.out.more hk3)
    have HB := hide hb
    have G0 := hide g0
    have HRow := hide hrow
    have hne : Bv ≠ Bl := by omega
    have HRo : Hid (∀ k, (w2.alloc (.cells #[.int .i64 0, .int .i64 0, .bool false, .int .i64 0, .slice none 0 0] 39)).heap.size ≤ k → k ≠ Bl) := fun k e => by rw [World.size_alloc] at e; omega
    have HBl := hide hBl
    have HB4 := hide (K3.out.blk HB2.out fun f => f)
    clear hb g0 hrow hk3 AL hBv hBl HKA HB2
    go_wp2_with fail
    refine named_actK fun A' hA' => ?_
    refine wpIn_wide.1 (wp_range1 (n := 3) (gf := 56) (lb := #[.pointer (some ⟨Bv, 0, none⟩)]) (by rw [hA']; rfl) (enters_of Try.func56 (by kernel_rfl) rfl) (encs := fun x : Nat × Rk => #[.int .i64 (x.1 : Nat), KF.enc x.2]) (fun _ => rfl)
      (fun pre V => ∃ pr : List (Nat × Int), pre = pr.map (fun e => (e.1, pk e.2)) ∧ (∃ post, s.row = pr ++ post) ∧ ∃ v, WhoT w3 Bl pr v V)
      (fun pre x V => (∃ post, (mapS pk s).row = pre ++ x :: post) ∧ ∃ pr : List (Nat × Int), pre = pr.map (fun e => (e.1, pk e.2)) ∧ (∃ post, s.row = pr ++ post) ∧ ∃ v, WhoT w3 Bl pr v V)
      (fun pre x a' V => ∃ (pr : List (Nat × Int)) (v : Value) (kk : Int) (Bx : Nat), pre = pr.map (fun e => (e.1, pk e.2)) ∧ (∃ post, s.row = pr ++ (x.1, kk) :: post) ∧ x.2 = pk kk ∧ a' = { tmps := (((A'.tmps.setIfInBounds 93 (.int .i64 (x.1 : Nat))).setIfInBounds 94 (KF.enc x.2)).setIfInBounds 15 (.int .i64 (x.1 : Nat))).setIfInBounds 16 (.pointer (some ⟨Bx, 0, none⟩)), defers := [] } ∧ WhoT w3 Bl pr v V ∧ w3.heap.size + 2 ≤ Bx ∧ V.heap[Bx]? = some (.cells #[.int .i64 (kk.tdiv 4), .int .i64 (kk.tmod 4)] 36 (0, 0)))
      (fun xs V => xs = (mapS pk s).row ∧ ∃ pr : List (Nat × Int), xs = pr.map (fun e => (e.1, pk e.2)) ∧ (∃ post, s.row = pr ++ post) ∧ ∃ v, WhoT w3 Bl pr v V) ?h0 ?hY ?hI ?assign ?body ?iter ?done)
    case h0 => exact fun q => ⟨[], rfl, ⟨_, rfl⟩, .slice none 0 0, WhoT.new ⟨G0.out, World.ownsRow_nil _ _ _ _, Keep.refl _ _⟩ ((Keep.alloc _ _ _).more (Keep.alloc _ _ _))⟩
    case hY =>
      rintro pre x a' V q ⟨pr, v, kk, Bx, e1, e2, e3, e4, e5, e6, e7⟩
      exact ⟨pr, v, kk, Bx, e1, e2, e3, e4, e5.put hBl3 _, e6, (keep_put _ _ _).blk e7 (by show ¬ (Bx = w3.heap.size + 1); omega)⟩
    case hI =>
      rintro pre V q ⟨pr, e1, e2, v, h⟩
      exact ⟨pr, e1, e2, v, h.put hBl3 _⟩
    case iter =>
      intro L hLs hLz hR2 V hV hL
      exact all1F (r := (mapS pk s).row) (a := a) (c := c) 3 (w3.heap.size + 1) Bv w3.heap.size _ L hLs hLz (fun pre V ⟨pr, _, _, v, h⟩ => ⟨cell_blk (h.keep.blk HB.out hne) 0 rfl, (HRow.out.mono fun _ _ => trivial).far h.keep fun k e1 e2 => HRo.out k (HRow.out.own e1).1 e2⟩) (fun pre V V' ⟨pr, e1, e2, v, h⟩ hk => ⟨pr, e1, e2, v, h.new hk⟩) (fun pre x W1 hp hv hl => hR2 pre x W1 ⟨hp, hv⟩ hl) (by rw [hrl]; exact hlen) V hV hL
    case assign => as_aux_lemma =>
      rintro lr pre x V K ⟨⟨post, hp⟩, pr, hpr, ⟨post2, hp2⟩, v, hW⟩ hlt hK
      have hx : (mapS pk s).row[pre.length]? = some x := by rw [hp]; simp
      have hpl : pre.length = pr.length := by rw [hpr]; simp
      obtain ⟨⟨n, kk⟩, hk, hxe⟩ : ∃ e, s.row[pr.length]? = some e ∧ (e.1, pk e.2) = x := by
        have h1 : (mapS pk s).row[pre.length]? = (s.row[pre.length]?).map fun e => (e.1, pk e.2) := List.getElem?_map
        rw [hx, hpl] at h1
        cases h2 : s.row[pr.length]? with
        | none => rw [h2] at h1; cases h1
        | some e => rw [h2] at h1; exact ⟨e, rfl, (Option.some.inj h1).symm⟩
      subst hxe
      have hp3 : post2 = (n, kk) :: post2.tail := by
        rw [hp2, List.getElem?_append_right (Nat.le_refl _), Nat.sub_self] at hk
        cases post2 with
        | nil => simp at hk
        | cons e t => simp at hk; rw [hk]; rfl
      have hkk := HR.out (n, kk) (by rw [hp2, hp3]; simp)
      have hen := enc_pk hkk
      simp only
      rw [hen]
      have hkA : Keep (fun _ => False) V (V.alloc (.cells #[.int .i64 (kk.tdiv 4), .int .i64 (kk.tmod 4)] 36)) := Keep.alloc _ _ _
      obtain ⟨ka, hka⟩ : ∃ ka, kk.tdiv 4 = ka := ⟨_, rfl⟩
      obtain ⟨kb, hkb⟩ : ∃ kb, kk.tmod 4 = kb := ⟨_, rfl⟩
      rw [hka, hkb] at hkA ⊢
      have HY : Hid (∀ a', a' = { tmps := (((A'.tmps.setIfInBounds 93 (.int .i64 (n : Nat))).setIfInBounds 94 (.agg #[.int .i64 ka, .int .i64 kb])).setIfInBounds 15 (.int .i64 (n : Nat))).setIfInBounds 16 (.pointer (some ⟨V.heap.size, 0, none⟩)), defers := [] } → K a' (V.alloc (.cells #[.int .i64 ka, .int .i64 kb] 36))) := fun a' ha' => hK a' _ (hkA.same2 hlt (fun f => f) (fun f => f)) ⟨pr, v, kk, V.heap.size, hpr, ⟨_, by rw [hp2, hp3]⟩, rfl, by rw [ha', hen, hka, hkb], hW.new hkA, by omega, by rw [hka, hkb]; exact heap_alloc_new _ _⟩
      clear hK hkA hen hka hkb hW hp hp2 hp3 hpr hk hx hpl hkk
      subst hA'
      gi_wp2
      exact HY.out _ rfl
    case body => as_aux_lemma =>
      rintro lr pre x a' V ⟨pr, v, kk, Bx, hpr, ⟨post, hpost⟩, hxk, rfl, hW, hBx, bx⟩ hlt
      have hkk := HR.out (x.1, kk) (by rw [hpost]; simp)
      have hen := enc_pk hkk
      have hpi := pk_in hkk
      have hsum := pk_sum kk
      have hk1 : -9223372036854775808 ≤ kk := hkk.1
      have hk2 : kk ≤ 9223372036854775807 := hkk.2
      subst hA'
      obtain ⟨n, T⟩ := x
      simp only at hxk hpost ⊢
      have hen2 : KF.enc T = .agg #[.int .i64 (kk.tdiv 4), .int .i64 (kk.tmod 4)] := by rw [hxk]; exact hen
      rw [hen2]
      simp only [List.setIfInBounds_toArray, List.set_cons_succ, List.set_cons_zero]
      have hpl : pr.length + 1 ≤ 65536 := by have := congrArg List.length hpost; simp at this; omega
      have HX := hide hxk
      have HP := hide (And.intro hpr hpost)
      have H4 := hide hW
      have c6 := cell_blk hW.box 4 (v := v) rfl
      obtain ⟨ka, hka⟩ : ∃ ka, kk.tdiv 4 = ka := ⟨_, rfl⟩
      obtain ⟨kb, hkb⟩ : ∃ kb, kk.tmod 4 = kb := ⟨_, rfl⟩
      rw [hka, hkb] at hpi hsum bx ⊢
      have y0 := cell_blk bx 0 (v := .int .i64 ka) rfl
      have y1 := cell_blk bx 1 (v := .int .i64 kb) rfl
      have hw4 : IntKind.i64.wrap (4 * ka) = 4 * ka := by rw [IntKind.wrap_i64]; omega
      have hwk : IntKind.i64.wrap kk = kk := by rw [IntKind.wrap_i64]; omega
      obtain ⟨i0, hi, hz0, hz1, hz2⟩ := info_parts info_int
      have HI := hide (And.intro hi (And.intro hz0 (And.intro hz1 hz2)))
      clear hkk hxk hpr hpost hW hen hen2 hpi hka hkb bx hk1 hk2 hi hz0 hz1 hz2
      gi_wp2_with (gi_at_builtin
                   refine wpListIn_append_own _ rfl _ _ 37 rfl (w3.heap.size + 2) 3 i0 (.int .i64 0) 1 8 Try.underlying37 HI.out.1 HI.out.2.1 HI.out.2.2.1 HI.out.2.2.2 rfl (by decide) v (pr.length * 2) (flat KI pr) rfl (H4.out.row.alloc _) ⟨V.heap.size, 0, none⟩ 2 2 [.int .i64 (n : Nat), .int .i64 kk] rfl rfl (fun j u hu => two_new V _ _ _ j u hu) (by simp [Value.oneCell']) (by unfold maxLen; omega) (by omega) (by simp; omega) ?_
                   intro v' w5 hown' hgrow _
                   have k5 : Keep (fun k => w3.heap.size + 2 ≤ k) V w5 := (Keep.alloc _ _ _).more (Keep.grown hgrow fun k e => (H4.out.row.lt k e).1)
                   have hb5 := k5.blk H4.out.box (by show ¬ (w3.heap.size + 2 ≤ Bl); omega)
                   obtain ⟨a', c', rfl⟩ := ownsRow_shape hown'
                   have d6 := cell_blk hb5 4 (v := v) rfl
                   have d7 := frozen_blk hb5 4
                   have HO := hide hown'
                   have K5 := hide k5
                   have HB5 := hide hb5
                   clear hown' hgrow k5 hb5)
      have kb := keep_cell w5 Bl 4 (.slice a' (pr.length * 2 + 2) c')
      refine ⟨?_, pr ++ [(n, kk)], ?_, ?_, .slice a' (pr.length * 2 + 2) c', ⟨?_, ?_, (H4.out.keep.trans K5.out fun k e => .inr (by omega)).more kb⟩⟩
      · exact ((K5.out.mono (T := fun k => w3.heap.size + 2 ≤ k ∨ k = Bl) fun _ e => .inl e).more (kb.mono fun _ e => .inr e)).same2 hlt (by show ¬ (w3.heap.size + 2 ≤ w3.heap.size ∨ w3.heap.size = Bl); omega) (by show ¬ (w3.heap.size + 2 ≤ w3.heap.size + 1 ∨ w3.heap.size + 1 = Bl); omega)
      · rw [HP.out.1, HX.out]; simp
      · exact ⟨post, by rw [HP.out.2]; simp⟩
      · rw [set_blk HB5.out 4 _]; rfl
      · have ho := ownsRow_far HO.out kb (fun k e1 e2 => by omega)
        rw [flat_append, List.length_append, Nat.add_mul]
        exact ho
    case done => as_aux_lemma =>
      rintro xs V q ⟨hx, pr, hpr, ⟨post, hpost⟩, v, hW⟩ hlt hK
      have hps : pr = s.row := by
        have h1 : pr.length = s.row.length := by
          have h2 := congrArg List.length hpr
          rw [hx, hrl, List.length_map] at h2
          exact h2.symm
        rw [hpost] at h1
        have h3 : post = [] := by simpa using h1
        rw [hpost, h3, List.append_nil]
      subst hps
      have hW' := hW.put hBl3 (.loop q)
      have kd : Keep (fun i => i = Bl ∨ i = w3.heap.size + 1) w3 (V.putObj (w3.heap.size + 1) (.loop q)) := (hW.keep.mono fun _ e => .inl e).more ((keep_put V (w3.heap.size + 1) (.loop q)).mono fun _ e => .inr e)
      have hsz := HSz.out
      have hbl := HBl.out
      have h23 := K3.out.size
      have K8 : Hid (Keep (fun _ => False) w2 (V.putObj (w3.heap.size + 1) (.loop q))) := K3.out.trans kd fun i e => .inr (by rcases e with e | e <;> omega)
      have HB8 := hide (kd.blk HB4.out (by show ¬ (w.heap.size + 1 = Bl ∨ w.heap.size + 1 = w3.heap.size + 1); omega))
      have HK' : Hid ((V.putObj (w3.heap.size + 1) (.loop q)).heap[w3.heap.size]? = some (.deferred (some []))) := (World.putObj_heap_other (by omega)).trans hK
      obtain ⟨a', c', hv⟩ := ownsRow_shape hW'.row
      subst hv
      have HW' := hide hW'
      generalize V.putObj (w3.heap.size + 1) (.loop q) = W8 at *
      have HT := hide (put5_blk HB8.out (.int .i64 0) (.int .i64 0) (.bool false) (.int .i64 0) (.slice a' (s.row.length * 2) c'))
      have kp := put5_keep W8 (w.heap.size + 1) (.int .i64 0) (.int .i64 0) (.bool false) (.int .i64 0) (.slice a' (s.row.length * 2) c')
      have HD9 := hide (kp.blk HK'.out (by show ¬ (w3.heap.size = w.heap.size + 1); omega))
      have kq := keep_put (put5 W8 (w.heap.size + 1) (.int .i64 0) (.int .i64 0) (.bool false) (.int .i64 0) (.slice a' (s.row.length * 2) c')) w3.heap.size (.deferred none)
      have HT9 := hide (kq.blk HT.out (by show ¬ (w.heap.size + 1 = w3.heap.size); omega))
      have HE9 : Hid (Tells (fun S w => QAt KF S w P (mapS pk (stS s 7 k))) S w s 7 k (.returned (.agg #[.int .i64 (0 : Nat), .int .i64 (0 : Nat), .bool false, .int .i64 0, .slice a' (s.row.length * 2) c'])) ((put5 W8 (w.heap.size + 1) (.int .i64 0) (.int .i64 0) (.bool false) (.int .i64 0) (.slice a' (s.row.length * 2) c')).putObj w3.heap.size (.deferred none))) := by
        refine ⟨a', c', rfl, ownsRow_base (ownsRow_kr (ownsRow_kr HW'.out.row kp fun g e e2 => ?_) kq fun g e e2 => ?_) (by omega), ?_, ?_⟩
        · have e2 : g = w.heap.size + 1 := e2; have := (HW'.out.row.lt g e).1; omega
        · have e2 : g = w3.heap.size := e2; have := (HW'.out.row.lt g e).1; omega
        · refine QAt.mono (S := S) (s := mapS pk s) (((H2.out.new K8.out).stay kp fun i _ e1 e2 => ?_).stay kq fun i _ e1 e2 => ?_) fun i e => .inl e
          · have e2 : i = w.heap.size + 1 := e2; have := HS.out i e1; omega
          · have e2 : i = w3.heap.size := e2; have := HS.out i e1; omega
        · refine ((((K2.out.more K8.out).trans kp fun i e => .inr ?_).trans kq fun i e => .inr ?_)).mono fun _ f => f.elim
          · have e : i = w.heap.size + 1 := e; omega
          · have e : i = w3.heap.size := e; omega
      have y0 := cell_blk HW'.out.box 0 (v := .int .i64 0) rfl
      have y1 := cell_blk HW'.out.box 1 (v := .int .i64 0) rfl
      have y2 := cell_blk HW'.out.box 2 (v := .bool false) rfl
      have y3 := cell_blk HW'.out.box 3 (v := .int .i64 0) rfl
      have y4 := cell_blk HW'.out.box 4 (v := .slice a' (s.row.length * 2) c') rfl
      have z0 := cell_blk HB8.out 0 (v := .int .i64 0) rfl
      have z1 := cell_blk HB8.out 1 (v := .int .i64 0) rfl
      have z2 := cell_blk HB8.out 2 (v := .bool false) rfl
      have z3 := cell_blk HB8.out 3 (v := .int .i64 0) rfl
      have z4 := cell_blk HB8.out 4 (v := .slice none 0 0) rfl
      have f0 := frozen_blk HB8.out 0
      have f1 := frozen_blk HB8.out 1
      have f2 := frozen_blk HB8.out 2
      have f3 := frozen_blk HB8.out 3
      have f4 := frozen_blk HB8.out 4
      clear hW' hW kd kp kq hpr hpost hx hK hlt hsz hbl h23
      subst hA'
      go_wp2_with fail
      refine ⟨by simp, .inl ⟨_, _, rfl, run_takeDeferred HD9.out, ?_⟩⟩
      exact ⟨_, res_told rfl _ _ (w.heap.size + 1) _ _ _ _ _ rfl HT9.out, HE9.out⟩


end Qu
end Go.Proofs.Ytobmnkoohgkiiaa
