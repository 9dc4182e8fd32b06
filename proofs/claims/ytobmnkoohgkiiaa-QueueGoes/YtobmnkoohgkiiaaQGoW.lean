/- QueueGoes: the walk. -/
import Derived.Test.YtobmnkoohgkiiaaQGoM
import Derived.Test.YtobmnkoohgkiiaaQLaw
import Derived.BigQuiet
import Derived.Laws.EntriesVeiled
import Derived.Deep.CutRange
namespace Go.Proofs.Ytobmnkoohgkiiaa
namespace Qu
open Go.RowKit Go.Sort
attribute [local go_sem] Oper.semAt_some

set_option maxRecDepth 100000 in
set_option maxHeartbeats 16000000 in
theorem goes_walk (x : Int) (a1 : Option Addr) (n1 c1 : Nat) (a2 : Option Addr) (n2 c2 : Nat) (l1 l2 : List Sp) (W : World) (h1 : -9223372036854775808 ≤ x) (h2 : x ≤ 9223372036854775807) (hl1 : RdQ W.heap.size W a1 n1 l1) (hl2 : RdQ W.heap.size W a2 n2 l2) :
    Calls Try.prog 4 #[.int .i64 x, .slice a1 n1 c1, .slice a2 n2 c2] W fun e w' => e = .returned (.bool true) ∧ Below W.heap.size W w' := by
  have HL2 := hide hl2
  have HL1 := hide hl1
  have HX := hide (And.intro h1 h2)
  clear hl1 hl2 h1 h2
  refine (callsIn_wide (n := 3)).1 (callsIn_of_wp_marks Try.func4 rfl trivial ?_ rfl)
  simp only [Try.ntmps4, List.size_toArray, List.length_cons, List.length_nil, Nat.reduceAdd, Nat.reduceSub, Array.replicate_succ, Array.replicate_zero, List.push_toArray, List.append_toArray, List.nil_append, List.cons_append]
  refine wpIn_wide.2 ?_
  go_wp2_with fail
  go_at_call 5
  obtain ⟨w0, hw0⟩ : ∃ w0, w0 = (W.alloc (.cells #[.slice a2 n2 c2] 22)).alloc (.cells #[.bool false] 4) := ⟨_, rfl⟩
  rw [← hw0]
  have k0 : Keep (fun _ => False) W w0 := by rw [hw0]; exact (Keep.alloc _ _ _).more (Keep.alloc _ _ _)
  have bm : w0.heap[W.heap.size]? = some (.cells #[.slice a2 n2 c2] 22 (0, 0)) := by
    rw [hw0]; exact (Keep.alloc (fun _ => False) _ _).blk (heap_alloc_new _ _) fun f => f
  have br : w0.heap[W.heap.size + 1]? = some (.cells #[.bool false] 4 (0, 0)) := by
    rw [hw0]
    have := heap_alloc_new (W.alloc (.cells #[.slice a2 n2 c2] 22)) (.cells #[.bool false] 4)
    rwa [World.size_alloc] at this
  obtain ⟨X, hX⟩ : ∃ X, X = W.heap.size := ⟨_, rfl⟩
  rw [← hX] at bm br ⊢
  have HXW := hide hX
  clear hw0 hX
  refine (known_any _).mono ?_
  rintro e w1 ⟨rfl, k1⟩
  have K1 := hide (k0.more k1)
  have BM1 := hide (k1.blk bm fun f => f)
  have BR1 := hide (k1.blk br fun f => f)
  have hXl : X + 1 < w1.heap.size := (Array.getElem?_eq_some_iff.1 BR1.out).1
  clear k0 k1 bm br w0
  have HL11 : Hid (RdQ w1.heap.size w1 a1 n1 l1) := by
    have h := HL1.out.keep K1.out fun _ _ f => f
    exact ⟨h.len, h.few, h.inn, fun i y hy => by obtain ⟨g, off, e, hg, r⟩ := h.rd i y hy; exact ⟨g, off, e, Nat.lt_of_lt_of_le hg K1.out.size, r⟩⟩
  go_upto_region 5 with (go_at_call 15; refine (filled_any x a1 n1 c1 l1 w1 HX.out.1 HX.out.2 HL11.out).mono ?_; rintro e w2 ⟨P, n0, rfl, g1, g2, hq, hk⟩; have HQ2 := hide hq; have K2 := hide hk; clear hq hk)
  obtain ⟨Z, hZ⟩ : ∃ Z, Z = w2.heap.size := ⟨_, rfl⟩
  obtain ⟨s0, hs0⟩ : ∃ s0, s0 = runQ (fresh n0) l1 := ⟨_, rfl⟩
  rw [← hs0] at HQ2
  have HS0 : Hid (s0.last ≤ n1) := by
    have := runQ_last l1 (fresh n0)
    rw [← hs0, ← HL1.out.len] at this
    exact Nat.le_trans this (by show 0 + n1 ≤ n1; omega)
  have HB1 : Hid (w1.heap.size ≤ Z) := by rw [hZ]; exact K2.out.size
  obtain ⟨B0, hB0⟩ : ∃ B0, B0 = w1.heap.size := ⟨_, rfl⟩
  rw [← hB0] at HQ2 hXl HB1
  have HB0 := hide hB0
  have HZ := hide hZ
  clear hs0 g1 g2 HL11 hB0 hZ
  go_upto_region 7 with fail
  go_wp2_with fail
  go_at_call 16
  rw [← HZ.out]
  obtain ⟨w3, hw3⟩ : ∃ w3, w3 = w2.alloc (.cells #[.pointer (some ⟨P, 0, none⟩)] 24) := ⟨_, rfl⟩
  rw [← hw3]
  have k3 : Keep (fun _ => False) w2 w3 := by rw [hw3]; exact Keep.alloc _ _ _
  have bq : w3.heap[Z]? = some (.cells #[.pointer (some ⟨P, 0, none⟩)] 24 (0, 0)) := by rw [hw3, HZ.out]; exact heap_alloc_new _ _
  have HQ3 : Hid (QAt KI (fun k => B0 ≤ k ∧ k < Z) w3 P s0) := by rw [HZ.out]; exact QAt.new HQ2.out k3
  have K3 := hide (K2.out.more k3)
  clear hw3 k3 HQ2 K2
  have HZ3 : Hid (Z < w3.heap.size) := (Array.getElem?_eq_some_iff.1 bq).1
  refine (whole_any w3 HQ3.out).mono ?_
  rintro e w4 ⟨aw, cw, rfl, ho, hk⟩
  have HO4 := hide ho
  have K4 := hide (K3.out.more hk)
  have HK34 := hide hk.size
  have BQ4 := hide (hk.blk bq fun f => f)
  have HQ4 := hide (HQ3.out.new hk)
  have e8 := cell_blk BQ4.out 0 rfl
  clear ho hk bq HQ3 K3
  have hR : s0.row.length ≤ 65536 := Nat.le_trans HQ4.out.1.len HQ4.out.1.pl
  go_upto_region 8 with fail
  obtain ⟨w5, hw5⟩ : ∃ w5, w5 = w4.alloc (.cells #[.slice aw (s0.row.length * 2) cw] 37) := ⟨_, rfl⟩
  rw [← hw5]
  have k5 : Keep (fun _ => False) w4 w5 := by rw [hw5]; exact Keep.alloc _ _ _
  obtain ⟨Bw, hBw⟩ : ∃ Bw, Bw = w4.heap.size := ⟨_, rfl⟩
  rw [← hBw]
  have bw : w5.heap[Bw]? = some (.cells #[.slice aw (s0.row.length * 2) cw] 37 (0, 0)) := by rw [hw5, hBw]; exact heap_alloc_new _ _
  have HQ5 := hide (HQ4.out.new k5)
  have K5 := hide (K4.out.more k5)
  have BQ5 := hide (k5.blk BQ4.out fun f => f)
  have HO5 := hide (ownsRow_kq HO4.out k5 fun _ _ f => f)
  have HOB : Hid (∀ g, (Value.slice aw (s0.row.length * 2) cw).ownBlock = some g → w3.heap.size ≤ g ∧ g < Bw) := fun g e => by rw [hBw]; exact HO4.out.lt g e
  have HZB : Hid (w3.heap.size ≤ Bw ∧ Z < Bw) := by
    have h4 := HK34.out
    have hz := (Array.getElem?_eq_some_iff.1 BQ4.out).1
    exact ⟨by rw [hBw]; exact h4, by rw [hBw]; exact hz⟩
  clear hw5 k5 HQ4 HO4 K4 BQ4 e8 hBw
  have e8 := cell_blk BQ5.out 0 rfl
  go_wp2_with fail
  go_at_call 17
  refine (allI w5 HQ5.out.2.2.choose_spec.choose_spec hR).mono ?_
  rintro e w6 ⟨Bv, av, cv, rfl, hBv, hbv, hrow, hk6⟩
  have K6 := hide (K5.out.more hk6)
  have HQ6 := hide (HQ5.out.new hk6)
  have BQ6 := hide (hk6.blk BQ5.out fun f => f)
  have BW6 := hide (hk6.blk bw fun f => f)
  have HO6 := hide (ownsRow_kq HO5.out hk6 fun _ _ f => f)
  have HBV := hide hbv
  have HRW := hide hrow
  have H5 : Hid (w5.heap.size ≤ Bv ∧ Bw < w5.heap.size ∧ w5.heap.size ≤ w6.heap.size ∧ Bv < w6.heap.size) := ⟨hBv, (Array.getElem?_eq_some_iff.1 bw).1, hk6.size, (Array.getElem?_eq_some_iff.1 hbv).1⟩
  clear hBv hbv hrow hk6 HQ5 BQ5 HO5 K5 bw e8
  go_upto_region 10 with fail
  obtain ⟨wR, hwR⟩ : ∃ wR, wR = (w6.alloc (.cells #[.func (.func 42) #[] #[.pointer (some ⟨Bv, 0, none⟩)]] 51)).alloc (.cells #[.int .i64 0] 3) := ⟨_, rfl⟩
  rw [← hwR]
  have kR : Keep (fun _ => False) w6 wR := by rw [hwR]; exact (Keep.alloc _ _ _).more (Keep.alloc _ _ _)
  have ba : wR.heap[w6.heap.size]? = some (.cells #[.func (.func 42) #[] #[.pointer (some ⟨Bv, 0, none⟩)]] 51 (0, 0)) := by
    rw [hwR]; exact (Keep.alloc (fun _ => False) _ _).blk (heap_alloc_new _ _) fun f => f
  have bn : wR.heap[w6.heap.size + 1]? = some (.cells #[.int .i64 0] 3 (0, 0)) := by
    rw [hwR]
    have := heap_alloc_new (w6.alloc (.cells #[.func (.func 42) #[] #[.pointer (some ⟨Bv, 0, none⟩)]] 51)) (.cells #[.int .i64 0] 3)
    rwa [World.size_alloc] at this
  have hRs : wR.heap.size = w6.heap.size + 2 := by rw [hwR]; simp
  obtain ⟨Q, hQ⟩ : ∃ Q, Q = w6.heap.size := ⟨_, rfl⟩
  rw [← hQ] at ba bn hRs ⊢
  have H6 : Hid (w3.heap.size ≤ Bw ∧ Bw < Bv ∧ Bv < Q ∧ Z < Bw) := by
    have h := H5.out
    refine ⟨HZB.out.1, by omega, by rw [hQ]; exact h.2.2.2, HZB.out.2⟩
  have H1 : Hid (B0 ≤ Z ∧ X + 1 < B0) := ⟨HB1.out, hXl⟩
  have HU : Hid (∀ V, Keep (fun i => (B0 ≤ i ∧ i < Z) ∨ i = Q + 1) wR V → V.cell? ⟨Z, 0, none⟩ = some (.pointer (some ⟨P, 0, none⟩)) ∧ V.cell? ⟨Bw, 0, none⟩ = some (.slice aw (s0.row.length * 2) cw) ∧ V.cell? ⟨Q, 0, none⟩ = some (.func (.func 42) #[] #[.pointer (some ⟨Bv, 0, none⟩)]) ∧ V.cell? ⟨X, 0, none⟩ = some (.slice a2 n2 c2) ∧ V.heap[X + 1]? = some (.cells #[.bool false] 4 (0, 0)) ∧
      V.cell? ⟨Bv, 0, none⟩ = some (.slice av s0.row.length cv) ∧ RowAt KI (fun _ => True) V (.slice av s0.row.length cv) s0.row ∧ RdZ V aw (s0.row.length * 2) cw (pairs s0.row) ∧ RdQ W.heap.size V a2 n2 l2) := fun V k => by
    have h6 := H6.out
    have h1 := H1.out
    have h5 := H5.out
    have hz := HZB.out
    have hxw := HXW.out
    have off : ∀ i, (i < B0 ∨ Z ≤ i) → i ≠ Q + 1 → ¬ ((B0 ≤ i ∧ i < Z) ∨ i = Q + 1) := fun i e1 e2 e => by omega
    refine ⟨cell_blk (k.blk (kR.blk BQ6.out fun f => f) (off _ (by omega) (by omega))) 0 rfl, cell_blk (k.blk (kR.blk BW6.out fun f => f) (off _ (by omega) (by omega))) 0 rfl, cell_blk (k.blk ba (off _ (by omega) (by omega))) 0 rfl,
      cell_blk (k.blk (kR.blk (K6.out.blk BM1.out fun f => f) fun f => f) (off _ (by omega) (by omega))) 0 rfl, k.blk (kR.blk (K6.out.blk BR1.out fun f => f) fun f => f) (off _ (by omega) (by omega)), cell_blk (k.blk (kR.blk HBV.out fun f => f) (off _ (by omega) (by omega))) 0 rfl, ?_, ?_, ?_⟩
    · have hr := HRW.out.far kR fun _ _ f => f
      refine (hr.mono fun _ _ => trivial).far k fun i e1 e2 => ?_
      have h7 := HRW.out.own e1
      have h8 : i < w6.heap.size := (Array.getElem?_eq_some_iff.1 h7.2.choose_spec).1
      rw [← hQ] at h8
      have h9 : w5.heap.size ≤ i := h7.1
      exact off i (by omega) (by omega) e2
    · refine RdZ.ofOwns (ownsRow_kq (ownsRow_kq (T := fun _ => False) (by rw [← flat_pairs]; exact HO6.out) kR fun _ _ f => f) k fun g e => ?_)
      have h7 := HOB.out g e
      have h8 := HZ3.out
      exact off g (by omega) (by omega)
    · refine (((HL2.out.keep K1.out fun _ _ f => f).keep K6.out fun _ _ f => f).keep kR fun _ _ f => f).keep k fun i hi => off i (by omega) (by omega)
  have H0 : Hid (GoI wR (fun i => B0 ≤ i ∧ i < Z) P (Q + 1) (n1 + 0) 0 wR) := ⟨bn, ⟨s0, _, HQ6.out.new kR, fun i e => .inl e, HS0.out⟩, Keep.refl _ _⟩
  have KR := hide (K1.out.more (K6.out.more kR))
  have hn1 : n1 ≤ 8796093022208 := by rw [HL1.out.len]; exact HL1.out.few
  have hn2 : n2 ≤ 8796093022208 := by rw [HL2.out.len]; exact HL2.out.few
  have e10 := cell_blk ba 0 (v := .func (.func 42) #[] #[.pointer (some ⟨Bv, 0, none⟩)]) rfl
  have HS1 : Hid (¬ (B0 ≤ Q + 1 ∧ Q + 1 < Z)) := fun e => by have := H6.out; omega
  have HSR : Hid (∀ i, (B0 ≤ i ∧ i < Z) → i < wR.heap.size) := fun i e => by have := H6.out; omega
  have HQe := hide hQ
  have HRs : Hid (wR.heap.size = Q + 2) := hRs
  have hQR : Q + 1 < wR.heap.size := by omega
  clear hQ hRs hwR kR ba bn HQ6 BQ6 BW6 HO6 HBV HRW K6 K1 BM1 BR1 HOB HB0 HS0
  go_wp2_with fail
  refine named_act fun A hA => ?_
  refine wpIn_wide.1 (wp_range2E (n := 3) (gf := 42) (lb := #[.pointer (some ⟨Bv, 0, none⟩)]) (by rw [hA]; rfl) (enters_of Try.func42 (by kernel_rfl) rfl) (encs := fun x : Nat × Int => #[.int .i64 (x.1 : Nat), .int .i64 x.2]) (fun _ => rfl)
    (fun pre V => GoI wR (fun i => B0 ≤ i ∧ i < Z) P (Q + 1) (n1 + pre.length) pre.length V ∧ pre.length ≤ 6)
    (fun c pre V => c = 0 ∧ GoI wR (fun i => B0 ≤ i ∧ i < Z) P (Q + 1) (n1 + pre.length) pre.length V ∧ pre.length = 7)
    (fun pre x V => (∃ post, s0.row = pre ++ x :: post) ∧ GoI wR (fun i => B0 ≤ i ∧ i < Z) P (Q + 1) (n1 + pre.length) pre.length V ∧ pre.length ≤ 6)
    (fun pre x a' V => (∃ post, s0.row = pre ++ x :: post) ∧ a' = { tmps := (((A.tmps.setIfInBounds 38 (.int .i64 (x.1 : Nat))).setIfInBounds 39 (.int .i64 x.2)).setIfInBounds 12 (.int .i64 (x.1 : Nat))).setIfInBounds 13 (.int .i64 x.2), defers := [] } ∧ GoI wR (fun i => B0 ≤ i ∧ i < Z) P (Q + 1) (n1 + pre.length) pre.length V ∧ pre.length ≤ 6)
    (fun xs V => xs = s0.row ∧ GoI wR (fun i => B0 ≤ i ∧ i < Z) P (Q + 1) (n1 + xs.length) xs.length V ∧ xs.length ≤ 6)
    (fun V => ∃ k, GoI wR (fun i => B0 ≤ i ∧ i < Z) P (Q + 1) (n1 + k) k V ∧ k ≤ 7 ∧ (k = 7 ∨ k = s0.row.length)) ?h0 ?hY ?hI ?hIx ?assign ?body ?iter ?hRE ?hXE ?hx ?rest)
  case h0 => exact fun q => ⟨H0.out.new ((Keep.alloc _ _ _).more (Keep.alloc _ _ _)), Nat.zero_le _⟩
  case hY =>
    rintro pre x a' V q ⟨e1, e2, e3, e4⟩
    exact ⟨e1, e2, e3.put hQR HSR.out _, e4⟩
  case hI =>
    rintro pre V q ⟨e3, e4⟩
    exact ⟨e3.put hQR HSR.out _, e4⟩
  case hIx =>
    rintro c pre V q ⟨e1, e3, e4⟩
    exact ⟨e1, e3.put hQR HSR.out _, e4⟩
  case assign => as_aux_lemma =>
    rintro lr pre x V K ⟨hp, hI, h6⟩ hlt hK
    subst hA
    gi_wp2
    exact hK _ _ (Same2.refl _ _) ⟨hp, rfl, hI, h6⟩
  case body => as_aux_lemma =>
    rintro pre x a' V ⟨⟨post, hp⟩, rfl, hI, h6⟩ hlt ⟨lrec, hrec⟩
    subst hA
    simp only [List.setIfInBounds_toArray, List.set_cons_succ, List.set_cons_zero]
    have hxk : s0.row[pre.length]? = some x := by rw [hp]; simp
    obtain ⟨k, hkl⟩ : ∃ k, pre.length = k := ⟨_, rfl⟩
    rw [hkl] at hxk hI h6
    have hkR : k < s0.row.length := (List.getElem?_eq_some_iff.1 hxk).1
    have HKl := hide hkl
    have HRc := hide hrec
    clear hp hkl hrec
    obtain ⟨L, hL⟩ : ∃ L, s0.row.length * 2 = L := ⟨_, rfl⟩
    rw [hL] at HU ⊢
    obtain ⟨m, hm⟩ : ∃ m, m = k * 2 := ⟨_, rfl⟩
    obtain ⟨m1, hm1⟩ : ∃ m1, m1 = m + 1 := ⟨_, rfl⟩
    obtain ⟨uZ, uW, uA, uX, _, _, _, uP, uQ⟩ := HU.out V hI.kp
    obtain ⟨p1, p2⟩ := pairs_at hxk
    obtain ⟨gw, ow, eaw, w0⟩ := uP.rd _ _ p1
    obtain ⟨gw', ow', eaw', w1⟩ := uP.rd _ _ p2
    rw [eaw] at eaw'
    obtain ⟨rfl, rfl⟩ : gw = gw' ∧ ow = ow' := by injection eaw' with e; injection e with e1 e2; exact ⟨e1, e2⟩
    subst eaw
    rw [← hm] at w0 w1
    rw [← hm1] at w1
    have hmI : (2 : Int) * (k : Int) = (m : Int) := by omega
    have hmI1 : (m : Int) + 1 = (m1 : Int) := by omega
    have hwm : IntKind.i64.wrap (m : Int) = (m : Int) := wrapI (by omega)
    have hwm1 : IntKind.i64.wrap (m1 : Int) = (m1 : Int) := wrapI (by omega)
    have hmL : (m : Int) < (L : Int) := by omega
    have hmL1 : (m1 : Int) < (L : Int) := by omega
    have hmL2 : ¬ ((L : Int) ≤ (m1 : Int)) := by omega
    have hdL : decide (L ≤ m1) = false := by simp; omega
    have cn := cell_blk hI.nb 0 (v := .int .i64 (k : Nat)) rfl
    have HI := hide hI
    have HM := hide (And.intro hm (And.intro hm1 hL))
    have HQQ := hide uQ
    have hkr6 : (k : Int) ≤ 6 := by omega
    obtain ⟨x0, x1⟩ := x
    simp only at w0 w1
    clear hm hm1 hL p1 p2 uP uQ hI hxk hkR
    by_cases hk2 : k < n2
    · have hk2' : (k : Int) < (n2 : Int) := by omega
      obtain ⟨y, hy⟩ : ∃ y, l2[k]? = some y := ⟨_, List.getElem?_eq_getElem (by rw [← HL2.out.len]; exact hk2)⟩
      obtain ⟨g2, o2, ea2, _, y0, y1, y2⟩ := HQQ.out.rd k y hy
      have hyi := HL2.out.inn y (List.mem_of_getElem? hy)
      subst ea2
      have hVs : wR.heap.size + 2 ≤ V.heap.size := hlt
      have HCl : Hid (∀ w', Keep (fun _ => False) V w' → Calls Try.prog 10 #[.pointer (some ⟨P, 0, none⟩), .agg #[.int .i64 y.1, .int .i64 y.2.1, .int .i64 y.2.2]] w' fun e w2 => (∃ v, e = .returned v) ∧ GoI wR (fun i => B0 ≤ i ∧ i < Z) P (Q + 1) (n1 + k + 1) k w2 ∧ Keep (fun i => (B0 ≤ i ∧ i < Z) ∨ wR.heap.size + 2 ≤ i) w' w2) := fun w' kw => (HI.out.new kw).stepped hQR HS1.out (Nat.le_trans hVs kw.size) (by omega) y hyi
      obtain ⟨ya, yb, yc⟩ := y
      simp only at y0 y1 y2 HCl
      have r0 := fun dd os => cell_regrown uZ dd os
      have r1 := fun dd os => cell_regrown uX dd os
      have r2 := fun dd os => cell_regrown cn dd os
      have r3 := fun dd os => cell_regrown y0 dd os
      have r4 := fun dd os => cell_regrown y1 dd os
      have r5 := fun dd os => cell_regrown y2 dd os
      clear hy hyi y0 y1 y2
      gi_wp2
      refine wpIn_region_last rfl (by kernel_rfl) (by kernel_rfl) (by kernel_rfl) (by kernel_rfl) ?hQ ?_
      case hQ =>
        rintro ⟨a, w, h⟩
        rcases h.2 with ⟨h3, _⟩ | ⟨c, h3, _⟩
        · exact absurd h3 (by simp)
        · exact absurd h3 (by simp)
      simp only [List.dropLast, List.cons_append, List.nil_append, still]
      repeat (quiet_step (fail))
      refine wpQuiet_nil ?_
      intro w' hw'
      obtain ⟨⟨dd, os⟩, rfl⟩ := hw'
      have e75 : ∀ args w, (callFunc 10 args).run Try.prog w = .ok (.enter 10 args) w := enters_of Try.func10 (by kernel_rfl) rfl
      simp only [List.getLast]
      unfold Oper.wp
      simp [go_sem, e75]
      have kb2 : Keep (fun _ => False) V (grow (redrawn V dd) os) := Keep.ofBelow (below_regrown V dd os) (Nat.le_refl _)
      refine (HCl.out _ kb2).mono ?_
      rintro e V1 ⟨⟨ve, rfl⟩, h9, k9⟩
      have HG1 : Hid (GoI wR (fun i => B0 ≤ i ∧ i < Z) P (Q + 1) (n1 + (k + 1)) k V1) := h9
      have HSm : Hid (Same2 wR.heap.size V V1) := ((kb2.mono fun _ f => f.elim).more k9).same2 hlt (fun e => by
        rcases e with e | e
        · have := HSR.out _ e; omega
        · omega) (fun e => by
        rcases e with e | e
        · have := HSR.out _ e; omega
        · omega)
      have HSz : Hid (wR.heap.size + 2 ≤ V1.heap.size) := Nat.le_trans hlt (Nat.le_trans kb2.size k9.size)
      clear h9 k9 kb2 r0 r1 r2 r3 r4 r5 HCl HI uZ uW uA uX w0 w1 cn
      have kA : Keep (fun _ => False) V1 (V1.alloc (.cells #[.int .i64 0] 3)) := Keep.alloc _ _ _
      have HG0 := hide (HG1.out.new kA)
      have uA2 := (HU.out _ HG0.out.kp).2.2.1
      gi_wp2
      obtain ⟨V0, hV0⟩ : ∃ V0, V0 = V1.alloc (.cells #[.int .i64 0] 3) := ⟨_, rfl⟩
      rw [← hV0] at HG0 uA2 kA ⊢
      have bi : V0.heap[V1.heap.size]? = some (.cells #[.int .i64 0] 3 (0, 0)) := by rw [hV0]; exact heap_alloc_new _ _
      obtain ⟨Bi, hBi⟩ : ∃ Bi, Bi = V1.heap.size := ⟨_, rfl⟩
      rw [← hBi] at bi ⊢
      have hbi0 : Bi < V0.heap.size := (Array.getElem?_eq_some_iff.1 bi).1
      have HBi : Hid (wR.heap.size + 2 ≤ Bi ∧ Bi = V1.heap.size) := by
        have h := HSz.out
        exact ⟨by omega, hBi⟩
      have HR0 : Hid (V0.heap[wR.heap.size + 1]? = some (.loop lrec)) := kA.blk (HSm.out.2.trans HRc.out) fun f => f
      have HKA := hide kA
      have HII : Hid (InI V0 Bi 0 V0) := ⟨bi, Keep.refl _ _⟩
      have HUi : Hid (∀ V2 j, InI V0 Bi j V2 → Keep (fun i => (B0 ≤ i ∧ i < Z) ∨ i = Q + 1) wR V2) := fun V2 j h => HG0.out.kp.trans h.kp fun i e => .inr (by have h1 := HBi.out.1; have e' : i = Bi := e; omega)
      clear hV0 bi hBi kA uA2
      refine named_actIn fun A2 hA2 => ?_
      refine wp_range2NE (n := 3) (r₀ := lrec) HR0.out (gf := 42) (lb := #[.pointer (some ⟨Bv, 0, none⟩)]) (by rw [hA2]; rfl) (enters_of Try.func42 (by kernel_rfl) rfl) (encs := fun x : Nat × Int => #[.int .i64 (x.1 : Nat), .int .i64 x.2]) (fun _ => rfl)
        (fun pre2 V2 => InI V0 Bi pre2.length V2 ∧ pre2.length ≤ 7)
        (fun c pre2 V2 => c = 2 ∧ ∃ j, InI V0 Bi j V2)
        (fun pre2 x2 V2 => (∃ post2, s0.row = pre2 ++ x2 :: post2) ∧ InI V0 Bi pre2.length V2 ∧ pre2.length ≤ 7)
        (fun pre2 x2 b2 V2 => (∃ post2, s0.row = pre2 ++ x2 :: post2) ∧ b2 = { tmps := (((A2.tmps.setIfInBounds 76 (.int .i64 (x2.1 : Nat))).setIfInBounds 77 (.int .i64 x2.2)).setIfInBounds 15 (.int .i64 (x2.1 : Nat))).setIfInBounds 16 (.int .i64 x2.2), defers := [] } ∧ InI V0 Bi pre2.length V2 ∧ pre2.length ≤ 7)
        (fun xs V2 => xs = s0.row ∧ InI V0 Bi xs.length V2 ∧ xs.length ≤ 7)
        (fun V2 => ∃ j, InI V0 Bi j V2) ?jh0 ?jhY ?jhI ?jhIx ?jassign ?jbody ?jiter ?jhRE ?jhXE ?jhx ?jrest
      case jh0 => exact fun q => ⟨HII.out.new (Keep.alloc _ _ _), Nat.zero_le _⟩
      case jhY =>
        rintro pre2 x2 b2 V2 q ⟨e1, e2, e3, e4⟩
        exact ⟨e1, e2, e3.put hbi0 _, e4⟩
      case jhI =>
        rintro pre2 V2 q ⟨e3, e4⟩
        exact ⟨e3.put hbi0 _, e4⟩
      case jhIx =>
        rintro c pre2 V2 q ⟨e1, j, e3⟩
        exact ⟨e1, j, e3.put hbi0 _⟩
      case jassign => as_aux_lemma =>
        rintro lr pre2 x2 V2 K ⟨hp2, hI2, h7⟩ hlt2 hK
        subst hA2
        gi_wp2
        exact hK _ _ rfl ⟨hp2, rfl, hI2, h7⟩
      case jbody => as_aux_lemma =>
        rintro pre2 x2 b2 V2 ⟨⟨post2, hp2⟩, rfl, hI2, h7⟩ hlt2
        subst hA2
        simp only [List.setIfInBounds_toArray, List.set_cons_succ, List.set_cons_zero]
        have hxk2 : s0.row[pre2.length]? = some x2 := by rw [hp2]; simp
        obtain ⟨j, hjl⟩ : ∃ j, pre2.length = j := ⟨_, rfl⟩
        rw [hjl] at hxk2 hI2 h7
        have hjR : j < s0.row.length := (List.getElem?_eq_some_iff.1 hxk2).1
        have HJl := hide hjl
        clear hp2 hjl
        obtain ⟨m2, hm2⟩ : ∃ m2, m2 = j * 2 := ⟨_, rfl⟩
        obtain ⟨m3, hm3⟩ : ∃ m3, m3 = m2 + 1 := ⟨_, rfl⟩
        obtain ⟨vZ, vW, vA, vX, _, _, _, vP, _⟩ := HU.out V2 (HUi.out V2 j hI2)
        obtain ⟨p1, p2⟩ := pairs_at hxk2
        obtain ⟨gv, ov, eav, v0⟩ := vP.rd _ _ p1
        obtain ⟨gv', ov', eav', v1⟩ := vP.rd _ _ p2
        obtain ⟨rfl, rfl⟩ : gw = gv ∧ ow = ov := by injection eav with e; injection e with e1 e2; exact ⟨e1, e2⟩
        obtain ⟨rfl, rfl⟩ : gw = gv' ∧ ow = ov' := by injection eav' with e; injection e with e1 e2; exact ⟨e1, e2⟩
        rw [← hm2] at v0 v1
        rw [← hm3] at v1
        have cj := cell_blk hI2.nb 0 (v := .int .i64 (j : Nat)) rfl
        have ck := cell_blk (hI2.kp.blk HG0.out.nb (by have := HBi.out.1; show ¬ (Q + 1 = Bi); omega)) 0 (v := .int .i64 (k : Nat)) rfl
        have fj := frozen_blk hI2.nb 0
        have hmL := HM.out
        have hmjI : (2 : Int) * (j : Int) = (m2 : Int) := by omega
        have hmjI1 : (m2 : Int) + 1 = (m3 : Int) := by omega
        have hwmj : IntKind.i64.wrap (m2 : Int) = (m2 : Int) := wrapI (by omega)
        have hwmj1 : IntKind.i64.wrap (m3 : Int) = (m3 : Int) := wrapI (by omega)
        have hwj : IntKind.i64.wrap ((j : Int) + 1) = (j : Int) + 1 := by rw [IntKind.wrap_i64]; omega
        have hmjL : (m2 : Int) < (L : Int) := by omega
        have hmjL1 : (m3 : Int) < (L : Int) := by omega
        have HI2 := hide hI2
        have HM2 := hide (And.intro hm2 hm3)
        obtain ⟨z0, z1⟩ := x2
        simp only at v0 v1
        clear hm2 hm3 hmL eav eav' p1 p2 vP hI2 hxk2 hjR
        by_cases hj : k < j
        · have hj' : (k : Int) < (j : Int) := by omega
          gi_wp2
          exact ⟨_, HI2.out⟩
        · have hj' : ¬ (k : Int) < (j : Int) := by omega
          have HN2 := hide (HI2.out.inc)
          rw [show ((j + 1 : Nat) : Int) = (j : Int) + 1 by omega] at HN2
          gi_wp2
          have hkc := (keep_cell V2 Bi 0 (.int .i64 ((j : Int) + 1))).block V0.heap.size hlt2 (by show ¬ (V0.heap.size = Bi); omega)
          refine ⟨Option.some.inj (by rw [← Array.getElem?_eq_getElem, ← Array.getElem?_eq_getElem]; exact hkc), by rw [HJl.out]; exact HN2.out, by rw [HJl.out]; omega⟩
      case jiter =>
        intro L3 L3' hLs hR2 V2 hV hL3
        exact all1s (r := s0.row) (a := av) (c := cv) 3 V0.heap.size Bv _ _ L3 L3' hLs (fun pre V h => ⟨(HU.out V (HUi.out V _ h.1)).2.2.2.2.2.1, (HU.out V (HUi.out V _ h.1)).2.2.2.2.2.2.1⟩) (fun pre V V' h hk => ⟨h.1.new hk, h.2⟩) (fun pre x W1 hp hv hl => hR2 pre x W1 ⟨hp, hv⟩ hl) hR V2 hV hL3
      case jhRE =>
        rintro xs V2 ⟨e1, e2, e3⟩
        exact ⟨_, e2⟩
      case jhXE =>
        rintro c pre2 V2 ⟨_, j, e2⟩
        exact ⟨_, e2⟩
      case jhx =>
        rintro c pre2 V2 b2 V' ⟨rfl, _⟩ hQ'
        exact wpIn_exit (by simpa [Exit.inBlock] using hQ')
      case jrest => as_aux_lemma =>
        rintro V2 q ⟨j, hI2⟩ hlt2
        have hk3 := (HKA.out.trans hI2.kp fun i e => .inr (by have h1 := HBi.out.2; have e' : i = Bi := e; omega)).trans (keep_put V2 V0.heap.size (.loop q)) fun i e => .inr (by have h1 := HBi.out.2; have e' : i = V0.heap.size := e; omega)
        have HG3 := hide (HG1.out.new hk3)
        have HS3 : Hid (Same2 wR.heap.size V (V2.putObj V0.heap.size (.loop q))) := HSm.out.trans (hk3.same2 (by have := HSz.out; omega) (fun f => f) (fun f => f))
        generalize V2.putObj V0.heap.size (.loop q) = V3 at *
        have ck := cell_blk HG3.out.nb 0 (v := .int .i64 (k : Nat)) rfl
        have fk := frozen_blk HG3.out.nb 0
        have HG4 := hide (HG3.out.inc hQR HS1.out)
        rw [show ((k + 1 : Nat) : Int) = (k : Int) + 1 by omega] at HG4
        have hz3 := hk3.size
        have HS4 : Hid (Same2 wR.heap.size V (V3.setCell ⟨Q + 1, 0, none⟩ (.int .i64 ((k : Int) + 1)))) := HS3.out.trans ((keep_cell V3 (Q + 1) 0 _).same2 (by have := HG3.out.kp.size; have := HSz.out; omega) (by show ¬ (wR.heap.size = Q + 1); omega) (by show ¬ (wR.heap.size + 1 = Q + 1); omega))
        have hwk : IntKind.i64.wrap ((k : Int) + 1) = (k : Int) + 1 := by rw [IntKind.wrap_i64]; omega
        clear hI2 hk3
        subst hA2
        by_cases hk6 : 6 ≤ k
        · have hk6' : (6 : Int) < (k : Int) + 1 := by omega
          have hkk : pre.length + 1 = 7 := by rw [HKl.out]; omega
          have HKK := hide hkk
          clear hk6 hkk
          gi_wp2
          refine ⟨HS4.out, .inr ⟨_, rfl, rfl, ?_, ?_⟩⟩
          · rw [List.length_append, HKl.out]
            exact HG4.out
          · rw [List.length_append, HKl.out]
            show k + 1 = 7
            omega
        · have hk6' : ¬ (6 : Int) < (k : Int) + 1 := by omega
          gi_wp2
          exact ⟨HS4.out, by rw [HKl.out]; exact HG4.out, by rw [HKl.out]; omega⟩
    · have hk2' : ¬ (k : Int) < (n2 : Int) := by omega
      have HG1 : Hid (GoI wR (fun i => B0 ≤ i ∧ i < Z) P (Q + 1) (n1 + (k + 1)) k V) := HI.out.up (by omega)
      have HSm : Hid (Same2 wR.heap.size V V) := Same2.refl _ _
      have HSz : Hid (wR.heap.size + 2 ≤ V.heap.size) := hlt
      have kA : Keep (fun _ => False) V (V.alloc (.cells #[.int .i64 0] 3)) := Keep.alloc _ _ _
      have HG0 := hide (HG1.out.new kA)
      have uA2 := (HU.out _ HG0.out.kp).2.2.1
      gi_wp2
      obtain ⟨V0, hV0⟩ : ∃ V0, V0 = V.alloc (.cells #[.int .i64 0] 3) := ⟨_, rfl⟩
      rw [← hV0] at HG0 uA2 kA ⊢
      have bi : V0.heap[V.heap.size]? = some (.cells #[.int .i64 0] 3 (0, 0)) := by rw [hV0]; exact heap_alloc_new _ _
      obtain ⟨Bi, hBi⟩ : ∃ Bi, Bi = V.heap.size := ⟨_, rfl⟩
      rw [← hBi] at bi ⊢
      have hbi0 : Bi < V0.heap.size := (Array.getElem?_eq_some_iff.1 bi).1
      have HBi : Hid (wR.heap.size + 2 ≤ Bi ∧ Bi = V.heap.size) := by
        have h := HSz.out
        exact ⟨by omega, hBi⟩
      have HR0 : Hid (V0.heap[wR.heap.size + 1]? = some (.loop lrec)) := kA.blk (HSm.out.2.trans HRc.out) fun f => f
      have HKA := hide kA
      have HII : Hid (InI V0 Bi 0 V0) := ⟨bi, Keep.refl _ _⟩
      have HUi : Hid (∀ V2 j, InI V0 Bi j V2 → Keep (fun i => (B0 ≤ i ∧ i < Z) ∨ i = Q + 1) wR V2) := fun V2 j h => HG0.out.kp.trans h.kp fun i e => .inr (by have h1 := HBi.out.1; have e' : i = Bi := e; omega)
      clear hV0 bi hBi kA uA2
      refine named_actIn fun A2 hA2 => ?_
      refine wp_range2NE (n := 3) (r₀ := lrec) HR0.out (gf := 42) (lb := #[.pointer (some ⟨Bv, 0, none⟩)]) (by rw [hA2]; rfl) (enters_of Try.func42 (by kernel_rfl) rfl) (encs := fun x : Nat × Int => #[.int .i64 (x.1 : Nat), .int .i64 x.2]) (fun _ => rfl)
        (fun pre2 V2 => InI V0 Bi pre2.length V2 ∧ pre2.length ≤ 7)
        (fun c pre2 V2 => c = 2 ∧ ∃ j, InI V0 Bi j V2)
        (fun pre2 x2 V2 => (∃ post2, s0.row = pre2 ++ x2 :: post2) ∧ InI V0 Bi pre2.length V2 ∧ pre2.length ≤ 7)
        (fun pre2 x2 b2 V2 => (∃ post2, s0.row = pre2 ++ x2 :: post2) ∧ b2 = { tmps := (((A2.tmps.setIfInBounds 76 (.int .i64 (x2.1 : Nat))).setIfInBounds 77 (.int .i64 x2.2)).setIfInBounds 15 (.int .i64 (x2.1 : Nat))).setIfInBounds 16 (.int .i64 x2.2), defers := [] } ∧ InI V0 Bi pre2.length V2 ∧ pre2.length ≤ 7)
        (fun xs V2 => xs = s0.row ∧ InI V0 Bi xs.length V2 ∧ xs.length ≤ 7)
        (fun V2 => ∃ j, InI V0 Bi j V2) ?jh0 ?jhY ?jhI ?jhIx ?jassign ?jbody ?jiter ?jhRE ?jhXE ?jhx ?jrest
      case jh0 => exact fun q => ⟨HII.out.new (Keep.alloc _ _ _), Nat.zero_le _⟩
      case jhY =>
        rintro pre2 x2 b2 V2 q ⟨e1, e2, e3, e4⟩
        exact ⟨e1, e2, e3.put hbi0 _, e4⟩
      case jhI =>
        rintro pre2 V2 q ⟨e3, e4⟩
        exact ⟨e3.put hbi0 _, e4⟩
      case jhIx =>
        rintro c pre2 V2 q ⟨e1, j, e3⟩
        exact ⟨e1, j, e3.put hbi0 _⟩
      case jassign => as_aux_lemma =>
        rintro lr pre2 x2 V2 K ⟨hp2, hI2, h7⟩ hlt2 hK
        subst hA2
        gi_wp2
        exact hK _ _ rfl ⟨hp2, rfl, hI2, h7⟩
      case jbody => as_aux_lemma =>
        rintro pre2 x2 b2 V2 ⟨⟨post2, hp2⟩, rfl, hI2, h7⟩ hlt2
        subst hA2
        simp only [List.setIfInBounds_toArray, List.set_cons_succ, List.set_cons_zero]
        have hxk2 : s0.row[pre2.length]? = some x2 := by rw [hp2]; simp
        obtain ⟨j, hjl⟩ : ∃ j, pre2.length = j := ⟨_, rfl⟩
        rw [hjl] at hxk2 hI2 h7
        have hjR : j < s0.row.length := (List.getElem?_eq_some_iff.1 hxk2).1
        have HJl := hide hjl
        clear hp2 hjl
        obtain ⟨m2, hm2⟩ : ∃ m2, m2 = j * 2 := ⟨_, rfl⟩
        obtain ⟨m3, hm3⟩ : ∃ m3, m3 = m2 + 1 := ⟨_, rfl⟩
        obtain ⟨vZ, vW, vA, vX, _, _, _, vP, _⟩ := HU.out V2 (HUi.out V2 j hI2)
        obtain ⟨p1, p2⟩ := pairs_at hxk2
        obtain ⟨gv, ov, eav, v0⟩ := vP.rd _ _ p1
        obtain ⟨gv', ov', eav', v1⟩ := vP.rd _ _ p2
        obtain ⟨rfl, rfl⟩ : gw = gv ∧ ow = ov := by injection eav with e; injection e with e1 e2; exact ⟨e1, e2⟩
        obtain ⟨rfl, rfl⟩ : gw = gv' ∧ ow = ov' := by injection eav' with e; injection e with e1 e2; exact ⟨e1, e2⟩
        rw [← hm2] at v0 v1
        rw [← hm3] at v1
        have cj := cell_blk hI2.nb 0 (v := .int .i64 (j : Nat)) rfl
        have ck := cell_blk (hI2.kp.blk HG0.out.nb (by have := HBi.out.1; show ¬ (Q + 1 = Bi); omega)) 0 (v := .int .i64 (k : Nat)) rfl
        have fj := frozen_blk hI2.nb 0
        have hmL := HM.out
        have hmjI : (2 : Int) * (j : Int) = (m2 : Int) := by omega
        have hmjI1 : (m2 : Int) + 1 = (m3 : Int) := by omega
        have hwmj : IntKind.i64.wrap (m2 : Int) = (m2 : Int) := wrapI (by omega)
        have hwmj1 : IntKind.i64.wrap (m3 : Int) = (m3 : Int) := wrapI (by omega)
        have hwj : IntKind.i64.wrap ((j : Int) + 1) = (j : Int) + 1 := by rw [IntKind.wrap_i64]; omega
        have hmjL : (m2 : Int) < (L : Int) := by omega
        have hmjL1 : (m3 : Int) < (L : Int) := by omega
        have HI2 := hide hI2
        have HM2 := hide (And.intro hm2 hm3)
        obtain ⟨z0, z1⟩ := x2
        simp only at v0 v1
        clear hm2 hm3 hmL eav eav' p1 p2 vP hI2 hxk2 hjR
        by_cases hj : k < j
        · have hj' : (k : Int) < (j : Int) := by omega
          gi_wp2
          exact ⟨_, HI2.out⟩
        · have hj' : ¬ (k : Int) < (j : Int) := by omega
          have HN2 := hide (HI2.out.inc)
          rw [show ((j + 1 : Nat) : Int) = (j : Int) + 1 by omega] at HN2
          gi_wp2
          have hkc := (keep_cell V2 Bi 0 (.int .i64 ((j : Int) + 1))).block V0.heap.size hlt2 (by show ¬ (V0.heap.size = Bi); omega)
          refine ⟨Option.some.inj (by rw [← Array.getElem?_eq_getElem, ← Array.getElem?_eq_getElem]; exact hkc), by rw [HJl.out]; exact HN2.out, by rw [HJl.out]; omega⟩
      case jiter =>
        intro L3 L3' hLs hR2 V2 hV hL3
        exact all1s (r := s0.row) (a := av) (c := cv) 3 V0.heap.size Bv _ _ L3 L3' hLs (fun pre V h => ⟨(HU.out V (HUi.out V _ h.1)).2.2.2.2.2.1, (HU.out V (HUi.out V _ h.1)).2.2.2.2.2.2.1⟩) (fun pre V V' h hk => ⟨h.1.new hk, h.2⟩) (fun pre x W1 hp hv hl => hR2 pre x W1 ⟨hp, hv⟩ hl) hR V2 hV hL3
      case jhRE =>
        rintro xs V2 ⟨e1, e2, e3⟩
        exact ⟨_, e2⟩
      case jhXE =>
        rintro c pre2 V2 ⟨_, j, e2⟩
        exact ⟨_, e2⟩
      case jhx =>
        rintro c pre2 V2 b2 V' ⟨rfl, _⟩ hQ'
        exact wpIn_exit (by simpa [Exit.inBlock] using hQ')
      case jrest => as_aux_lemma =>
        rintro V2 q ⟨j, hI2⟩ hlt2
        have hk3 := (HKA.out.trans hI2.kp fun i e => .inr (by have h1 := HBi.out.2; have e' : i = Bi := e; omega)).trans (keep_put V2 V0.heap.size (.loop q)) fun i e => .inr (by have h1 := HBi.out.2; have e' : i = V0.heap.size := e; omega)
        have HG3 := hide (HG1.out.new hk3)
        have HS3 : Hid (Same2 wR.heap.size V (V2.putObj V0.heap.size (.loop q))) := HSm.out.trans (hk3.same2 (by have := HSz.out; omega) (fun f => f) (fun f => f))
        generalize V2.putObj V0.heap.size (.loop q) = V3 at *
        have ck := cell_blk HG3.out.nb 0 (v := .int .i64 (k : Nat)) rfl
        have fk := frozen_blk HG3.out.nb 0
        have HG4 := hide (HG3.out.inc hQR HS1.out)
        rw [show ((k + 1 : Nat) : Int) = (k : Int) + 1 by omega] at HG4
        have hz3 := hk3.size
        have HS4 : Hid (Same2 wR.heap.size V (V3.setCell ⟨Q + 1, 0, none⟩ (.int .i64 ((k : Int) + 1)))) := HS3.out.trans ((keep_cell V3 (Q + 1) 0 _).same2 (by have := HG3.out.kp.size; have := HSz.out; omega) (by show ¬ (wR.heap.size = Q + 1); omega) (by show ¬ (wR.heap.size + 1 = Q + 1); omega))
        have hwk : IntKind.i64.wrap ((k : Int) + 1) = (k : Int) + 1 := by rw [IntKind.wrap_i64]; omega
        clear hI2 hk3
        subst hA2
        by_cases hk6 : 6 ≤ k
        · have hk6' : (6 : Int) < (k : Int) + 1 := by omega
          have hkk : pre.length + 1 = 7 := by rw [HKl.out]; omega
          have HKK := hide hkk
          clear hk6 hkk
          gi_wp2
          refine ⟨HS4.out, .inr ⟨_, rfl, rfl, ?_, ?_⟩⟩
          · rw [List.length_append, HKl.out]
            exact HG4.out
          · rw [List.length_append, HKl.out]
            show k + 1 = 7
            omega
        · have hk6' : ¬ (6 : Int) < (k : Int) + 1 := by omega
          gi_wp2
          exact ⟨HS4.out, by rw [HKl.out]; exact HG4.out, by rw [HKl.out]; omega⟩
  case iter =>
    intro L L' hLs hR2 V hV hL
    exact all1s (r := s0.row) (a := av) (c := cv) 3 (wR.heap.size + 1) Bv _ _ L L' hLs (fun pre V h => ⟨(HU.out V h.1.kp).2.2.2.2.2.1, (HU.out V h.1.kp).2.2.2.2.2.2.1⟩) (fun pre V V' h hk => ⟨h.1.new hk, h.2⟩) (fun pre x W1 hp hv hl => hR2 pre x W1 ⟨hp, hv⟩ hl) hR V hV hL
  case hRE =>
    rintro xs V ⟨e1, e2, e3⟩
    exact ⟨xs.length, e2, by omega, .inr (by rw [e1])⟩
  case hXE =>
    rintro c pre V ⟨_, e2, e3⟩
    exact ⟨pre.length, e2, by omega, .inl e3⟩
  case hx =>
    rintro c pre V a V' ⟨rfl, _, _⟩ hQ'
    exact wpIn_exit (by simpa [Exit.inBlock] using hQ')
  case rest => as_aux_lemma =>
    rintro V q ⟨k, hI, hk7, hkR⟩ hlt hD
    have hput := keep_put V (wR.heap.size + 1) (.loop q)
    have HI3 := hide (hI.put hQR HSR.out (.loop q))
    have HD3 : Hid ((V.putObj (wR.heap.size + 1) (.loop q)).heap[wR.heap.size]? = some (.deferred (some []))) := hput.blk hD (by show ¬ (wR.heap.size = wR.heap.size + 1); omega)
    have HZ3' : Hid (wR.heap.size + 2 ≤ (V.putObj (wR.heap.size + 1) (.loop q)).heap.size) := Nat.le_trans hlt hput.size
    have HKR := hide hkR
    generalize V.putObj (wR.heap.size + 1) (.loop q) = V3 at *
    clear hI hD hput hlt hkR
    subst hA
    go_wp2_with fail
    go_loopw [17] (fun iv wx => ∃ i : Nat, iv = .int .i64 (i : Nat) ∧ i ≤ n2 ∧ Hid (GoI wR (fun i => B0 ≤ i ∧ i < Z) P (Q + 1) (n1 + k + i) k wx ∧ wx.heap[wR.heap.size]? = some (.deferred (some [])) ∧ wR.heap.size + 2 ≤ wx.heap.size)) (fun iv _ => n2 - (intOf iv).toNat)
    case atStart => exact ⟨0, rfl, Nat.zero_le _, HI3.out, HD3.out, HZ3'.out⟩
    case round =>
      clear HI3 HD3 HZ3'
      obtain ⟨i, rfl, hi, HJ⟩ := hrel
      obtain ⟨uZ, uW, uA, uX, _, _, _, _, uQ⟩ := HU.out wr HJ.out.1.kp
      rcases Nat.lt_or_ge i n2 with hil | hil
      · have hil' : (i : Int) < (n2 : Int) := by omega
        obtain ⟨y, hy⟩ : ∃ y, l2[i]? = some y := ⟨_, List.getElem?_eq_getElem (by rw [← HL2.out.len]; exact hil)⟩
        obtain ⟨g2, o2, ea2, hg2, y0, y1, y2⟩ := uQ.rd i y hy
        have hyi := HL2.out.inn y (List.mem_of_getElem? hy)
        subst ea2
        have HCl : Hid (∀ w', Keep (fun _ => False) wr w' → Calls Try.prog 10 #[.pointer (some ⟨P, 0, none⟩), .agg #[.int .i64 y.1, .int .i64 y.2.1, .int .i64 y.2.2]] w' fun e w2 => (∃ v, e = .returned v) ∧ GoI wR (fun i => B0 ≤ i ∧ i < Z) P (Q + 1) (n1 + k + i + 1) k w2 ∧ Keep (fun i => (B0 ≤ i ∧ i < Z) ∨ wR.heap.size + 2 ≤ i) w' w2) := fun w' kw => (HJ.out.1.new kw).stepped hQR HS1.out (Nat.le_trans HJ.out.2.2 kw.size) (by omega) y hyi
        obtain ⟨ya, yb, yc⟩ := y
        simp only at HCl y0 y1 y2
        clear hy hyi uW uA uQ
        go_upto_region 30 with fail
        have r0 := fun dd os => cell_regrown uZ dd os
        have r1 := fun dd os => cell_regrown uX dd os
        have r3 := fun dd os => cell_regrown y0 dd os
        have r4 := fun dd os => cell_regrown y1 dd os
        have r5 := fun dd os => cell_regrown y2 dd os
        refine wp_region_quiet_store rfl (by kernel_rfl) (by kernel_rfl) (by kernel_rfl) ?_
        simp only [List.dropLast, List.cons_append, List.nil_append, still]
        repeat (quiet_step (fail))
        refine wpQuiet_nil ?_
        intro w' hw'
        obtain ⟨⟨dd, os⟩, rfl⟩ := hw'
        have e75 : ∀ args w, (callFunc 10 args).run Try.prog w = .ok (.enter 10 args) w := enters_of Try.func10 (by kernel_rfl) rfl
        simp only [List.getLast]
        unfold Oper.wp
        simp [go_sem, e75]
        have kb2 : Keep (fun _ => False) wr (grow (redrawn wr dd) os) := Keep.ofBelow (below_regrown wr dd os) (Nat.le_refl _)
        refine (HCl.out _ kb2).mono ?_
        rintro e V4 ⟨⟨ve, rfl⟩, h9, k9⟩
        have HN : Hid (GoI wR (fun i => B0 ≤ i ∧ i < Z) P (Q + 1) (n1 + k + (i + 1)) k V4 ∧ V4.heap[wR.heap.size]? = some (.deferred (some [])) ∧ wR.heap.size + 2 ≤ V4.heap.size) := ⟨h9, k9.blk (kb2.blk HJ.out.2.1 fun f => f) (fun e => by
          rcases e with e | e
          · have := HSR.out _ e; omega
          · omega), Nat.le_trans HJ.out.2.2 (Nat.le_trans kb2.size k9.size)⟩
        clear h9 k9 HCl HJ kb2 r0 r1 r3 r4 r5 y0 y1 y2 uZ
        go_wp2_with fail
        go_roundw
        case rel => exact ⟨i + 1, by go_num, by omega, HN.out⟩
        case measure => simp [intOf]; omega
      · have hil' : ¬ (i : Int) < (n2 : Int) := by omega
        have kA : Keep (fun _ => False) wr (wr.alloc (.cells #[.slice none 0 0] 37)) := Keep.alloc _ _ _
        have HG0 := hide (HJ.out.1.new kA)
        have uA2 := (HU.out _ HG0.out.kp).2.2.1
        have HD0 := hide (kA.blk HJ.out.2.1 fun f => f)
        have HZ0 := hide HJ.out.2.2
        clear HJ uZ uW uA uQ
        go_wp2_with fail
        obtain ⟨wG, hwG⟩ : ∃ wG, wG = wr.alloc (.cells #[.slice none 0 0] 37) := ⟨_, rfl⟩
        rw [← hwG] at HG0 uA2 kA HD0 ⊢
        obtain ⟨Bg, hBg⟩ : ∃ Bg, Bg = wr.heap.size := ⟨_, rfl⟩
        have bg : wG.heap[Bg]? = some (.cells #[.slice none 0 0] 37 (0, 0)) := by rw [hwG, hBg]; exact heap_alloc_new _ _
        rw [← hBg]
        have hBg3 : Bg < wG.heap.size := (Array.getElem?_eq_some_iff.1 bg).1
        have HBg : Hid (wR.heap.size + 2 ≤ Bg) := by rw [hBg]; exact HZ0.out
        have BG := hide bg
        clear hwG hBg bg kA uA2 HZ0
        have HUg : Hid (∀ V2, Keep (fun i => i = Bg ∨ i = wG.heap.size + 1) wG V2 → Keep (fun i => (B0 ≤ i ∧ i < Z) ∨ i = Q + 1) wR V2) := fun V2 h => HG0.out.kp.trans h fun i e => .inr (by have h1 := HBg.out; have h2 : i = Bg ∨ i = wG.heap.size + 1 := e; omega)
        refine named_act fun A3 hA3 => ?_
        refine wpIn_wide.1 (wp_range1 (n := 3) (gf := 42) (lb := #[.pointer (some ⟨Bv, 0, none⟩)]) (by rw [hA3]; rfl) (enters_of Try.func42 (by kernel_rfl) rfl) (encs := fun x : Nat × Int => #[.int .i64 (x.1 : Nat), .int .i64 x.2]) (fun _ => rfl)
          (fun pre W => ∃ v, WhoI wG Bg pre v W) (fun pre x W => (∃ post, s0.row = pre ++ x :: post) ∧ ∃ v, WhoI wG Bg pre v W)
          (fun pre x b3 W => ∃ v, (∃ post, s0.row = pre ++ x :: post) ∧ b3 = { tmps := (((A3.tmps.setIfInBounds 117 (.int .i64 (x.1 : Nat))).setIfInBounds 118 (.int .i64 x.2)).setIfInBounds 19 (.int .i64 (x.1 : Nat))).setIfInBounds 20 (.int .i64 x.2), defers := [] } ∧ WhoI wG Bg pre v W)
          (fun xs W' => xs = s0.row ∧ ∃ v, WhoI wG Bg xs v W') ?k0 ?kY ?kI ?kassign ?kbody ?kiter ?kdone)
        case k0 => exact fun q => ⟨.slice none 0 0, WhoI.new ⟨BG.out, World.ownsRow_nil _ _ _ _, Keep.refl _ _⟩ ((Keep.alloc _ _ _).more (Keep.alloc _ _ _))⟩
        case kY =>
          rintro pre x b3 V2 q ⟨v, e1, e2, e3⟩
          exact ⟨v, e1, e2, e3.put hBg3 _⟩
        case kI =>
          rintro pre V2 q ⟨v, h⟩
          exact ⟨v, h.put hBg3 _⟩
        case kiter =>
          intro L3 hLs hLz hR2 V2 hV hL3
          exact all1I (r := s0.row) (a := av) (c := cv) 3 (wG.heap.size + 1) Bv wG.heap.size (fun pre W => ∃ v, WhoI wG Bg pre v W) L3 hLs hLz (fun pre W ⟨v, h⟩ => ⟨(HU.out W (HUg.out W (h.keep.mono fun _ e => .inl e))).2.2.2.2.2.1, (HU.out W (HUg.out W (h.keep.mono fun _ e => .inl e))).2.2.2.2.2.2.1⟩) (fun pre W W' ⟨v, h⟩ hk => ⟨v, h.new hk⟩) (fun pre x W1 hp hv hl => hR2 pre x W1 ⟨hp, hv⟩ hl) hR V2 hV hL3
        case kassign => as_aux_lemma =>
          rintro lr pre x V2 K ⟨hp, v, hA⟩ hlt hK
          subst hA3
          gi_wp2
          exact hK _ _ (Same2.refl _ _) ⟨v, hp, rfl, hA⟩
        case kbody => as_aux_lemma =>
          rintro lr pre x b3 V2 ⟨v, hp, rfl, hA⟩ hlt
          subst hA3
          simp only [List.setIfInBounds_toArray, List.set_cons_succ, List.set_cons_zero]
          obtain ⟨i0, hi, hz0, hz1, hz2⟩ := info_parts info_int
          have c6 := cell_blk hA.box 0 (v := v) rfl
          have HI := hide (And.intro hi (And.intro hz0 (And.intro hz1 hz2)))
          have H4 := hide hA
          have hpl : pre.length + 1 ≤ 65536 := by obtain ⟨post, hp⟩ := hp; have := congrArg List.length hp; simp at this; omega
          clear hA hi hz0 hz1 hz2
          gi_wp2_with (gi_at_builtin
                       refine wpListIn_append_own _ rfl _ _ 37 rfl (wG.heap.size + 2) 3 i0 (.int .i64 0) 1 8 Try.underlying37 HI.out.1 HI.out.2.1 HI.out.2.2.1 HI.out.2.2.2 rfl (by decide) v (pre.length * 2) (flat KI pre) rfl (H4.out.row.alloc _) ⟨V2.heap.size, 0, none⟩ 2 2 [.int .i64 (x.1 : Nat), .int .i64 x.2] rfl rfl (fun j u hu => two_new V2 _ _ _ j u hu) (by simp [Value.oneCell']) (by unfold maxLen; omega) (by omega) (by simp; omega) ?_
                       intro v' w5 hown' hgrow _
                       have k5 : Keep (fun k => wG.heap.size + 2 ≤ k) V2 w5 := (Keep.alloc _ _ _).more (Keep.grown hgrow fun k e => (H4.out.row.lt k e).1)
                       have hb5 := k5.blk H4.out.box (by show ¬ (wG.heap.size + 2 ≤ Bg); omega)
                       obtain ⟨a', c', rfl⟩ := ownsRow_shape hown'
                       have d6 := cell_blk hb5 0 (v := v) rfl
                       have d7 := frozen_blk hb5 0
                       have HO := hide hown'
                       have K5 := hide k5
                       have HB5 := hide hb5
                       clear hown' hgrow k5 hb5)
          have kb := keep_cell w5 Bg 0 (.slice a' (pre.length * 2 + 2) c')
          refine ⟨?_, _, ⟨set_blk HB5.out 0 _, ?_, (H4.out.keep.trans K5.out fun k e => .inr (by omega)).more kb⟩⟩
          · exact ((K5.out.mono (T := fun k => wG.heap.size + 2 ≤ k ∨ k = Bg) fun _ e => .inl e).more (kb.mono fun _ e => .inr e)).same2 hlt (by show ¬ (wG.heap.size + 2 ≤ wG.heap.size ∨ wG.heap.size = Bg); omega) (by show ¬ (wG.heap.size + 2 ≤ wG.heap.size + 1 ∨ wG.heap.size + 1 = Bg); omega)
          · have ho := ownsRow_far HO.out kb (fun k e1 e2 => by omega)
            rw [flat_append, List.length_append, Nat.add_mul]
            exact ho
        case kdone => as_aux_lemma =>
          rintro xs V2 q ⟨hx, v, hW⟩ hlt hK
          subst hx
          have hW' := hW.put hBg3 (.loop q)
          have hkp := (hW.keep.mono (T := fun i => i = Bg ∨ i = wG.heap.size + 1) fun _ e => .inl e).more ((keep_put V2 (wG.heap.size + 1) (.loop q)).mono fun _ e => .inr e)
          have HK' : Hid ((V2.putObj (wG.heap.size + 1) (.loop q)).heap[wG.heap.size]? = some (.deferred (some []))) := (World.putObj_heap_other (by omega)).trans hK
          have HD8 : Hid ((V2.putObj (wG.heap.size + 1) (.loop q)).heap[wR.heap.size]? = some (.deferred (some []))) := hkp.blk HD0.out (by have := HBg.out; have := lt_blk HD0.out; show ¬ (wR.heap.size = Bg ∨ wR.heap.size = wG.heap.size + 1); omega)
          have ck := cell_blk (hkp.blk HG0.out.nb (by have := HBg.out; have := lt_blk HG0.out.nb; show ¬ (Q + 1 = Bg ∨ Q + 1 = wG.heap.size + 1); omega)) 0 (v := .int .i64 (k : Nat)) rfl
          have HU8 := hide (HU.out _ (HUg.out _ hkp))
          have KP8 := hide (HUg.out _ hkp)
          obtain ⟨a', c', hv⟩ := ownsRow_shape hW'.row
          subst hv
          have HRa := hide (RdZ.ofOwns (z := pairs s0.row) (by rw [← flat_pairs]; exact hW'.row))
          have cg := cell_blk hW'.box 0 (v := .slice a' (s0.row.length * 2) c') rfl
          generalize V2.putObj (wG.heap.size + 1) (.loop q) = W8 at *
          have hp1 : 2 ≤ W8.heap.size := by have := lt_blk HK'.out; have := lt_blk HD8.out; have := HBg.out; omega
          obtain ⟨_, uW, _, _, uR, _, _, uP, _⟩ := HU8.out
          have HIn := hide (ints_same W8 HRa.out uP (by rw [pairs_length]; omega))
          have UR := hide uR
          obtain ⟨L, hL⟩ : ∃ L, s0.row.length * 2 = L := ⟨_, rfl⟩
          have hL2 : L ≤ 131072 := by omega
          have HLk : Hid (k = 7 ∨ k * 2 = L) := by
            rcases HKR.out with h | h
            · exact .inl h
            · exact .inr (by rw [h]; exact hL)
          have HFin : Hid (∀ W9, Keep (fun _ => False) W8 W9 → W9.heap[X + 1]? = some (.cells #[.bool false] 4 (0, 0)) ∧ (W9.setCell ⟨X + 1, 0, none⟩ (.bool true)).heap[wG.heap.size]? = some (.deferred (some [])) ∧ ((W9.setCell ⟨X + 1, 0, none⟩ (.bool true)).putObj wG.heap.size (.deferred none)).heap[wR.heap.size]? = some (.deferred (some [])) ∧
              (((W9.setCell ⟨X + 1, 0, none⟩ (.bool true)).putObj wG.heap.size (.deferred none)).putObj wR.heap.size (.deferred none)).cell? ⟨X + 1, 0, none⟩ = some (.bool true) ∧ RowKit.Below W.heap.size W (((W9.setCell ⟨X + 1, 0, none⟩ (.bool true)).putObj wG.heap.size (.deferred none)).putObj wR.heap.size (.deferred none))) := fun W9 k9 => by
            have h1 := H1.out
            have h6 := H6.out
            have hb := HBg.out
            have hxw := HXW.out
            have u9 := k9.blk uR fun f => f
            have kc := keep_cell W9 (X + 1) 0 (.bool true)
            have kg := keep_put (W9.setCell ⟨X + 1, 0, none⟩ (.bool true)) wG.heap.size (.deferred none)
            have kr := keep_put ((W9.setCell ⟨X + 1, 0, none⟩ (.bool true)).putObj wG.heap.size (.deferred none)) wR.heap.size (.deferred none)
            refine ⟨u9, kc.blk (k9.blk HK'.out fun f => f) (by show ¬ (wG.heap.size = X + 1); omega), kg.blk (kc.blk (k9.blk HD8.out fun f => f) (by show ¬ (wR.heap.size = X + 1); omega)) (by show ¬ (wR.heap.size = wG.heap.size); omega), ?_, ?_⟩
            · exact cell_blk (kr.blk (kg.blk (set_blk u9 0 (.bool true)) (by show ¬ (X + 1 = wG.heap.size); omega)) (by show ¬ (X + 1 = wR.heap.size); omega)) 0 rfl
            · have ka : Keep (fun i => W.heap.size ≤ i) W W8 := (KR.out.trans KP8.out fun i e => .inr (by
                have hz := KR.out.size
                rcases e with e | e <;> omega)).mono fun _ f => f.elim
              refine ((((ka.more (k9.mono fun _ f => f.elim)).more (kc.mono fun i e => ?_)).more (kg.mono fun i e => ?_)).more (kr.mono fun i e => ?_)).below (Nat.le_refl _) fun _ e => e
              · have e' : i = X + 1 := e; show W.heap.size ≤ i; omega
              · have e' : i = wG.heap.size := e; show W.heap.size ≤ i; omega
              · have e' : i = wR.heap.size := e; show W.heap.size ≤ i; omega
          rw [hL] at HIn uW cg
          clear hW hW' hkp hK uR uP HU8 HRa
          subst hA3
          rw [hL]
          by_cases h6 : 6 < k
          · have h6' : (6 : Int) < (k : Int) := by omega
            go_wp2_with (go_at_call 18; refine HIn.out.mono ?_; rintro e W9 ⟨rfl, k9⟩; have HF9 := hide (HFin.out W9 k9); have cr := cell_blk HF9.out.1 0 (v := .bool false) rfl; have fr := frozen_blk HF9.out.1 0; clear k9)
            refine ⟨by simp, .inl ⟨_, _, rfl, run_takeDeferred HF9.out.2.1, ?_⟩⟩
            refine ⟨by simp, .inl ⟨_, _, rfl, run_takeDeferred HF9.out.2.2.1, ?_⟩⟩
            exact ⟨_, res_bool rfl _ _ (X + 1) true rfl HF9.out.2.2.2.1, rfl, HF9.out.2.2.2.2⟩
          · have h6' : ¬ (6 : Int) < (k : Int) := by omega
            have h2k : (2 : Int) * (k : Int) = (L : Int) := by have := HLk.out; omega
            have hwL : IntKind.i64.wrap (L : Int) = (L : Int) := wrapI (by omega)
            go_wp2_with (go_at_call 18; refine HIn.out.mono ?_; rintro e W9 ⟨rfl, k9⟩; have HF9 := hide (HFin.out W9 k9); have cr := cell_blk HF9.out.1 0 (v := .bool false) rfl; have fr := frozen_blk HF9.out.1 0; clear k9)
            refine ⟨by simp, .inl ⟨_, _, rfl, run_takeDeferred HF9.out.2.1, ?_⟩⟩
            refine ⟨by simp, .inl ⟨_, _, rfl, run_takeDeferred HF9.out.2.2.1, ?_⟩⟩
            exact ⟨_, res_bool rfl _ _ (X + 1) true rfl HF9.out.2.2.2.1, rfl, HF9.out.2.2.2.2⟩
end Qu
end Go.Proofs.Ytobmnkoohgkiiaa
