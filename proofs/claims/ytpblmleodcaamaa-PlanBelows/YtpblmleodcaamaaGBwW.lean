/- PlanBelows: the walk. -/
import Derived.Test.YtpblmleodcaamaaGTrn
import Derived.Test.YtpblmleodcaamaaGObM
import Derived.Test.YtpblmleodcaamaaGBwM
import Derived.Test.YtpblmleodcaamaaGAwk
namespace Go.Proofs.Ytpblmleodcaamaa
namespace Gr
open Go.RowKit

set_option maxRecDepth 100000 in
set_option maxHeartbeats 40000000 in
theorem belows_walk (nd : Int) (nm : ByteArray) (dl : Int) (s : Option Addr × Nat × Nat) (xs : List No) (w : World) (hP : RdP w.heap.size w s xs) (hs : Sz nm xs) (hwt : ∀ x ∈ xs, x.q.nm.size ≤ 140737488351232) :
    Calls Try.prog 5 #[.agg #[.string nm, .int .i64 dl, .slice s.1 s.2.1 s.2.2], .int .i64 nd] w fun e w' => e = .returned (.bool true) ∧ Below w.heap.size w w' := by
  obtain ⟨a, n, c⟩ := s
  have HNX : Hid (xs.length = n) := hP.1.symm
  have KW := hide (Keep.alloc (fun _ => False) w (.cells #[.string nm, .int .i64 dl, .slice a n c] 24))
  have BW := hide (heap_alloc_new w (.cells #[.string nm, .int .i64 dl, .slice a n c] 24))
  have HP := hide (hP.new KW.out)
  have HSz := hide hs
  have HWT := hide hwt
  clear hP hs hwt
  go_enter Try.func5, Try.ntmps5
  go_wp2_with fail
  go_at_call 7
  refine (awake_any _).mono ?_
  rintro e w1 ⟨rfl, k1⟩
  generalize w.alloc (.cells #[.string nm, .int .i64 dl, .slice a n c] 24) = w0 at *
  have hs0 : w.heap.size ≤ w0.heap.size := KW.out.size
  have K1 := hide k1
  have HC0 : Hid (∀ W, Keep (fun _ => False) w0 W → W.cell? ⟨w.heap.size, 0, none⟩ = some (.string nm) ∧ W.cell? ⟨w.heap.size, 1, none⟩ = some (.int .i64 dl) ∧ W.cell? ⟨w.heap.size, 2, none⟩ = some (.slice a n c)) := fun W k => ⟨cell_blk (k.blk BW.out fun f => f) 0 rfl, cell_blk (k.blk BW.out fun f => f) 1 rfl, cell_blk (k.blk BW.out fun f => f) 2 rfl⟩
  obtain ⟨c0, c1, c2⟩ := HC0.out w1 k1
  have SM := hide (small_any nm dl _ _ _ _ (HP.out.new k1))
  clear k1
  go_wp2_with fail
  go_at_call 8
  refine SM.out.mono ?_
  rintro e w2 ⟨⟨b, rfl, hb⟩, k2⟩
  have K2 := hide (K1.out.more k2)
  have HB := hide hb
  clear k2 hb SM K1 c0 c1 c2
  obtain ⟨c0, c1, c2⟩ := HC0.out w2 K2.out
  cases b
  · go_wp2_with fail
    go_ret
    exact ⟨rfl, (KW.out.more K2.out).below (Nat.le_refl _) fun _ f => f.elim⟩
  have HES : Hid (xs.length + edges xs ≤ 20000) := HB.out rfl
  have hn : n ≤ 20000 := by have := HES.out; have := HNX.out; omega
  have hs2 : w.heap.size ≤ w2.heap.size := Nat.le_trans hs0 K2.out.size
  have LN := hide (lend_full nm dl _ _ _ w2 (HP.out.new K2.out) hs2 HES.out)
  clear HB
  go_wp2_with fail
  go_at_call 9
  refine LN.out.mono ?_
  rintro e w3 ⟨G, ys, v1, v2, rfl, hL, k3⟩
  obtain ⟨a1, d1, hv1⟩ := ownsRow_shape hL.o1
  obtain ⟨a2, d2, hv2⟩ := ownsRow_shape hL.o2
  subst hv1
  subst hv2
  have K4 := hide ((K2.out.more k3).more (Keep.alloc (fun _ => False) w3 (.cells #[.string nm, .int .i64 dl, .slice (some ⟨G, 0, none⟩) n (n + 3), .slice (some ⟨G, 0, none⟩) (n + 3) (n + 3), .slice a1 n d1, .slice a2 n d2] 29)))
  have B4 := hide (heap_alloc_new w3 (.cells #[.string nm, .int .i64 dl, .slice (some ⟨G, 0, none⟩) n (n + 3), .slice (some ⟨G, 0, none⟩) (n + 3) (n + 3), .slice a1 n d1, .slice a2 n d2] 29))
  have HL := hide (hL.new (Keep.alloc (fun _ => False) w3 (.cells #[.string nm, .int .i64 dl, .slice (some ⟨G, 0, none⟩) n (n + 3), .slice (some ⟨G, 0, none⟩) (n + 3) (n + 3), .slice a1 n d1, .slice a2 n d2] 29)))
  have HLW := hide ((hL.w HNX.out (edges_at HES.out)).new (Keep.alloc (fun _ => False) w3 (.cells #[.string nm, .int .i64 dl, .slice (some ⟨G, 0, none⟩) n (n + 3), .slice (some ⟨G, 0, none⟩) (n + 3) (n + 3), .slice a1 n d1, .slice a2 n d2] 29)))
  have HAL := hide (hL.alk HNX.out nm dl).alks
  have HYS : Hid (∀ y ∈ ys, y.q.nm.size ≤ 140737488351232) := fun y hy => by
    obtain ⟨k, hk⟩ := List.getElem?_of_mem hy
    have hkl : k < xs.length := by have := (List.getElem?_eq_some_iff.1 hk).1; rw [hL.len] at this; rw [HNX.out]; exact this
    rw [(HAL.out.2 k y _ hk (List.getElem?_eq_getElem hkl)).2.2.1]
    exact HWT.out _ (List.getElem_mem _)
  have hM3 : Hid (w2.heap.size ≤ w3.heap.size) := k3.size
  have hM4 : Hid (w3.heap.size < (w3.alloc (.cells #[.string nm, .int .i64 dl, .slice (some ⟨G, 0, none⟩) n (n + 3), .slice (some ⟨G, 0, none⟩) (n + 3) (n + 3), .slice a1 n d1, .slice a2 n d2] 29)).heap.size) := by show _ < _; simp
  clear hL k3 LN c0 c1 c2 HWT
  go_upto_region 6 with fail
  generalize w3.alloc (.cells #[.string nm, .int .i64 dl, .slice (some ⟨G, 0, none⟩) n (n + 3), .slice (some ⟨G, 0, none⟩) (n + 3) (n + 3), .slice a1 n d1, .slice a2 n d2] 29) = w4 at *
  generalize w3.heap.size = M at *
  have HRD : Hid (∀ W, Keep (fun _ => False) w4 W → RdP W.heap.size W (some ⟨G, 0, none⟩, n, n + 3) ys) := fun W k => by
    have h := HL.out.new k
    refine ⟨h.len.symm, by show n ≤ _; omega, .inr ⟨G, 0, rfl, h.rows.lt, fun i x hx => ?_⟩, fun y hy => ?_⟩
    · rw [Nat.zero_add]
      refine h.rows.node i x.q ?_
      rw [List.getElem?_append_left (by rw [List.length_map]; exact (List.getElem?_eq_some_iff.1 hx).1), List.getElem?_map, hx]
      rfl
    · obtain ⟨k, hk⟩ := List.getElem?_of_mem hy
      have hkl : k < xs.length := by have := (List.getElem?_eq_some_iff.1 hk).1; rw [h.len] at this; rw [HNX.out]; exact this
      have hx : xs[k]? = some (xs[k]'hkl) := List.getElem?_eq_getElem _
      have ht := h.lts k _ y hx hk
      have hbd := edges_at HES.out _ (List.mem_of_getElem? hx)
      obtain ⟨g1, e1, o1⟩ := ht.ne
      obtain ⟨g2, e2, o2⟩ := ht.af
      have r1 := o1.rd (n := xs[k].nl.length) (by rw [marked_len]; omega) (by rw [marked_len]; omega) (xs[k].nl.length + 20)
      have r2 := o2.rd (n := xs[k].al.length) (by rw [marked_len]; omega) (by rw [marked_len]; omega) (xs[k].al.length + 20)
      rw [marked_take] at r1 r2
      rw [e1, e2, ht.nl, ht.al]
      exact ⟨r1, r2⟩
  have HM : Hid (∀ W, Keep (fun _ => False) w4 W → (W.cell? ⟨M, 0, none⟩ = some (.string nm) ∧ W.cell? ⟨M, 1, none⟩ = some (.int .i64 dl) ∧ W.cell? ⟨M, 2, none⟩ = some (.slice (some ⟨G, 0, none⟩) n (n + 3)) ∧ W.cell? ⟨M, 3, none⟩ = some (.slice (some ⟨G, 0, none⟩) (n + 3) (n + 3)) ∧ W.cell? ⟨M, 4, none⟩ = some (.slice a1 n d1) ∧ W.cell? ⟨M, 5, none⟩ = some (.slice a2 n d2)) ∧ (W.cell? ⟨w.heap.size, 0, none⟩ = some (.string nm) ∧ W.cell? ⟨w.heap.size, 1, none⟩ = some (.int .i64 dl) ∧ W.cell? ⟨w.heap.size, 2, none⟩ = some (.slice a n c)) ∧ RdP w.heap.size W (a, n, c) xs ∧ Keep (fun _ => False) w W) := fun W k =>
    ⟨⟨cell_blk (k.blk B4.out (fun h => h)) 0 rfl, cell_blk (k.blk B4.out (fun h => h)) 1 rfl, cell_blk (k.blk B4.out (fun h => h)) 2 rfl, cell_blk (k.blk B4.out (fun h => h)) 3 rfl, cell_blk (k.blk B4.out (fun h => h)) 4 rfl, cell_blk (k.blk B4.out (fun h => h)) 5 rfl⟩, HC0.out W (K4.out.more k), HP.out.new (K4.out.more k), KW.out.more (K4.out.more k)⟩
  have HSY : Hid (Sz nm ys) := ⟨HSz.out.1, fun y hy => Nat.le_trans (HYS.out y hy) (by decide)⟩
  have hw4 : w.heap.size ≤ w4.heap.size := by have := hM3.out; have := hM4.out; omega
  have HLT0 : Hid (w.heap.size < w2.heap.size) := Nat.lt_of_lt_of_le (Array.getElem?_eq_some_iff.1 BW.out).1 K2.out.size
  have CK : Hid (∀ (ys' : List No) G' W, Alks ys' xs → RdP W.heap.size W (some ⟨G', 0, none⟩, n, n + 3) ys' → Calls Try.prog 18 #[.agg #[.string nm, .int .i64 dl, .slice (some ⟨G', 0, none⟩) n (n + 3)], .int .i64 nd] W (LsE (IsB nd nm dl xs) (belC nm dl xs nd) W)) := fun ys' G' W hA hR => ((below_ls nd nm dl (some ⟨G', 0, none⟩, n, n + 3) ys' W.heap.size W hR (Nat.le_refl _) (hA.sz HSz.out)).mono fun e w' ⟨l, a', c', h1, h2, h3, h4⟩ => ⟨l, a', c', by rw [h1, belC_alk (nm := nm) (dl := dl) (nd := nd) hA], h2, (IsB.alks hA).1 h3, h4⟩)
  have RC : Hid (∀ W, RdP w.heap.size W (a, n, c) xs → w.heap.size ≤ W.heap.size → Calls Try.prog 19 #[.agg #[.string nm, .int .i64 dl, .slice a n c], .int .i64 nd] W (LsE (IsB nd nm dl xs) (belC nm dl xs nd) W)) := fun W h1 h2 => refBelow_ls nd nm dl (a, n, c) xs w.heap.size W h1 h2 HSz.out
  have CT : Hid (∀ (zs : List No) W, Sz nm zs → RdP W.heap.size W (some ⟨G, 0, none⟩, n, n + 3) zs → Calls Try.prog 18 #[.agg #[.string nm, .int .i64 dl, .slice (some ⟨G, 0, none⟩) n (n + 3)], .int .i64 nd] W (LsE (IsB nd nm dl zs) (belC nm dl zs nd) W)) := fun zs W h1 h2 => below_ls nd nm dl (some ⟨G, 0, none⟩, n, n + 3) zs W.heap.size W h2 (Nat.le_refl _) h1
  have RT : Hid (∀ (zs : List No) W, Sz nm zs → RdP W.heap.size W (some ⟨G, 0, none⟩, n, n + 3) zs → Calls Try.prog 19 #[.agg #[.string nm, .int .i64 dl, .slice (some ⟨G, 0, none⟩) n (n + 3)], .int .i64 nd] W (LsE (IsB nd nm dl zs) (belC nm dl zs nd) W)) := fun zs W h1 h2 => refBelow_ls nd nm dl (some ⟨G, 0, none⟩, n, n + 3) zs W.heap.size W h2 (Nat.le_refl _) h1
  have UQ : Hid (∀ (zs : List No) l m, IsB nd nm dl zs l → IsB nd nm dl zs m → l = m) := fun zs l m h1 h2 => IsB.uniq h1 h2
  have LE : Hid (∀ (zs : List No) l, IsB nd nm dl zs l → l.length ≤ 64) := fun zs l h => IsB.len h
  have BK := hide (fun W k => back_any nm dl (a, n, c) xs w.heap.size W w2.heap.size G ys _ _ (HM.out W k).2.2.1 (HL.out.new k) HES.out)
  have LN2 := hide (fun W h1 h2 => lend_full nm dl (a, n, c) xs w.heap.size W h1 h2 HES.out)
  have C1 := hide (CK.out ys G w4 HAL.out (HRD.out w4 (Keep.refl _ _)))
  generalize (belC nm dl xs nd) = kx at *
  obtain ⟨⟨m0, m1, m2, m3, m4, m5⟩, ⟨c0, c1, c2⟩, hp, kf⟩ := HM.out w4 (Keep.refl _ _)
  clear hp kf c0 c1 c2 m3 m4 m5
  go_wp2_with fail
  go_at_call 18
  refine C1.out.mono ?_
  rintro e w5 ⟨la, aa, ca, rfl, oa, qa, k5⟩
  have RA := hide (Rw.of oa)
  have QA := hide qa
  have K5 := hide k5
  have BK5 := hide (BK.out w5 k5)
  clear m0 m1 m2 C1 BK oa qa
  obtain ⟨⟨m0, m1, m2, m3, m4, m5⟩, ⟨c0, c1, c2⟩, hp, kf⟩ := HM.out w5 k5
  clear hp kf k5
  go_wp2_with fail
  go_at_call 11
  refine BK5.out.mono ?_
  rintro e w6 ⟨rfl, k6⟩
  have RA6 := hide (RA.out.new k6)
  have hs56 : Hid (w5.heap.size ≤ w6.heap.size) := k6.size
  have hs45 : Hid (w4.heap.size ≤ w5.heap.size) := K5.out.size
  have K6 := hide (K5.out.more k6)
  have C2 := hide (CK.out ys G w6 HAL.out (HRD.out w6 K6.out))
  clear m0 m1 m2 m3 m4 m5 c0 c1 c2 BK5 K5 k6 RA
  obtain ⟨⟨m0, m1, m2, m3, m4, m5⟩, ⟨c0, c1, c2⟩, hp, kf⟩ := HM.out w6 K6.out
  clear hp kf m3 m4 m5 c0 c1 c2
  go_wp2_with fail
  go_at_call 18
  refine C2.out.mono ?_
  rintro e w7 ⟨lb, ab, cb, rfl, ob, qb, k7⟩
  have RB := hide (Rw.of ob)
  have QB := hide qb
  have RA7 := hide (RA6.out.new k7)
  have K7 := hide (K6.out.more k7)
  have hs67 : Hid (w6.heap.size ≤ w7.heap.size) := k7.size
  clear m0 m1 m2 C2 K6 k7 RA6 ob qb
  obtain ⟨⟨m0, m1, m2, m3, m4, m5⟩, ⟨c0, c1, c2⟩, hp, kf⟩ := HM.out w7 K7.out
  have C3 := hide (RC.out w7 hp (Nat.le_trans hw4 K7.out.size))
  clear hp kf m0 m1 m2 m3 m4 m5
  go_wp2_with fail
  go_at_call 19
  refine C3.out.mono ?_
  rintro e w8 ⟨lw, aw, cw, rfl, ow, qw, k8⟩
  obtain rfl : la = lw := UQ.out xs _ _ QA.out qw
  obtain rfl : lb = la := UQ.out xs _ _ QB.out qw
  have HLE : lb.length ≤ 64 := LE.out xs _ qw
  have RW8 := hide (Rw.of ow)
  have RA8 := hide (RA7.out.new k8)
  have RB8 := hide (RB.out.new k8)
  have K8 := hide (K7.out.more k8)
  have hs78 : Hid (w7.heap.size ≤ w8.heap.size) := k8.size
  have QW := hide qw
  clear c0 c1 c2 C3 K7 k8 RA7 RB ow qw QA QB
  have S1 := hide (same_ls RA8.out RW8.out HLE)
  have S2 := hide (fun W k => same_ls (RB8.out.new (W' := W) k) (RW8.out.new k) HLE)
  go_wp2_with fail
  go_at_call 16
  refine S1.out.mono ?_
  rintro e w9 ⟨rfl, k9⟩
  have K9 := hide (K8.out.more k9)
  have HS9 : Hid (w8.heap.size ≤ w9.heap.size) := k9.size
  have RA9 := hide (RA8.out.new k9)
  have RB9 := hide (RB8.out.new k9)
  have RW9 := hide (RW8.out.new k9)
  have S2' := hide (S2.out w9 k9)
  clear S1 S2 k9 K8 RA8 RB8 RW8
  go_wp2_with fail
  go_at_call 16
  refine S2'.out.mono ?_
  rintro e w10 ⟨rfl, k10⟩
  have K10 := hide (K9.out.more k10)
  have HS10 : Hid (w8.heap.size ≤ w10.heap.size) := by show _ ≤ _; have := k10.size; have := HS9.out; omega
  have RA10 := hide (RA9.out.new k10)
  have RB10 := hide (RB9.out.new k10)
  have RW10 := hide (RW9.out.new k10)
  clear S2' k10 K9 RA9 RB9 RW9
  obtain ⟨⟨m0, m1, m2, m3, m4, m5⟩, ⟨c0, c1, c2⟩, hp, kf⟩ := HM.out w10 K10.out
  have TN := hide (turn_any nm dl n G w2.heap.size M (ys.map (·.q)) _ _ w10 (HLW.out.new K10.out) (by have := (K10.out).size; have := hM4.out; omega) hn (fun q hq => by obtain ⟨y, hy, rfl⟩ := List.mem_map.1 hq; exact HYS.out y hy))
  clear hp kf c0 c1 c2
  go_wp2_with fail
  go_at_call 12
  refine TN.out.mono ?_

  clear m0 m1 m2 m3 m4 m5 TN
  rintro e w11 ⟨rfl, qs', hqs, hLT, kT⟩
  obtain ⟨zs, hzs, hZ⟩ := hLT.rd hn
  have HSZ : Hid (Sz nm zs) := ⟨HSz.out.1, fun y hy => Nat.le_trans (map_sz hzs hqs y hy) (by decide)⟩
  have KA := hide (HM.out w10 K10.out).2.2.2
  have HT : Hid (∀ W, Keep (fun _ => False) w11 W → (W.cell? ⟨M, 0, none⟩ = some (.string nm) ∧ W.cell? ⟨M, 1, none⟩ = some (.int .i64 dl) ∧ W.cell? ⟨M, 2, none⟩ = some (.slice (some ⟨G, 0, none⟩) n (n + 3))) ∧ (W.cell? ⟨w.heap.size, 0, none⟩ = some (.string nm) ∧ W.cell? ⟨w.heap.size, 1, none⟩ = some (.int .i64 dl) ∧ W.cell? ⟨w.heap.size, 2, none⟩ = some (.slice a n c)) ∧ RdP w.heap.size W (a, n, c) xs ∧ RdP W.heap.size W (some ⟨G, 0, none⟩, n, n + 3) zs ∧ Below w.heap.size w W ∧ w.heap.size ≤ W.heap.size) := fun W k => by
    obtain ⟨⟨m0, m1, m2, m3, m4, m5⟩, ⟨c0, c1, c2⟩, hp, kf⟩ := HM.out w10 K10.out
    have kM := kT.more (k.mono fun _ f => f.elim)
    have hMM : ¬ (w2.heap.size ≤ M ∧ M < M) := fun h => Nat.lt_irrefl _ h.2
    have hlt : w.heap.size < w2.heap.size := Nat.lt_of_lt_of_le (by rw [show w.heap.size = w.heap.size from rfl]; exact (Array.getElem?_eq_some_iff.1 BW.out).1) K2.out.size
    have hcc : ¬ (w2.heap.size ≤ w.heap.size ∧ w.heap.size < M) := fun h => by omega
    have hB : Below w.heap.size w W := ((kf.mono (T := fun i => w2.heap.size ≤ i ∧ i < M) fun _ f => f.elim).more kM).below (Nat.le_refl _) fun i h => by omega
    refine ⟨⟨kM.cell m0 hMM, kM.cell m1 hMM, kM.cell m2 hMM⟩, ⟨kM.cell c0 hcc, kM.cell c1 hcc, kM.cell c2 hcc⟩, hp.keep kM fun i h => by omega, (hZ.new k).mono k.size, hB, hB.size⟩
  have hlo : M ≤ w4.heap.size := by have := hM4.out; omega
  have RA11 := hide (RA10.out.far kT fun i h => by omega)
  have RB11 := hide (RB10.out.far kT fun i h => by have := hs45.out; have := hs56.out; omega)
  have RW11 := hide (RW10.out.far kT fun i h => by have := hs45.out; have := hs56.out; have := hs67.out; omega)
  have hs11 : Hid (w8.heap.size ≤ w11.heap.size) := by show _ ≤ _; have := kT.size; have := HS10.out; omega
  have C4 := hide (CT.out zs w11 HSZ.out (HT.out w11 (Keep.refl _ _)).2.2.2.1)
  have C5 := hide (fun W k => RT.out zs W HSZ.out (HT.out W k).2.2.2.1)
  have UQZ := hide (UQ.out zs)
  have LEZ := hide (LE.out zs)
  clear hqs hLT kT hzs hZ HSZ KA HRD HM CT RT HLW HL HYS HSY HAL HC0 HP B4 K4 K10 RA10 RB10 RW10 HS10
  obtain ⟨⟨m0, m1, m2⟩, _, _, _, _, _⟩ := HT.out w11 (Keep.refl _ _)
  generalize (belC nm dl zs nd) = kz at *
  go_wp2_with fail
  go_at_call 18
  refine C4.out.mono ?_
  rintro e w12 ⟨lc, ac, cc, rfl, oc, qc, k12⟩
  have RC12 := hide (Rw.of oc)
  have QC := hide qc
  have K12 := hide k12
  have C5' := hide (C5.out w12 k12)
  have RA12 := hide (RA11.out.new k12)
  have RB12 := hide (RB11.out.new k12)
  have RW12 := hide (RW11.out.new k12)
  clear m0 m1 m2 C4 C5 oc qc RA11 RB11 RW11
  obtain ⟨⟨m0, m1, m2⟩, _⟩ := HT.out w12 k12
  clear k12
  go_wp2_with fail
  go_at_call 19
  refine C5'.out.mono ?_
  rintro e w13 ⟨lt, at_, ct, rfl, ot, qt, k13⟩
  obtain rfl : lc = lt := UQZ.out _ _ QC.out qt
  have HLC : lc.length ≤ 64 := LEZ.out _ qt
  have RT13 := hide (Rw.of ot)
  have RC13 := hide (RC12.out.new k13)
  have RA13 := hide (RA12.out.new k13)
  have RB13 := hide (RB12.out.new k13)
  have RW13 := hide (RW12.out.new k13)
  have K13 := hide (K12.out.more k13)
  clear m0 m1 m2 C5' ot qt QC K12 k13 RC12 RA12 RB12 RW12
  have S3 := hide (same_ls RC13.out RT13.out HLC)
  have S4 := hide (fun W k => same_ls (RA13.out.new (W' := W) k) (RW13.out.new k) HLE)
  have S5 := hide (fun W k => same_ls (RB13.out.new (W' := W) k) (RW13.out.new k) HLE)
  go_wp2_with fail
  go_at_call 16
  refine S3.out.mono ?_
  rintro e w14 ⟨rfl, k14⟩
  have K14 := hide k14
  have S4' := hide (S4.out w14 k14)
  clear S3 S4 k14
  go_wp2_with fail
  go_at_call 16
  refine S4'.out.mono ?_
  rintro e w15 ⟨rfl, k15⟩
  have K15 := hide (K14.out.more k15)
  have S5' := hide (S5.out w15 K15.out)
  clear S4' S5 k15 K14
  go_wp2_with fail
  go_at_call 16
  refine S5'.out.mono ?_
  rintro e w16 ⟨rfl, k16⟩
  have K16 := hide (K15.out.more k16)
  have RA16 := hide (RA13.out.new K16.out)
  have RB16 := hide (RB13.out.new K16.out)
  have RC16 := hide (RC13.out.new K16.out)
  have RW16 := hide (RW13.out.new K16.out)
  have KT16 := hide (K13.out.more K16.out)
  have OW := hide (owned_ls RA16.out RB16.out RC16.out hs56.out (Nat.le_trans hs78.out hs11.out) hs67.out HLE HLE HLC)
  clear S5' k16 K15 K16 RA13 RB13 RC13 RW13 RT13
  go_wp2_with fail
  go_at_call 17
  refine OW.out.mono ?_
  rintro e w17 ⟨rfl, k17⟩
  obtain ⟨_, ⟨c0, c1, c2⟩, hp, _, hbel, hsz⟩ := HT.out w16 KT16.out
  have hlt0 : w.heap.size < w4.heap.size := by have := hM3.out; have := hM4.out; have := HLT0.out; omega
  have hno : ∀ i, (w4.heap.size ≤ i ∧ i < w5.heap.size) ∨ (w6.heap.size ≤ i ∧ i < w7.heap.size) ∨ (w11.heap.size ≤ i ∧ i < w12.heap.size) → w4.heap.size ≤ i := fun i h => by have := hs45.out; have := hs56.out; have := hs67.out; have := hs78.out; have := hs11.out; omega
  have d0 := k17.cell c0 fun h => by have := hno _ h; simp at this; omega
  have d1 := k17.cell c1 fun h => by have := hno _ h; simp at this; omega
  have d2 := k17.cell c2 fun h => by have := hno _ h; simp at this; omega
  have hp17 := hp.keep k17 fun i h => by have := hno i h; omega
  have RW17 := hide (RW16.out.far k17 fun i h => by have := hs56.out; have := hs67.out; have := hs78.out; have := hs11.out; omega)
  have hbel17 : Hid (Below w.heap.size w w17) := (Keep.ofBelow (S := fun i => w.heap.size ≤ i) hbel (Nat.le_refl _)).more (k17.mono fun i h => by have := hno i h; omega) |>.below (Nat.le_refl _) fun i h => h
  have L17 := hide (LN2.out w17 hp17 hbel17.out.size)
  clear c0 c1 c2 hp hbel hsz k17 hp17 OW RA16 RB16 RC16 RW16 KT16 HT LN2 UQZ LEZ hno
  go_wp2_with fail
  go_at_call 9
  refine L17.out.mono ?_
  rintro e w18 ⟨G', ys', v1', v2', rfl, hL', k18⟩
  have hAL' := (hL'.alk HNX.out nm dl).alks
  have C6 := hide (CK.out ys' G' w18 hAL' (hL'.rdp HNX.out HES.out))
  have RW18 := hide (RW17.out.new k18)
  have B18 := hide ((Keep.ofBelow (S := fun i => w.heap.size ≤ i) hbel17.out (Nat.le_refl _)).more (k18.mono fun i f => f.elim))
  obtain ⟨a1', d1', hv1'⟩ := ownsRow_shape hL'.o1
  obtain ⟨a2', d2', hv2'⟩ := ownsRow_shape hL'.o2
  subst hv1'
  subst hv2'
  have hfd : ∀ W : World, (Instr.field 29 (.agg #[.string nm, .int .i64 dl, .slice (some ⟨G', 0, none⟩) n (n + 3), .slice (some ⟨G', 0, none⟩) (n + 3) (n + 3), .slice a1' n d1', .slice a2' n d2']) 0).run Try.prog W = .ok (.agg #[.string nm, .int .i64 dl, .slice (some ⟨G', 0, none⟩) n (n + 3)]) W := fun _ => by kernel_rfl
  clear hL' hAL' k18 L17 RW17 hbel17 d0 d1 d2
  go_wp2_with fail
  go_at_call 18
  refine C6.out.mono ?_
  rintro e w19 ⟨ld, ad, cd, rfl, od, qd, k19⟩
  obtain rfl : lb = ld := UQ.out xs _ _ QW.out qd
  have RD := hide (Rw.of od)
  have S6 := hide (same_ls RD.out (RW18.out.new k19) HLE)
  have B19 := hide (B18.out.more (k19.mono fun i f => f.elim))
  clear od qd k19 C6 RW18 B18
  go_wp2_with fail
  go_at_call 16
  refine S6.out.mono ?_
  rintro e w20 ⟨rfl, k20⟩
  have B20 := hide ((B19.out.more (k20.mono fun i f => f.elim)).below (Nat.le_refl _) fun i h => h)
  clear S6 k20 B19
  go_wp2_with fail
  go_ret
  exact ⟨rfl, B20.out⟩
end Gr
end Go.Proofs.Ytpblmleodcaamaa
