/- PlanChecks: the walk. -/
import Derived.Test.YtpblmleodcaamaaGTrn
import Derived.Test.YtpblmleodcaamaaGChM
import Derived.Test.YtpblmleodcaamaaGAwk
namespace Go.Proofs.Ytpblmleodcaamaa
namespace Gr
open Go.RowKit

set_option maxRecDepth 100000 in
set_option maxHeartbeats 20000000 in
theorem checks_walk (nm : ByteArray) (dl : Int) (s : Option Addr × Nat × Nat) (xs : List No) (w : World) (hP : RdP w.heap.size w s xs) (hs : Sz nm xs) (hwt : ∀ x ∈ xs, x.q.nm.size ≤ 140737488351232) :
    Calls Try.prog 3 #[.agg #[.string nm, .int .i64 dl, .slice s.1 s.2.1 s.2.2]] w fun e w' => e = .returned (.bool true) ∧ Below w.heap.size w w' := by
  obtain ⟨a, n, c⟩ := s
  have HNX : Hid (xs.length = n) := hP.1.symm
  have KW := hide (Keep.alloc (fun _ => False) w (.cells #[.string nm, .int .i64 dl, .slice a n c] 24))
  have BW := hide (heap_alloc_new w (.cells #[.string nm, .int .i64 dl, .slice a n c] 24))
  have HP := hide (hP.new KW.out)
  have HSz := hide hs
  have HWT := hide hwt
  clear hP hs hwt
  go_enter Try.func3, Try.ntmps3
  go_wp2_with fail
  go_at_call 7
  refine (awake_any _).mono ?_
  rintro e w1 ⟨rfl, k1⟩
  generalize w.alloc (.cells #[.string nm, .int .i64 dl, .slice a n c] 24) = w0 at *
  have hs0 : w.heap.size ≤ w0.heap.size := KW.out.size
  have K1 := hide k1
  have HC0 : Hid (∀ W, Keep (fun _ => False) w0 W → W.cell? ⟨w.heap.size, 0, none⟩ = some (.string nm) ∧ W.cell? ⟨w.heap.size, 1, none⟩ = some (.int .i64 dl) ∧ W.cell? ⟨w.heap.size, 2, none⟩ = some (.slice a n c)) := fun W k => ⟨cell_blk (k.blk BW.out fun f => f) 0 rfl, cell_blk (k.blk BW.out fun f => f) 1 rfl, cell_blk (k.blk BW.out fun f => f) 2 rfl⟩
  obtain ⟨c0, c1, c2⟩ := HC0.out w1 k1
  have SM := hide (small_any nm dl _ _ _ _ (HP.out.new k1))
  clear k1
  go_wp2_with fail
  go_at_call 8
  refine SM.out.mono ?_
  rintro e w2 ⟨⟨b, rfl, hb⟩, k2⟩
  have K2 := hide (K1.out.more k2)
  have HB := hide hb
  clear k2 hb SM K1 c0 c1 c2
  obtain ⟨c0, c1, c2⟩ := HC0.out w2 K2.out
  cases b
  · go_wp2_with fail
    go_ret
    exact ⟨rfl, (KW.out.more K2.out).below (Nat.le_refl _) fun _ f => f.elim⟩
  have HES : Hid (xs.length + edges xs ≤ 20000) := HB.out rfl
  have hn : n ≤ 20000 := by have := HES.out; have := HNX.out; omega
  have hs2 : w.heap.size ≤ w2.heap.size := Nat.le_trans hs0 K2.out.size
  have LN := hide (lend_full nm dl _ _ _ w2 (HP.out.new K2.out) hs2 HES.out)
  clear HB
  go_wp2_with fail
  go_at_call 9
  refine LN.out.mono ?_
  rintro e w3 ⟨G, ys, v1, v2, rfl, hL, k3⟩
  obtain ⟨a1, d1, hv1⟩ := ownsRow_shape hL.o1
  obtain ⟨a2, d2, hv2⟩ := ownsRow_shape hL.o2
  subst hv1
  subst hv2
  have K4 := hide ((K2.out.more k3).more (Keep.alloc (fun _ => False) w3 (.cells #[.string nm, .int .i64 dl, .slice (some ⟨G, 0, none⟩) n (n + 3), .slice (some ⟨G, 0, none⟩) (n + 3) (n + 3), .slice a1 n d1, .slice a2 n d2] 29)))
  have B4 := hide (heap_alloc_new w3 (.cells #[.string nm, .int .i64 dl, .slice (some ⟨G, 0, none⟩) n (n + 3), .slice (some ⟨G, 0, none⟩) (n + 3) (n + 3), .slice a1 n d1, .slice a2 n d2] 29))
  have HL := hide (hL.new (Keep.alloc (fun _ => False) w3 (.cells #[.string nm, .int .i64 dl, .slice (some ⟨G, 0, none⟩) n (n + 3), .slice (some ⟨G, 0, none⟩) (n + 3) (n + 3), .slice a1 n d1, .slice a2 n d2] 29)))
  have HLW := hide ((hL.w HNX.out (edges_at HES.out)).new (Keep.alloc (fun _ => False) w3 (.cells #[.string nm, .int .i64 dl, .slice (some ⟨G, 0, none⟩) n (n + 3), .slice (some ⟨G, 0, none⟩) (n + 3) (n + 3), .slice a1 n d1, .slice a2 n d2] 29)))
  have HAL := hide (hL.alk HNX.out nm dl).alks
  have HYS : Hid (∀ y ∈ ys, y.q.nm.size ≤ 140737488351232) := fun y hy => by
    obtain ⟨k, hk⟩ := List.getElem?_of_mem hy
    have hkl : k < xs.length := by have := (List.getElem?_eq_some_iff.1 hk).1; rw [hL.len] at this; rw [HNX.out]; exact this
    rw [(HAL.out.2 k y _ hk (List.getElem?_eq_getElem hkl)).2.2.1]
    exact HWT.out _ (List.getElem_mem _)
  have hM3 : Hid (w2.heap.size ≤ w3.heap.size) := k3.size
  have hM4 : Hid (w3.heap.size < (w3.alloc (.cells #[.string nm, .int .i64 dl, .slice (some ⟨G, 0, none⟩) n (n + 3), .slice (some ⟨G, 0, none⟩) (n + 3) (n + 3), .slice a1 n d1, .slice a2 n d2] 29)).heap.size) := by show _ < _; simp
  clear hL k3 LN c0 c1 c2 HWT
  go_upto_region 6 with fail
  generalize w3.alloc (.cells #[.string nm, .int .i64 dl, .slice (some ⟨G, 0, none⟩) n (n + 3), .slice (some ⟨G, 0, none⟩) (n + 3) (n + 3), .slice a1 n d1, .slice a2 n d2] 29) = w4 at *
  generalize w3.heap.size = M at *
  have HRD : Hid (∀ W, Keep (fun _ => False) w4 W → RdP W.heap.size W (some ⟨G, 0, none⟩, n, n + 3) ys) := fun W k => by
    have h := HL.out.new k
    refine ⟨h.len.symm, by show n ≤ _; omega, .inr ⟨G, 0, rfl, h.rows.lt, fun i x hx => ?_⟩, fun y hy => ?_⟩
    · rw [Nat.zero_add]
      refine h.rows.node i x.q ?_
      rw [List.getElem?_append_left (by rw [List.length_map]; exact (List.getElem?_eq_some_iff.1 hx).1), List.getElem?_map, hx]
      rfl
    · obtain ⟨k, hk⟩ := List.getElem?_of_mem hy
      have hkl : k < xs.length := by have := (List.getElem?_eq_some_iff.1 hk).1; rw [h.len] at this; rw [HNX.out]; exact this
      have hx : xs[k]? = some (xs[k]'hkl) := List.getElem?_eq_getElem _
      have ht := h.lts k _ y hx hk
      have hbd := edges_at HES.out _ (List.mem_of_getElem? hx)
      obtain ⟨g1, e1, o1⟩ := ht.ne
      obtain ⟨g2, e2, o2⟩ := ht.af
      have r1 := o1.rd (n := xs[k].nl.length) (by rw [marked_len]; omega) (by rw [marked_len]; omega) (xs[k].nl.length + 20)
      have r2 := o2.rd (n := xs[k].al.length) (by rw [marked_len]; omega) (by rw [marked_len]; omega) (xs[k].al.length + 20)
      rw [marked_take] at r1 r2
      rw [e1, e2, ht.nl, ht.al]
      exact ⟨r1, r2⟩
  have HM : Hid (∀ W, Keep (fun _ => False) w4 W → (W.cell? ⟨M, 0, none⟩ = some (.string nm) ∧ W.cell? ⟨M, 1, none⟩ = some (.int .i64 dl) ∧ W.cell? ⟨M, 2, none⟩ = some (.slice (some ⟨G, 0, none⟩) n (n + 3)) ∧ W.cell? ⟨M, 3, none⟩ = some (.slice (some ⟨G, 0, none⟩) (n + 3) (n + 3)) ∧ W.cell? ⟨M, 4, none⟩ = some (.slice a1 n d1) ∧ W.cell? ⟨M, 5, none⟩ = some (.slice a2 n d2)) ∧ (W.cell? ⟨w.heap.size, 0, none⟩ = some (.string nm) ∧ W.cell? ⟨w.heap.size, 1, none⟩ = some (.int .i64 dl) ∧ W.cell? ⟨w.heap.size, 2, none⟩ = some (.slice a n c)) ∧ RdP w.heap.size W (a, n, c) xs ∧ Keep (fun _ => False) w W) := fun W k =>
    ⟨⟨cell_blk (k.blk B4.out (fun h => h)) 0 rfl, cell_blk (k.blk B4.out (fun h => h)) 1 rfl, cell_blk (k.blk B4.out (fun h => h)) 2 rfl, cell_blk (k.blk B4.out (fun h => h)) 3 rfl, cell_blk (k.blk B4.out (fun h => h)) 4 rfl, cell_blk (k.blk B4.out (fun h => h)) 5 rfl⟩, HC0.out W (K4.out.more k), HP.out.new (K4.out.more k), KW.out.more (K4.out.more k)⟩
  have HSY : Hid (Sz nm ys) := ⟨HSz.out.1, fun y hy => Nat.le_trans (HYS.out y hy) (by decide)⟩
  have hw4 : w.heap.size ≤ w4.heap.size := by have := hM3.out; have := hM4.out; omega
  obtain ⟨⟨m0, m1, m2, m3, m4, m5⟩, ⟨c0, c1, c2⟩, hp, kf⟩ := HM.out w4 (Keep.refl _ _)
  have CK := hide (fun W k => check_any nm dl _ _ _ W (HRD.out W k) (Nat.le_refl _) HSY.out)
  rw [← chk_alk (nm := nm) (dl := dl) HAL.out] at CK
  have BK := hide (fun W k => back_any nm dl (a, n, c) xs w.heap.size W w2.heap.size G ys _ _ (HM.out W k).2.2.1 (HL.out.new k) HES.out)
  have C1 := hide (CK.out w4 (Keep.refl _ _))
  have RC := hide (fun B W h1 h2 => refCheck_any nm dl (a, n, c) xs B W h1 h2 HSz.out)
  generalize chk nm dl xs = R at *
  obtain ⟨r1, r2⟩ := R
  clear hp kf c0 c1 c2 m3 m4 m5
  go_wp2_with fail
  go_at_call 10
  refine C1.out.mono ?_
  rintro e w5 ⟨rfl, k5⟩
  have K5 := hide k5
  have BK5 := hide (BK.out w5 k5)
  clear m0 m1 m2 C1 BK
  obtain ⟨⟨m0, m1, m2, m3, m4, m5⟩, ⟨c0, c1, c2⟩, hp, kf⟩ := HM.out w5 k5
  clear hp kf k5
  go_wp2_with fail
  go_at_call 11
  refine BK5.out.mono ?_
  rintro e w6 ⟨rfl, k6⟩
  have K6 := hide (K5.out.more k6)
  have C2 := hide (CK.out w6 K6.out)
  clear m0 m1 m2 m3 m4 m5 c0 c1 c2 BK5 K5 k6
  obtain ⟨⟨m0, m1, m2, m3, m4, m5⟩, ⟨c0, c1, c2⟩, hp, kf⟩ := HM.out w6 K6.out
  clear hp kf m3 m4 m5 c0 c1 c2
  go_wp2_with fail
  go_at_call 10
  refine C2.out.mono ?_
  rintro e w7 ⟨rfl, k7⟩
  have K7 := hide (K6.out.more k7)
  clear m0 m1 m2 C2 K6 k7 CK
  obtain ⟨⟨m0, m1, m2, m3, m4, m5⟩, ⟨c0, c1, c2⟩, hp, kf⟩ := HM.out w7 K7.out
  have TN := hide (turn_any nm dl n G w2.heap.size M (ys.map (·.q)) _ _ w7 (HLW.out.new K7.out) (by have := (K7.out).size; have := hM4.out; omega) hn (fun q hq => by obtain ⟨y, hy, rfl⟩ := List.mem_map.1 hq; exact HYS.out y hy))
  clear hp kf c0 c1 c2
  go_wp2_with fail
  go_at_call 12
  refine TN.out.mono ?_
  clear m0 m1 m2 m3 m4 m5 TN
  rintro e w8 ⟨rfl, qs', hqs, hLT, kT⟩
  obtain ⟨zs, hzs, hZ⟩ := hLT.rd hn
  have HSZ : Hid (Sz nm zs) := ⟨HSz.out.1, fun y hy => Nat.le_trans (map_sz hzs hqs y hy) (by decide)⟩
  have KA := hide (HM.out w7 K7.out).2.2.2
  have HT : Hid (∀ W, Keep (fun _ => False) w8 W → (W.cell? ⟨M, 0, none⟩ = some (.string nm) ∧ W.cell? ⟨M, 1, none⟩ = some (.int .i64 dl) ∧ W.cell? ⟨M, 2, none⟩ = some (.slice (some ⟨G, 0, none⟩) n (n + 3))) ∧ (W.cell? ⟨w.heap.size, 0, none⟩ = some (.string nm) ∧ W.cell? ⟨w.heap.size, 1, none⟩ = some (.int .i64 dl) ∧ W.cell? ⟨w.heap.size, 2, none⟩ = some (.slice a n c)) ∧ RdP w.heap.size W (a, n, c) xs ∧ RdP W.heap.size W (some ⟨G, 0, none⟩, n, n + 3) zs ∧ Below w.heap.size w W ∧ w.heap.size ≤ W.heap.size) := fun W k => by
    obtain ⟨⟨m0, m1, m2, m3, m4, m5⟩, ⟨c0, c1, c2⟩, hp, kf⟩ := HM.out w7 K7.out
    have kM := kT.more (k.mono fun _ f => f.elim)
    have hMM : ¬ (w2.heap.size ≤ M ∧ M < M) := fun h => Nat.lt_irrefl _ h.2
    have hlt : w.heap.size < w2.heap.size := Nat.lt_of_lt_of_le (by rw [show w.heap.size = w.heap.size from rfl]; exact (Array.getElem?_eq_some_iff.1 BW.out).1) K2.out.size
    have hcc : ¬ (w2.heap.size ≤ w.heap.size ∧ w.heap.size < M) := fun h => by omega
    have hB : Below w.heap.size w W := ((kf.mono (T := fun i => w2.heap.size ≤ i ∧ i < M) fun _ f => f.elim).more kM).below (Nat.le_refl _) fun i h => by omega
    refine ⟨⟨kM.cell m0 hMM, kM.cell m1 hMM, kM.cell m2 hMM⟩, ⟨kM.cell c0 hcc, kM.cell c1 hcc, kM.cell c2 hcc⟩, hp.keep kM fun i h => by omega, (hZ.new k).mono k.size, hB, hB.size⟩
  have CKT := hide (fun W k => check_any nm dl _ _ _ W (HT.out W k).2.2.2.1 (Nat.le_refl _) HSZ.out)
  have RCT := hide (fun W k => refCheck_any nm dl _ _ _ W (HT.out W k).2.2.2.1 (Nat.le_refl _) HSZ.out)
  have RC1 := hide (fun W k => RC.out w.heap.size W (HT.out W k).2.2.1 (HT.out W k).2.2.2.2.2)
  have C3 := hide (CKT.out w8 (Keep.refl _ _))
  clear hqs hLT kT hzs hZ HSZ KA HRD HM RC CKT HLW HL HYS HSY HAL HC0 HP B4 K4 K7
  obtain ⟨⟨m0, m1, m2⟩, _, _, _, _, _⟩ := HT.out w8 (Keep.refl _ _)
  generalize chk nm dl zs = R' at *
  obtain ⟨r3, r4⟩ := R'
  go_wp2_with fail
  go_at_call 10
  refine C3.out.mono ?_
  rintro e w9 ⟨rfl, k9⟩
  have K9 := hide k9
  have C4 := hide (RC1.out w9 k9)
  clear m0 m1 m2 C3
  obtain ⟨_, ⟨c0, c1, c2⟩, _⟩ := HT.out w9 k9
  clear k9
  go_wp2_with fail
  go_at_call 13
  refine C4.out.mono ?_
  rintro e w10 ⟨rfl, k10⟩
  have K10 := hide (K9.out.more k10)
  have C5 := hide (RCT.out w10 K10.out)
  clear c0 c1 c2 C4 k10 K9 RC1
  obtain ⟨⟨m0, m1, m2⟩, _⟩ := HT.out w10 K10.out
  go_wp2_with fail
  go_at_call 13
  refine C5.out.mono ?_
  rintro e w11 ⟨rfl, k11⟩
  have K11 := hide (HT.out w11 (K10.out.more k11)).2.2.2.2.1
  clear m0 m1 m2 C5 k11 K10 RCT HT
  go_wp2_with fail
  go_ret
  exact ⟨rfl, K11.out⟩
end Gr
end Go.Proofs.Ytpblmleodcaamaa
