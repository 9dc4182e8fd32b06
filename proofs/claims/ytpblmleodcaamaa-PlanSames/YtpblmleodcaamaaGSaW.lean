/- PlanSames: the walk. -/
import Derived.Test.YtpblmleodcaamaaGSaM
import Derived.Test.YtpblmleodcaamaaGTrn
import Derived.Test.YtpblmleodcaamaaGAwk
import Derived.Deep.RegionHeld3
namespace Go.Proofs.Ytpblmleodcaamaa
namespace Gr
open Go.RowKit

theorem Ln.far {b : Nat} {w w' : World} {n : Nat} {xs : List No} {G : Nat} {ys : List No} {v1 v2 : Value} {S : Nat → Prop} (h : Ln b w n xs G ys v1 v2) (k : Keep S w w') (hS : ∀ i, S i → i < b) : Ln b w' n xs G ys v1 v2 := by
  refine ⟨h.len, h.rows.new k fun e => ?_, fun j x y hx hy => ?_, ownsRow_keep h.o1 k fun i hi e => ?_, ownsRow_keep h.o2 k fun i hi e => ?_, h.fr, h.gb⟩
  · have := hS _ e; have := h.gb; omega
  · have ht := h.lts j x y hx hy
    obtain ⟨g1, g2, f1, f2, f3, f4⟩ := h.fr y (List.mem_of_getElem? hy)
    obtain ⟨k1, e1, o1⟩ := ht.ne
    obtain ⟨k2, e2, o2⟩ := ht.af
    have q1 : k1 = g1 := by
      rw [f1] at e1
      injection e1 with e1
      injection e1 with e1
      injection e1 with e1
      exact e1.symm
    have q2 : k2 = g2 := by
      rw [f2] at e2
      injection e2 with e2
      injection e2 with e2
      injection e2 with e2
      exact e2.symm
    exact ⟨ht.nl, ht.al, ht.q, ⟨k1, e1, o1.keep k fun e => by have := hS _ e; omega⟩, ⟨k2, e2, o2.keep k fun e => by have := hS _ e; omega⟩⟩
  · have := hS _ hi; have := ownsRow_from h.o1 e; omega
  · have := hS _ hi; have := ownsRow_from h.o2 e; omega
theorem small_pl {nm : ByteArray} {dl : Int} {s : Option Addr × Nat × Nat} {xs : List No} {B : Nat} {w : World} (hP : RdP B w s xs) :
    Calls Try.prog 8 #[.agg #[.string nm, .int .i64 dl, .slice s.1 s.2.1 s.2.2]] w fun e w' => (∃ b : Bool, e = .returned (.bool b) ∧ (b = true → xs.length + edges xs ≤ 20000)) ∧ Keep (fun _ => False) w w' := small_any nm dl s xs B w hP

open Classical in
set_option maxRecDepth 100000 in
set_option maxHeartbeats 40000000 in
theorem sames_walk (nm : ByteArray) (dl : Int) (s : Option Addr × Nat × Nat) (xs : List No) (nm2 : ByteArray) (dl2 : Int) (s' : Option Addr × Nat × Nat) (xs2 : List No) (w : World) (hP : RdP w.heap.size w s xs) (hQ : RdP w.heap.size w s' xs2) (hwt : ∀ x ∈ xs, x.q.nm.size ≤ 140737488351232) (hcp : Rn.CapP xs) :
    Calls Try.prog 6 #[.agg #[.string nm, .int .i64 dl, .slice s.1 s.2.1 s.2.2], .agg #[.string nm2, .int .i64 dl2, .slice s'.1 s'.2.1 s'.2.2]] w fun e w' => e = .returned (.bool true) ∧ Below w.heap.size w w' := by
  obtain ⟨a, n, c⟩ := s
  obtain ⟨a2, n2, c2⟩ := s'
  have HNX : Hid (xs.length = n) := hP.1.symm
  have HNX2 : Hid (xs2.length = n2) := hQ.1.symm
  have K1 := Keep.alloc (fun _ => False) w (.cells #[.string nm, .int .i64 dl, .slice a n c] 24)
  have K2 := Keep.alloc (fun _ => False) (w.alloc (.cells #[.string nm, .int .i64 dl, .slice a n c] 24)) (.cells #[.string nm2, .int .i64 dl2, .slice a2 n2 c2] 24)
  have hs1 : (w.alloc (.cells #[.string nm, .int .i64 dl, .slice a n c] 24)).heap.size = w.heap.size + 1 := by simp
  have hb1 := K2.blk (heap_alloc_new w (.cells #[.string nm, .int .i64 dl, .slice a n c] 24)) (fun f => f)
  have hb2 := heap_alloc_new (w.alloc (.cells #[.string nm, .int .i64 dl, .slice a n c] 24)) (.cells #[.string nm2, .int .i64 dl2, .slice a2 n2 c2] 24)
  rw [hs1] at hb2
  have KW := hide (K1.more K2)
  have BW := hide hb1
  have BV := hide hb2
  have HP := hide (hP.new (K1.more K2))
  have HQ := hide (hQ.new (K1.more K2))
  have HWT := hide hwt
  have HCP := hide hcp
  clear hP hQ hwt hcp K1 K2 hb1 hb2 hs1
  go_enter Try.func6, Try.ntmps6
  go_wp2_with fail
  go_at_call 7
  refine (awake_any _).mono ?_
  rintro e w1 ⟨rfl, k1⟩
  generalize (w.alloc (.cells #[.string nm, .int .i64 dl, .slice a n c] 24)).alloc (.cells #[.string nm2, .int .i64 dl2, .slice a2 n2 c2] 24) = w0 at *
  have hs0 : Hid (w.heap.size + 1 < w0.heap.size) := (Array.getElem?_eq_some_iff.1 BV.out).1
  have K1 := hide k1
  have HC0 : Hid (∀ W, Keep (fun _ => False) w0 W → (W.cell? ⟨w.heap.size, 0, none⟩ = some (.string nm) ∧ W.cell? ⟨w.heap.size, 1, none⟩ = some (.int .i64 dl) ∧ W.cell? ⟨w.heap.size, 2, none⟩ = some (.slice a n c)) ∧ W.cell? ⟨w.heap.size + 1, 0, none⟩ = some (.string nm2) ∧ W.cell? ⟨w.heap.size + 1, 1, none⟩ = some (.int .i64 dl2) ∧ W.cell? ⟨w.heap.size + 1, 2, none⟩ = some (.slice a2 n2 c2)) := fun W k => ⟨⟨cell_blk (k.blk BW.out fun f => f) 0 rfl, cell_blk (k.blk BW.out fun f => f) 1 rfl, cell_blk (k.blk BW.out fun f => f) 2 rfl⟩, cell_blk (k.blk BV.out fun f => f) 0 rfl, cell_blk (k.blk BV.out fun f => f) 1 rfl, cell_blk (k.blk BV.out fun f => f) 2 rfl⟩
  obtain ⟨⟨c0, c1, c2'⟩, _⟩ := HC0.out w1 k1
  have SM := hide (small_pl (nm := nm) (dl := dl) (HP.out.new k1))
  clear k1
  go_wp2_with fail
  go_at_call 8
  refine SM.out.mono ?_
  rintro e w2 ⟨⟨b, rfl, hb⟩, k2⟩
  have K2 := hide (K1.out.more k2)
  have HB := hide hb
  clear k2 hb SM K1 c0 c1 c2'
  obtain ⟨_, e0, e1, e2⟩ := HC0.out w2 K2.out
  have SM := hide (small_pl (nm := nm2) (dl := dl2) (HQ.out.new K2.out))
  go_wp2_with fail
  go_at_call 8
  refine SM.out.mono ?_
  rintro e w3 ⟨⟨b2, rfl, hb2⟩, k3⟩
  have K3 := hide (K2.out.more k3)
  have HB2 := hide hb2
  clear k3 hb2 SM K2 e0 e1 e2
  obtain ⟨⟨c0, c1, c2'⟩, _⟩ := HC0.out w3 K3.out
  have KF := hide ((KW.out.more K3.out).below (Nat.le_refl _) fun _ f => f.elim)
  cases b
  · go_wp2_with fail
    go_ret
    exact ⟨rfl, KF.out⟩
  cases b2
  · go_wp2_with fail
    go_ret
    exact ⟨rfl, KF.out⟩
  have HES : Hid (xs.length + edges xs ≤ 20000) := HB.out rfl
  have HES2 : Hid (xs2.length + edges xs2 ≤ 20000) := HB2.out rfl
  have hn : n ≤ 20000 := by have := HES.out; have := HNX.out; omega
  have hn2 : n2 ≤ 20000 := by have := HES2.out; have := HNX2.out; omega
  have hs3 : w.heap.size ≤ w3.heap.size := by have := hs0.out; have := K3.out.size; omega
  have LN := hide (lend_full nm dl _ _ _ w3 (HP.out.new K3.out) hs3 HES.out)
  clear HB HB2 KF
  go_wp2_with fail
  go_at_call 9
  refine LN.out.mono ?_
  rintro e w4 ⟨G, ys, v1, v2, rfl, hL, k4⟩
  obtain ⟨u1, d1, hv1⟩ := ownsRow_shape hL.o1
  obtain ⟨u2, d2, hv2⟩ := ownsRow_shape hL.o2
  subst hv1
  subst hv2
  have kA := Keep.alloc (fun _ => False) w4 (.cells #[.string nm, .int .i64 dl, .slice (some ⟨G, 0, none⟩) n (n + 3), .slice (some ⟨G, 0, none⟩) (n + 3) (n + 3), .slice u1 n d1, .slice u2 n d2] 29)
  have K5 := hide ((K3.out.more k4).more kA)
  have B5 := hide (heap_alloc_new w4 (.cells #[.string nm, .int .i64 dl, .slice (some ⟨G, 0, none⟩) n (n + 3), .slice (some ⟨G, 0, none⟩) (n + 3) (n + 3), .slice u1 n d1, .slice u2 n d2] 29))
  have HL := hide (hL.new kA)
  have HLW := hide ((hL.w HNX.out (edges_at HES.out)).new kA)
  have HAL := hide (hL.alk HNX.out nm dl).alks
  have HYS : Hid (∀ y ∈ ys, y.q.nm.size ≤ 140737488351232) := fun y hy => by
    obtain ⟨k, hk⟩ := List.getElem?_of_mem hy
    have hkl : k < xs.length := by have := (List.getElem?_eq_some_iff.1 hk).1; rw [hL.len] at this; rw [HNX.out]; exact this
    rw [(HAL.out.2 k y _ hk (List.getElem?_eq_getElem hkl)).2.2.1]
    exact HWT.out _ (List.getElem_mem _)
  have hM3 : Hid (w3.heap.size ≤ w4.heap.size) := k4.size
  have hM4 : Hid (w4.heap.size < (w4.alloc (.cells #[.string nm, .int .i64 dl, .slice (some ⟨G, 0, none⟩) n (n + 3), .slice (some ⟨G, 0, none⟩) (n + 3) (n + 3), .slice u1 n d1, .slice u2 n d2] 29)).heap.size) := by show _ < _; simp
  clear hL k4 LN kA c0 c1 c2' HWT
  go_upto_region 7 with fail
  generalize w4.alloc (.cells #[.string nm, .int .i64 dl, .slice (some ⟨G, 0, none⟩) n (n + 3), .slice (some ⟨G, 0, none⟩) (n + 3) (n + 3), .slice u1 n d1, .slice u2 n d2] 29) = w5 at *
  generalize w4.heap.size = M at *
  obtain ⟨_, e0, e1, e2⟩ := HC0.out w5 K5.out
  have LN := hide (lend_full nm2 dl2 _ _ _ w5 (HQ.out.new K5.out) (by have := hM3.out; have := hM4.out; omega) HES2.out)
  go_wp2_with fail
  go_at_call 9
  refine LN.out.mono ?_
  rintro e w6 ⟨G2, ys2, v1, v2, rfl, hL2, k6⟩
  obtain ⟨u3, d3, hv1⟩ := ownsRow_shape hL2.o1
  obtain ⟨u4, d4, hv2⟩ := ownsRow_shape hL2.o2
  subst hv1
  subst hv2
  have kA := Keep.alloc (fun _ => False) w6 (.cells #[.string nm2, .int .i64 dl2, .slice (some ⟨G2, 0, none⟩) n2 (n2 + 3), .slice (some ⟨G2, 0, none⟩) (n2 + 3) (n2 + 3), .slice u3 n2 d3, .slice u4 n2 d4] 29)
  have K7 := hide (k6.more kA)
  have B7 := hide (heap_alloc_new w6 (.cells #[.string nm2, .int .i64 dl2, .slice (some ⟨G2, 0, none⟩) n2 (n2 + 3), .slice (some ⟨G2, 0, none⟩) (n2 + 3) (n2 + 3), .slice u3 n2 d3, .slice u4 n2 d4] 29))
  have HL2 := hide (hL2.new kA)
  have HAL2 := hide (hL2.alk HNX2.out nm2 dl2).alks
  have hM5 : Hid (w5.heap.size ≤ w6.heap.size) := k6.size
  have hM6 : Hid (w6.heap.size < (w6.alloc (.cells #[.string nm2, .int .i64 dl2, .slice (some ⟨G2, 0, none⟩) n2 (n2 + 3), .slice (some ⟨G2, 0, none⟩) (n2 + 3) (n2 + 3), .slice u3 n2 d3, .slice u4 n2 d4] 29)).heap.size) := by show _ < _; simp
  clear hL2 k6 LN kA e0 e1 e2
  go_upto_region 8 with fail
  generalize w6.alloc (.cells #[.string nm2, .int .i64 dl2, .slice (some ⟨G2, 0, none⟩) n2 (n2 + 3), .slice (some ⟨G2, 0, none⟩) (n2 + 3) (n2 + 3), .slice u3 n2 d3, .slice u4 n2 d4] 29) = w7 at *
  generalize w6.heap.size = M2 at *
  have HM : Hid (∀ W, Keep (fun _ => False) w7 W → (W.cell? ⟨M, 0, none⟩ = some (.string nm) ∧ W.cell? ⟨M, 1, none⟩ = some (.int .i64 dl) ∧ W.cell? ⟨M, 2, none⟩ = some (.slice (some ⟨G, 0, none⟩) n (n + 3)) ∧ W.cell? ⟨M, 3, none⟩ = some (.slice (some ⟨G, 0, none⟩) (n + 3) (n + 3)) ∧ W.cell? ⟨M, 4, none⟩ = some (.slice u1 n d1) ∧ W.cell? ⟨M, 5, none⟩ = some (.slice u2 n d2)) ∧ (W.cell? ⟨M2, 0, none⟩ = some (.string nm2) ∧ W.cell? ⟨M2, 1, none⟩ = some (.int .i64 dl2) ∧ W.cell? ⟨M2, 2, none⟩ = some (.slice (some ⟨G2, 0, none⟩) n2 (n2 + 3)) ∧ W.cell? ⟨M2, 3, none⟩ = some (.slice (some ⟨G2, 0, none⟩) (n2 + 3) (n2 + 3)) ∧ W.cell? ⟨M2, 4, none⟩ = some (.slice u3 n2 d3) ∧ W.cell? ⟨M2, 5, none⟩ = some (.slice u4 n2 d4)) ∧ (W.cell? ⟨w.heap.size, 0, none⟩ = some (.string nm) ∧ W.cell? ⟨w.heap.size, 1, none⟩ = some (.int .i64 dl) ∧ W.cell? ⟨w.heap.size, 2, none⟩ = some (.slice a n c)) ∧ (W.cell? ⟨w.heap.size + 1, 0, none⟩ = some (.string nm2) ∧ W.cell? ⟨w.heap.size + 1, 1, none⟩ = some (.int .i64 dl2) ∧ W.cell? ⟨w.heap.size + 1, 2, none⟩ = some (.slice a2 n2 c2)) ∧ RdP w.heap.size W (a, n, c) xs ∧ RdP w.heap.size W (a2, n2, c2) xs2 ∧ Ln w3.heap.size W n xs G ys (.slice u1 n d1) (.slice u2 n d2) ∧ Ln w5.heap.size W n2 xs2 G2 ys2 (.slice u3 n2 d3) (.slice u4 n2 d4) ∧ Keep (fun _ => False) w W ∧ w7.heap.size ≤ W.heap.size) := fun W k => by
    have k5 := K7.out.more k
    have k0 := K5.out.more k5
    obtain ⟨q1, q2⟩ := HC0.out W k0
    exact ⟨⟨cell_blk (k5.blk B5.out (fun h => h)) 0 rfl, cell_blk (k5.blk B5.out (fun h => h)) 1 rfl, cell_blk (k5.blk B5.out (fun h => h)) 2 rfl, cell_blk (k5.blk B5.out (fun h => h)) 3 rfl, cell_blk (k5.blk B5.out (fun h => h)) 4 rfl, cell_blk (k5.blk B5.out (fun h => h)) 5 rfl⟩, ⟨cell_blk (k.blk B7.out (fun h => h)) 0 rfl, cell_blk (k.blk B7.out (fun h => h)) 1 rfl, cell_blk (k.blk B7.out (fun h => h)) 2 rfl, cell_blk (k.blk B7.out (fun h => h)) 3 rfl, cell_blk (k.blk B7.out (fun h => h)) 4 rfl, cell_blk (k.blk B7.out (fun h => h)) 5 rfl⟩, q1, q2, HP.out.new k0, HQ.out.new k0, HL.out.new k5, HL2.out.new k, KW.out.more k0, k.size⟩
  have HLT : Hid (w.heap.size + 1 < w3.heap.size ∧ w3.heap.size ≤ M ∧ M < w5.heap.size ∧ w5.heap.size ≤ M2 ∧ M2 < w7.heap.size) := ⟨by have := hs0.out; have := K3.out.size; omega, hM3.out, hM4.out, hM5.out, hM6.out⟩
  have HLW7 := hide (HLW.out.new K7.out)
  have SP := hide (fun pm dl s xs pm' dl' s' ys B C W h1 h2 => same_plans pm dl s xs pm' dl' s' ys B C W h1 h2)
  have RSP := hide (fun pm dl s xs pm' dl' s' ys B C W h1 h2 => refSame_any pm dl s xs pm' dl' s' ys B C W h1 h2)
  have HRX : Hid (∀ W, Keep (fun _ => False) w7 W → RdP W.heap.size W (some ⟨G, 0, none⟩, n, n + 3) ys) := fun W k => (HM.out W k).2.2.2.2.2.2.1.rdp HNX.out HES.out
  have HRY : Hid (∀ W, Keep (fun _ => False) w7 W → RdP W.heap.size W (some ⟨G2, 0, none⟩, n2, n2 + 3) ys2) := fun W k => (HM.out W k).2.2.2.2.2.2.2.1.rdp HNX2.out HES2.out
  obtain ⟨dB, hdB⟩ : ∃ dB : Bool, dB = decide (AlkP nm dl xs nm2 dl2 xs2) := ⟨_, rfl⟩
  have CA : Hid (∀ W, Keep (fun _ => False) w7 W → Calls Try.prog 20 #[.agg #[.string nm, .int .i64 dl, .slice (some ⟨G, 0, none⟩) n (n + 3)], .agg #[.string nm2, .int .i64 dl2, .slice (some ⟨G2, 0, none⟩) n2 (n2 + 3)]] W fun e w' => e = .returned (.bool dB) ∧ Keep (fun _ => False) W w') := fun W k => (SP.out nm dl _ _ nm2 dl2 _ _ _ _ W (HRX.out W k) (HRY.out W k)).mono fun e w' ⟨h, k'⟩ => ⟨by rw [hdB]; exact h.dec (AlkP.via HAL.out HAL2.out), k'⟩
  have CB : Hid (∀ W, Keep (fun _ => False) w7 W → Calls Try.prog 20 #[.agg #[.string nm2, .int .i64 dl2, .slice (some ⟨G2, 0, none⟩) n2 (n2 + 3)], .agg #[.string nm, .int .i64 dl, .slice (some ⟨G, 0, none⟩) n (n + 3)]] W fun e w' => e = .returned (.bool dB) ∧ Keep (fun _ => False) W w') := fun W k => (SP.out nm2 dl2 _ _ nm dl _ _ _ _ W (HRY.out W k) (HRX.out W k)).mono fun e w' ⟨h, k'⟩ => ⟨by rw [hdB]; exact h.dec (AlkP.turn.trans (AlkP.via HAL.out HAL2.out)), k'⟩
  have CC : Hid (∀ W, Keep (fun _ => False) w7 W → Calls Try.prog 20 #[.agg #[.string nm, .int .i64 dl, .slice (some ⟨G, 0, none⟩) n (n + 3)], .agg #[.string nm, .int .i64 dl, .slice (some ⟨G, 0, none⟩) n (n + 3)]] W fun e w' => e = .returned (.bool true) ∧ Keep (fun _ => False) W w') := fun W k => (SP.out nm dl _ _ nm dl _ _ _ _ W (HRX.out W k) (HRX.out W k)).mono fun e w' ⟨h, k'⟩ => ⟨h.yes ⟨rfl, rfl, Alks.rfl' _⟩, k'⟩
  have RW : Hid (∀ W, Keep (fun _ => False) w7 W → Calls Try.prog 22 #[.agg #[.string nm, .int .i64 dl, .slice a n c], .agg #[.string nm2, .int .i64 dl2, .slice a2 n2 c2]] W fun e w' => e = .returned (.bool dB) ∧ Keep (fun _ => False) W w') := fun W k => (RSP.out nm dl (a, n, c) _ nm2 dl2 (a2, n2, c2) _ _ _ W (HM.out W k).2.2.2.2.1 (HM.out W k).2.2.2.2.2.1).mono fun e w' ⟨h, k'⟩ => ⟨by rw [hdB]; exact h.dec Iff.rfl, k'⟩
  have BR : Hid (∀ W, Keep (fun _ => False) w7 W → Calls Try.prog 21 #[.agg #[.string nm, .int .i64 dl, .slice a n c]] W (BrE nm dl n xs W)) := fun W k => bare_pl nm dl (a, n, c) xs W w.heap.size (HM.out W k).2.2.2.2.1 (by have := HLT.out; have := k.size; omega) HCP.out HES.out
  have CD : Hid (∀ W a3 c3 yb, Keep (fun _ => False) w7 W → RdP W.heap.size W (a3, n, c3) yb → Alks yb xs → Calls Try.prog 20 #[.agg #[.string nm, .int .i64 dl, .slice (some ⟨G, 0, none⟩) n (n + 3)], .agg #[.string nm, .int .i64 dl, .slice a3 n c3]] W fun e w' => e = .returned (.bool true) ∧ Keep (fun _ => False) W w') := fun W a3 c3 yb k h1 h2 => (SP.out nm dl _ _ nm dl (a3, n, c3) _ _ _ W (HRX.out W k) h1).mono fun e w' ⟨h, k'⟩ => ⟨h.yes ⟨rfl, rfl, HAL.out.tr h2.sym⟩, k'⟩
  have CF : Hid (∀ W a3 c3 yb, Keep (fun _ => False) w7 W → RdP W.heap.size W (a3, n, c3) yb → Alks yb xs → Calls Try.prog 20 #[.agg #[.string nm, .int .i64 dl, .slice a3 n c3], .agg #[.string nm, .int .i64 dl, .slice (some ⟨G, 0, none⟩) n (n + 3)]] W fun e w' => e = .returned (.bool true) ∧ Keep (fun _ => False) W w') := fun W a3 c3 yb k h1 h2 => (SP.out nm dl (a3, n, c3) _ nm dl _ _ _ _ W h1 (HRX.out W k)).mono fun e w' ⟨h, k'⟩ => ⟨h.yes ⟨rfl, rfl, h2.tr HAL.out.sym⟩, k'⟩
  have BK1 := hide (fun W k => back_any nm dl (a, n, c) xs w.heap.size W w3.heap.size G ys _ _ (HM.out W k).2.2.2.2.1 (HM.out W k).2.2.2.2.2.2.1 HES.out)
  have BK2 := hide (fun W k => back_any nm2 dl2 (a2, n2, c2) xs2 w.heap.size W w5.heap.size G2 ys2 _ _ (HM.out W k).2.2.2.2.2.1 (HM.out W k).2.2.2.2.2.2.2.1 HES2.out)
  clear HRX HRY HC0 K5 B5 HL HLW K7 B7 HL2 KW BW BV HP HQ hdB hM3 hM4 hM5 hM6 hs0 K3 HCP
  -- the first three
  obtain ⟨⟨m0, m1, m2, m3, m4, m5⟩, ⟨s0, s1, s2, s3, s4, s5⟩, ⟨o0, o1, o2⟩, ⟨e0, e1, e2⟩, _⟩ := HM.out w7 (Keep.refl _ _)
  have C1 := hide (CA.out w7 (Keep.refl _ _))
  clear m3 m4 m5 s3 s4 s5 o0 o1 o2 e0 e1 e2
  go_wp2_with fail
  go_at_call 20
  refine C1.out.mono ?_
  rintro e w8 ⟨rfl, k8⟩
  have K8 := hide k8
  have C2 := hide (CB.out w8 k8)
  clear m0 m1 m2 s0 s1 s2 C1 k8
  obtain ⟨⟨m0, m1, m2, m3, m4, m5⟩, ⟨s0, s1, s2, s3, s4, s5⟩, ⟨o0, o1, o2⟩, ⟨e0, e1, e2⟩, _⟩ := HM.out w8 K8.out
  clear m3 m4 m5 s3 s4 s5 o0 o1 o2 e0 e1 e2
  go_wp2_with fail
  go_at_call 20
  refine C2.out.mono ?_
  rintro e w9 ⟨rfl, k9⟩
  have K9 := hide (K8.out.more k9)
  have C3 := hide (CC.out w9 K9.out)
  clear m0 m1 m2 s0 s1 s2 C2 k9 K8
  obtain ⟨⟨m0, m1, m2, m3, m4, m5⟩, ⟨s0, s1, s2, s3, s4, s5⟩, ⟨o0, o1, o2⟩, ⟨e0, e1, e2⟩, _⟩ := HM.out w9 K9.out
  clear m3 m4 m5 s0 s1 s2 s3 s4 s5 o0 o1 o2 e0 e1 e2
  go_wp2_with fail
  go_at_call 20
  refine C3.out.mono ?_
  rintro e w10 ⟨rfl, k10⟩
  have K10 := hide (K9.out.more k10)
  clear m0 m1 m2 C3 k10 K9
  -- bare
  obtain ⟨⟨m0, m1, m2, m3, m4, m5⟩, ⟨s0, s1, s2, s3, s4, s5⟩, ⟨o0, o1, o2⟩, ⟨e0, e1, e2⟩, _⟩ := HM.out w10 K10.out
  clear m3 m4 m5 s0 s1 s2 s3 s4 s5 e0 e1 e2
  go_upto_region 11 with fail
  have KD : Hid (Keep (fun _ => False) w7 w10.drew) := K10.out.more (Keep.drew _ _)
  have HS : Hid (∀ W, Keep (fun _ => False) w7 W → (W.cell? ⟨M, 0, none⟩ = some (.string nm) ∧ W.cell? ⟨M, 1, none⟩ = some (.int .i64 dl) ∧ W.cell? ⟨M, 2, none⟩ = some (.slice (some ⟨G, 0, none⟩) n (n + 3))) ∧ W.cell? ⟨w.heap.size, 0, none⟩ = some (.string nm) ∧ W.cell? ⟨w.heap.size, 1, none⟩ = some (.int .i64 dl) ∧ W.cell? ⟨w.heap.size, 2, none⟩ = some (.slice a n c)) := fun W k => by
    obtain ⟨⟨m0, m1, m2, _⟩, _, q, _⟩ := HM.out W k
    exact ⟨⟨m0, m1, m2⟩, q⟩
  go_region_held3 (fun wx => (wx.cell? ⟨M, 0, none⟩ = some (.string nm) ∧ wx.cell? ⟨M, 1, none⟩ = some (.int .i64 dl) ∧ wx.cell? ⟨M, 2, none⟩ = some (.slice (some ⟨G, 0, none⟩) n (n + 3))) ∧ wx.cell? ⟨w.heap.size, 0, none⟩ = some (.string nm) ∧ wx.cell? ⟨w.heap.size, 1, none⟩ = some (.int .i64 dl) ∧ wx.cell? ⟨w.heap.size, 2, none⟩ = some (.slice a n c)) (first | (exact HS.out _ KJ.out) | (exact HS.out _ KI.out) | (exact HS.out _ KH.out) | (exact HS.out _ KG.out) | (exact HS.out _ KD.out)) ((first | (go_at_call 20; refine (CF.out _ _ _ _ KI.out HY2.out HA2.out).mono ?_; rintro e w14 ⟨rfl, k14⟩; have KJ := hide (KI.out.more k14); clear k14) | (go_at_call 21; refine (BR.out _ KH.out).mono ?_; rintro e w13 ⟨b2, f2, yc, rfl, hyb, hyA, k13⟩; have KI := hide (KH.out.more k13); have HY2 := hide hyb; have HA2 := hide hyA; clear k13 hyb hyA) | (go_at_call 20; refine (CD.out _ _ _ _ KG.out HY1.out HA1.out).mono ?_; rintro e w12 ⟨rfl, k12⟩; have KH := hide (KG.out.more k12); clear k12) | (go_at_call 21; refine (BR.out _ KD.out).mono ?_; rintro e w11 ⟨b1, f1, yb, rfl, hyb, hyA, k11⟩; have KG := hide (KD.out.more k11); have HY1 := hide hyb; have HA1 := hide hyA; clear k11 hyb hyA)))
  clear m0 m1 m2 o0 o1 o2
  obtain ⟨⟨m0, m1, m2, m3, m4, m5⟩, ⟨s0, s1, s2, s3, s4, s5⟩, ⟨o0, o1, o2⟩, ⟨e0, e1, e2⟩, _⟩ := HM.out w14 KJ.out
  clear s0 s1 s2 s3 s4 s5 e0 e1 e2
  have C4 := hide (BK1.out w14 KJ.out)
  go_wp2_with fail
  go_at_call 11
  refine C4.out.mono ?_
  rintro e w15 ⟨rfl, k15⟩
  have K15 := hide (KJ.out.more k15)
  have C5 := hide (BK2.out w15 K15.out)
  clear m0 m1 m2 m3 m4 m5 o0 o1 o2 C4 k15
  obtain ⟨⟨m0, m1, m2, m3, m4, m5⟩, ⟨s0, s1, s2, s3, s4, s5⟩, ⟨o0, o1, o2⟩, ⟨e0, e1, e2⟩, _⟩ := HM.out w15 K15.out
  clear m0 m1 m2 m3 m4 m5 o0 o1 o2
  go_wp2_with fail
  go_at_call 11
  refine C5.out.mono ?_
  rintro e w16 ⟨rfl, k16⟩
  have K16 := hide (K15.out.more k16)
  have C6 := hide (RW.out w16 K16.out)
  clear s0 s1 s2 s3 s4 s5 e0 e1 e2 C5 k16 K15
  obtain ⟨⟨m0, m1, m2, m3, m4, m5⟩, ⟨s0, s1, s2, s3, s4, s5⟩, ⟨o0, o1, o2⟩, ⟨e0, e1, e2⟩, _⟩ := HM.out w16 K16.out
  clear m0 m1 m2 m3 m4 m5 s0 s1 s2 s3 s4 s5
  go_wp2_with fail
  go_at_call 22
  refine C6.out.mono ?_
  rintro e w17 ⟨rfl, k17⟩
  have K17 := hide (K16.out.more k17)
  have C7 := hide (CA.out w17 K17.out)
  clear o0 o1 o2 e0 e1 e2 C6 k17 K16
  obtain ⟨⟨m0, m1, m2, m3, m4, m5⟩, ⟨s0, s1, s2, s3, s4, s5⟩, ⟨o0, o1, o2⟩, ⟨e0, e1, e2⟩, _⟩ := HM.out w17 K17.out
  clear m3 m4 m5 s3 s4 s5 o0 o1 o2 e0 e1 e2
  go_wp2_with fail
  go_at_call 20
  refine C7.out.mono ?_
  rintro e w18 ⟨rfl, k18⟩
  have K18 := hide (K17.out.more k18)
  clear m0 m1 m2 s0 s1 s2 C7 k18 K17
  -- turned
  obtain ⟨⟨m0, m1, m2, m3, m4, m5⟩, ⟨s0, s1, s2, s3, s4, s5⟩, ⟨o0, o1, o2⟩, ⟨e0, e1, e2⟩, _⟩ := HM.out w18 K18.out
  clear s0 s1 s2 s3 s4 s5 o0 o1 o2 e0 e1 e2
  have TN := hide (turn_any nm dl n G w3.heap.size M (ys.map (·.q)) _ _ w18 (HLW7.out.new K18.out) (by have := K18.out.size; have := HLT.out; omega) hn (fun q hq => by obtain ⟨y, hy, rfl⟩ := List.mem_map.1 hq; exact HYS.out y hy))
  go_wp2_with fail
  go_at_call 12
  refine TN.out.mono ?_

  rintro e w19 ⟨rfl, qs', hqs, hLT, kT⟩
  obtain ⟨zs, hzs, hZ⟩ := hLT.rd hn
  have HT : Hid (∀ W, Keep (fun _ => False) w19 W → (W.cell? ⟨M, 0, none⟩ = some (.string nm) ∧ W.cell? ⟨M, 1, none⟩ = some (.int .i64 dl) ∧ W.cell? ⟨M, 2, none⟩ = some (.slice (some ⟨G, 0, none⟩) n (n + 3))) ∧ (W.cell? ⟨M2, 0, none⟩ = some (.string nm2) ∧ W.cell? ⟨M2, 1, none⟩ = some (.int .i64 dl2) ∧ W.cell? ⟨M2, 2, none⟩ = some (.slice (some ⟨G2, 0, none⟩) n2 (n2 + 3))) ∧ (W.cell? ⟨w.heap.size + 1, 0, none⟩ = some (.string nm2) ∧ W.cell? ⟨w.heap.size + 1, 1, none⟩ = some (.int .i64 dl2) ∧ W.cell? ⟨w.heap.size + 1, 2, none⟩ = some (.slice a2 n2 c2)) ∧ RdP w.heap.size W (a2, n2, c2) xs2 ∧ RdP W.heap.size W (some ⟨G, 0, none⟩, n, n + 3) zs ∧ RdP W.heap.size W (some ⟨G2, 0, none⟩, n2, n2 + 3) ys2 ∧ Below w.heap.size w W) := fun W k => by
    obtain ⟨⟨m0, m1, m2, _⟩, ⟨s0, s1, s2, _⟩, _, ⟨e0, e1, e2⟩, _, hq, _, hL2, kf, _⟩ := HM.out w18 K18.out
    have kM := kT.more (k.mono fun _ f => f.elim)
    have hlt := HLT.out
    have h1 : ¬ (w3.heap.size ≤ M ∧ M < M) := fun h => by omega
    have h2 : ¬ (w3.heap.size ≤ M2 ∧ M2 < M) := fun h => by omega
    have h3 : ¬ (w3.heap.size ≤ w.heap.size + 1 ∧ w.heap.size + 1 < M) := fun h => by omega
    have hB : Below w.heap.size w W := ((kf.mono (T := fun i => w3.heap.size ≤ i ∧ i < M) fun _ f => f.elim).more kM).below (Nat.le_refl _) fun i h => by omega
    exact ⟨⟨kM.cell m0 h1, kM.cell m1 h1, kM.cell m2 h1⟩, ⟨kM.cell s0 h2, kM.cell s1 h2, kM.cell s2 h2⟩, ⟨kM.cell e0 h3, kM.cell e1 h3, kM.cell e2 h3⟩, hq.keep kM fun i h => by omega, (hZ.new k).mono k.size, (hL2.far kM fun i h => by omega).rdp HNX2.out HES2.out, hB⟩
  obtain ⟨fB, hfB⟩ : ∃ fB : Bool, fB = decide (AlkP nm dl zs nm2 dl2 xs2) := ⟨_, rfl⟩
  have C8 : Hid (∀ W, Keep (fun _ => False) w19 W → Calls Try.prog 20 #[.agg #[.string nm, .int .i64 dl, .slice (some ⟨G, 0, none⟩) n (n + 3)], .agg #[.string nm2, .int .i64 dl2, .slice (some ⟨G2, 0, none⟩) n2 (n2 + 3)]] W fun e w' => e = .returned (.bool fB) ∧ Keep (fun _ => False) W w') := fun W k => (SP.out nm dl _ _ nm2 dl2 _ _ _ _ W (HT.out W k).2.2.2.2.1 (HT.out W k).2.2.2.2.2.1).mono fun e w' ⟨h, k'⟩ => ⟨by rw [hfB]; exact h.dec (AlkP.via (Alks.rfl' _) HAL2.out), k'⟩
  have C9 : Hid (∀ W, Keep (fun _ => False) w19 W → Calls Try.prog 20 #[.agg #[.string nm2, .int .i64 dl2, .slice (some ⟨G2, 0, none⟩) n2 (n2 + 3)], .agg #[.string nm, .int .i64 dl, .slice (some ⟨G, 0, none⟩) n (n + 3)]] W fun e w' => e = .returned (.bool fB) ∧ Keep (fun _ => False) W w') := fun W k => (SP.out nm2 dl2 _ _ nm dl _ _ _ _ W (HT.out W k).2.2.2.2.2.1 (HT.out W k).2.2.2.2.1).mono fun e w' ⟨h, k'⟩ => ⟨by rw [hfB]; exact h.dec (AlkP.turn.trans (AlkP.via (Alks.rfl' _) HAL2.out)), k'⟩
  have C10 : Hid (∀ W, Keep (fun _ => False) w19 W → Calls Try.prog 22 #[.agg #[.string nm, .int .i64 dl, .slice (some ⟨G, 0, none⟩) n (n + 3)], .agg #[.string nm2, .int .i64 dl2, .slice a2 n2 c2]] W fun e w' => e = .returned (.bool fB) ∧ Keep (fun _ => False) W w') := fun W k => (RSP.out nm dl _ _ nm2 dl2 (a2, n2, c2) _ _ _ W (HT.out W k).2.2.2.2.1 (HT.out W k).2.2.2.1).mono fun e w' ⟨h, k'⟩ => ⟨by rw [hfB]; exact h.dec Iff.rfl, k'⟩
  clear m0 m1 m2 m3 m4 m5 TN hqs hLT kT hzs hZ hfB HM CA CB CC RW BR CD CF BK1 BK2 HLW7 HAL HAL2 HYS SP RSP K18
  have D8 := hide (C8.out w19 (Keep.refl _ _))
  obtain ⟨⟨m0, m1, m2⟩, ⟨s0, s1, s2⟩, _⟩ := HT.out w19 (Keep.refl _ _)
  go_wp2_with fail
  go_at_call 20
  refine D8.out.mono ?_
  rintro e w20 ⟨rfl, k20⟩
  have K20 := hide k20
  have D9 := hide (C9.out w20 k20)
  clear m0 m1 m2 s0 s1 s2 D8 C8 k20
  obtain ⟨⟨m0, m1, m2⟩, ⟨s0, s1, s2⟩, _⟩ := HT.out w20 K20.out
  go_wp2_with fail
  go_at_call 20
  refine D9.out.mono ?_
  rintro e w21 ⟨rfl, k21⟩
  have K21 := hide (K20.out.more k21)
  have D10 := hide (C10.out w21 K21.out)
  clear m0 m1 m2 s0 s1 s2 D9 C9 k21 K20
  obtain ⟨⟨m0, m1, m2⟩, _, ⟨e0, e1, e2⟩, _⟩ := HT.out w21 K21.out
  go_wp2_with fail
  go_at_call 22
  refine D10.out.mono ?_
  rintro e w22 ⟨rfl, k22⟩
  have B22 := hide (HT.out w22 (K21.out.more k22)).2.2.2.2.2.2
  clear m0 m1 m2 e0 e1 e2 D10 C10 k22 K21 HT
  go_wp2_with fail
  go_ret
  exact ⟨rfl, B22.out⟩
end Gr
end Go.Proofs.Ytpblmleodcaamaa
