/- RunApart: the walk. -/
import Derived.Test.YtljpeochlacdnaaRTwM
import Derived.Test.YtljpeochlacdnaaRFrm
import Derived.Test.YtljpeochlacdnaaRFit
import Derived.Test.YtljpeochlacdnaaRTdR
import Derived.Test.YtljpeochlacdnaaGRfA
import Derived.Deep.CutRange
import Derived.Deep.QuietTactic
namespace Go.Proofs.Ytljpeochlacdnaa
namespace Rn
open Go.RowKit Gr

theorem calls_keepA {f : FuncId} {args : Array Value} {W : World} (u : Behind W) {v : Value}
    (h : Calls Try.prog f args u.1 fun e w' => e = .returned v ∧ Keep (fun _ => False) u.1 w') : Calls Try.prog f args u.1 fun e w'' => e = .returned v ∧ ∃ u' : Behind W, w'' = u'.1 :=
  h.mono fun _ w' ⟨he, k⟩ => ⟨he, ⟨w', u.2.trans (k.below u.2.size fun _ f => f.elim)⟩, rfl⟩
/-- a run that is made -/
def MadeE (T : Rp → Nat → Prop) (xs : List No) (w : World) (e : Ending) (w' : World) : Prop :=
  ∃ (p : Rp) (d sk r : Option Addr × Nat × Nat), e = .returned (.tuple #[.pointer (some ⟨p.P, 0, none⟩), .agg #[.slice d.1 d.2.1 d.2.2, .slice sk.1 sk.2.1 sk.2.2, .slice r.1 r.2.1 r.2.2, .int .i64 (newR (xs.map nx)).2.stt], .int .i64 0]) ∧ w.heap.size ≤ p.P ∧ w.heap.size ≤ p.G ∧ p.xs.map nx = xs.map nx ∧ p.xs.length = xs.length ∧ RunAt (T p) w' p.P p.G p.nm p.dl p.s p.xs (newR (xs.map nx)).2 ∧ Below w.heap.size w w'
theorem made1 {nm : ByteArray} {dl : Int} {xs ys0 : List No} {s : Option Addr × Nat × Nat} {w w' : World} {e : Ending} (c : Cp nm dl xs ys0 s w) (hck : (chk nm dl xs).2 = 0) (h : NewEnd nm dl ys0 w e w') : MadeE (fun p k => k = p.P ∨ k = p.G) xs w e w' := by
  obtain ⟨hb, hE⟩ := h
  rcases hE with ⟨hn, rfl⟩ | ⟨_, P, G, sp, ys, v, rfl, hPs, hGs, hye, hch, hR⟩
  · exact absurd (by rw [c.chk]; exact hck) hn
  · have hyx := hye.trans c.er
    rw [c.er |> map_nx] at hch hR
    obtain ⟨d, sk, r, rfl, _, _, _⟩ := hch
    exact ⟨⟨P, G, nm, dl, sp, ys⟩, d, sk, r, rfl, hPs, hGs, map_nx hyx, (by have := congrArg List.length hyx; simpa using this), hR, hb⟩
theorem made2 {nm : ByteArray} {dl : Int} {xs ys0 : List No} {s : Option Addr × Nat × Nat} {w w' : World} {e : Ending} (c : Cp nm dl xs ys0 s w) (hck : (chk nm dl xs).2 = 0) (h : NewEnd2 nm dl ys0 w e w') : MadeE (fun p k => k = p.P ∨ k = p.G ∨ k < w.heap.size) xs w e w' := by
  obtain ⟨hb, hE⟩ := h
  rcases hE with ⟨hn, rfl⟩ | ⟨_, P, G, sp, ys, v, rfl, hPs, hGs, hye, hch, hR⟩
  · exact absurd (by rw [c.chk]; exact hck) hn
  · have hyx := hye.trans c.er
    rw [c.er |> map_nx] at hch hR
    obtain ⟨d, sk, r, rfl, _, _, _⟩ := hch
    exact ⟨⟨P, G, nm, dl, sp, ys⟩, d, sk, r, rfl, hPs, hGs, map_nx hyx, (by have := congrArg List.length hyx; simpa using this), hR, hb⟩
/-- what fits tells -/
theorem fits_two {nm : ByteArray} {dl : Int} {xs : List No} {e : Ending} (h : e = .returned (.tuple #[.bool false, .bool false]) ∨ e = .returned (.tuple #[.bool true, .bool (decide ((chk nm dl xs).2 = 0))]) ∧ xs.length + edges xs ≤ 20000) : ∃ f m : Bool, e = .returned (.tuple #[.bool f, .bool m]) ∧ Hid (f = true → m = true → (chk nm dl xs).2 = 0 ∧ xs.length + edges xs ≤ 20000) := by
  rcases h with rfl | ⟨rfl, h⟩
  · exact ⟨false, false, rfl, (show Hid _ from fun h => absurd h (by decide))⟩
  · exact ⟨true, _, rfl, (show Hid _ from fun _ h2 => ⟨of_decide_eq_true h2, h⟩)⟩
set_option maxRecDepth 100000 in
set_option maxHeartbeats 40000000 in
theorem apart_walk (nm : ByteArray) (dl : Int) (s : Option Addr × Nat × Nat) (xs : List No) (nm2 : ByteArray) (dl2 : Int) (s2 : Option Addr × Nat × Nat) (ys : List No) (t u : Option Addr × Nat × Nat) (qs us : List Sp) (w : World) (hP : RdP w.heap.size w s xs) (hs : Sz nm xs) (hc : CapP xs) (hP2 : RdP w.heap.size w s2 ys) (hs2 : Sz nm2 ys) (hc2 : CapP ys) (hq : RdO w t qs) (hu : RdO w u us) (hnt : t.2.1 * 56 ≤ 140737488351232) :
    Calls Try.prog 4 #[.agg #[.string nm, .int .i64 dl, .slice s.1 s.2.1 s.2.2, .string nm2, .int .i64 dl2, .slice s2.1 s2.2.1 s2.2.2, .slice t.1 t.2.1 t.2.2, .slice u.1 u.2.1 u.2.2]] w fun e w' => e = .returned (.bool true) ∧ Below w.heap.size w w' := by
  obtain ⟨a, n, c⟩ := s
  obtain ⟨a2, n2, c2⟩ := s2
  obtain ⟨ta, tn, tc⟩ := t
  obtain ⟨ua, un, uc⟩ := u
  have HN : Hid (n = xs.length) := hP.1
  have HNT : Hid (tn * 56 ≤ 140737488351232) := hnt
  have HTN : Hid (tn = qs.length) := hq.1
  have htn2 : tn ≤ 140737488355328 := hq.2.1
  have hun2 : un ≤ 140737488355328 := hu.2.1
  have HQB : Hid (∀ q ∈ qs, ∀ d ∈ q.res, d < 256) := fun q hh => (hq.2.2.1 q hh).1.2.2.1
  have HUB : Hid (∀ q ∈ us, ∀ d ∈ q.res, d < 256) := fun q hh => (hu.2.2.1 q hh).1.2.2.1
  have k1 := Keep.alloc (fun _ => False) w (.cells #[.string nm, .int .i64 dl, .slice a n c, .string nm2, .int .i64 dl2, .slice a2 n2 c2, .slice ta tn tc, .slice ua un uc] 54)
  have b1 := heap_alloc_new w (.cells #[.string nm, .int .i64 dl, .slice a n c, .string nm2, .int .i64 dl2, .slice a2 n2 c2, .slice ta tn tc, .slice ua un uc] 54)
  have HM : Hid (∀ W, Below (w.alloc (.cells #[.string nm, .int .i64 dl, .slice a n c, .string nm2, .int .i64 dl2, .slice a2 n2 c2, .slice ta tn tc, .slice ua un uc] 54)).heap.size (w.alloc (.cells #[.string nm, .int .i64 dl, .slice a n c, .string nm2, .int .i64 dl2, .slice a2 n2 c2, .slice ta tn tc, .slice ua un uc] 54)) W → (W.cell? ⟨w.heap.size, 0, none⟩ = some (.string nm) ∧ W.cell? ⟨w.heap.size, 1, none⟩ = some (.int .i64 dl) ∧ W.cell? ⟨w.heap.size, 2, none⟩ = some (.slice a n c) ∧ W.cell? ⟨w.heap.size, 3, none⟩ = some (.string nm2) ∧ W.cell? ⟨w.heap.size, 4, none⟩ = some (.int .i64 dl2) ∧ W.cell? ⟨w.heap.size, 5, none⟩ = some (.slice a2 n2 c2) ∧ W.cell? ⟨w.heap.size, 6, none⟩ = some (.slice ta tn tc) ∧ W.cell? ⟨w.heap.size, 7, none⟩ = some (.slice ua un uc)) ∧ RdP W.heap.size W (a, n, c) xs ∧ RdP W.heap.size W (a2, n2, c2) ys ∧ RdO W (ta, tn, tc) qs ∧ RdO W (ua, un, uc) us ∧ Below w.heap.size w W) := fun W k => by
    have k2 : Keep (fun _ => False) (w.alloc (.cells #[.string nm, .int .i64 dl, .slice a n c, .string nm2, .int .i64 dl2, .slice a2 n2 c2, .slice ta tn tc, .slice ua un uc] 54)) W := Keep.ofBelow k (Nat.le_refl _)
    have kb : Below w.heap.size w W := (k1.more k2).below (Nat.le_refl _) fun _ f => f.elim
    have bb := k2.blk b1 (fun f => f)
    exact ⟨⟨cell_blk bb 0 rfl, cell_blk bb 1 rfl, cell_blk bb 2 rfl, cell_blk bb 3 rfl, cell_blk bb 4 rfl, cell_blk bb 5 rfl, cell_blk bb 6 rfl, cell_blk bb 7 rfl⟩, (hP.new (k1.more k2)).mono (k1.more k2).size, (hP2.new (k1.more k2)).mono (k1.more k2).size, hq.below kb, hu.below kb, kb⟩
  have HS := hide hs
  have HC := hide hc
  have HS2 := hide hs2
  have HC2 := hide hc2
  clear hP hs hc hP2 hs2 hc2 hq hu hnt k1 b1
  go_enter Try.func4, Try.ntmps4
  go_upto_region 1 with fail
  obtain ⟨H, hH⟩ : ∃ H, H = w.heap.size := ⟨_, rfl⟩
  generalize w.alloc (.cells #[.string nm, .int .i64 dl, .slice a n c, .string nm2, .int .i64 dl2, .slice a2 n2 c2, .slice ta tn tc, .slice ua un uc] 54) = w1 at *
  simp only [← hH] at HM ⊢
  have HHE := hide hH
  clear hH
  go_wp2_with fail
  go_at_call 5
  refine (awake_any w1).mono ?_
  rintro e w2 ⟨rfl, b2⟩
  have B2 := hide b2
  obtain ⟨⟨c0, c1, c2', c3, c4, c5, c6, c7⟩, hp, _, _, _, _⟩ := HM.out w2 b2
  have FT := hide (fits_any nm dl (a, n, c) xs w2 hp HS.out)
  clear hp b2
  go_wp2_with fail
  go_at_call 6
  refine FT.out.mono ?_
  rintro e w3 ⟨hE, k3⟩
  obtain ⟨f1, m1, rfl, F1⟩ := fits_two hE
  have B3 : Hid (Below w1.heap.size w1 w3) := B2.out.trans (k3.below B2.out.size fun _ f => f.elim)
  clear c0 c1 c2' c3 c4 c5 c6 c7 hE k3 FT B2
  obtain ⟨⟨c0, c1, c2', c3, c4, c5, c6, c7⟩, _, hp, _, _, _⟩ := HM.out w3 B3.out
  have FT := hide (fits_any nm2 dl2 (a2, n2, c2) ys w3 hp HS2.out)
  clear hp
  go_wp2_with fail
  go_at_call 6
  refine FT.out.mono ?_
  rintro e w4 ⟨hE, k4⟩
  obtain ⟨f2, m2, rfl, F2⟩ := fits_two hE
  have B4 : Hid (Below w1.heap.size w1 w4) := B3.out.trans (k4.below B3.out.size fun _ f => f.elim)
  clear c0 c1 c2' c3 c4 c5 c6 c7 hE k4 FT B3
  have KW := hide (HM.out w4 B4.out).2.2.2.2.2
  cases f1
  case false =>
    go_wp2_with fail
    go_ret
    exact ⟨rfl, by rw [← HHE.out]; exact KW.out⟩
  cases m1
  case false =>
    go_wp2_with fail
    go_ret
    exact ⟨rfl, by rw [← HHE.out]; exact KW.out⟩
  cases f2
  case false =>
    go_wp2_with fail
    go_ret
    exact ⟨rfl, by rw [← HHE.out]; exact KW.out⟩
  cases m2
  case false =>
    go_wp2_with fail
    go_ret
    exact ⟨rfl, by rw [← HHE.out]; exact KW.out⟩
  obtain ⟨hck, hsm⟩ := F1.out rfl rfl
  obtain ⟨hck2, hsm2⟩ := F2.out rfl rfl
  have hz : ∀ x ∈ xs, x.nl.length ≤ 20000 ∧ x.al.length ≤ 20000 := fun x hx => by have := edges_mem hx; omega
  have hz2 : ∀ x ∈ ys, x.nl.length ≤ 20000 ∧ x.al.length ≤ 20000 := fun x hx => by have := edges_mem hx; omega
  have hxl : xs.length ≤ 20000 := by omega
  have hyl : ys.length ≤ 20000 := by omega
  have PL := hide (fun (W : World) (k : Below w1.heap.size w1 W) => planned_any nm dl (a, n, c) xs W (HM.out W k).2.1 HC.out hxl hz)
  have PL2 := hide (fun (W : World) (k : Below w1.heap.size w1 W) => planned_any nm2 dl2 (a2, n2, c2) ys W (HM.out W k).2.2.1 HC2.out hyl hz2)
  have CP := hide (fun (W : World) (B : Nat) (v : Option Addr) (m d : Nat) (zs : List No) (h : NdX B W (.slice v m d) zs) (he : zs.map er = xs.map er) => cp_of (nm := nm) (dl := dl) h he hxl hz HS.out)
  have CP2 := hide (fun (W : World) (B : Nat) (v : Option Addr) (m d : Nat) (zs : List No) (h : NdX B W (.slice v m d) zs) (he : zs.map er = ys.map er) => cp_of (nm := nm2) (dl := dl2) h he hyl hz2 HS2.out)
  have CK1 := hide hck
  have CK2 := hide hck2
  clear F1 F2 hsm hsm2 hz hz2 hxl hyl hck hck2 KW
  obtain ⟨⟨c0, c1, c2', c3, c4, c5, c6, c7⟩, _, _, _, _, _⟩ := HM.out w4 B4.out
  go_wp2_with fail
  go_at_call 8
  refine (PL.out w4 B4.out).mono ?_
  rintro e w5 ⟨pa, pc, zs0, rfl, _, hnd, hye, hb5⟩
  have C5 := hide (CP.out w5 _ pa _ pc zs0 hnd hye)
  have B5 := hide (B4.out.trans (hb5.mono B4.out.size))
  have KP1 : Hid (Keep (fun _ => False) w4 w5) := Keep.ofBelow hb5 (Nat.le_refl _)
  have NW := hide (new_any nm dl (pa, xs.length, pc) zs0 w5 C5.out.rd C5.out.cap C5.out.sz C5.out.ln)
  clear hnd hye hb5 c0 c1 c2' c3 c4 c5 c6 c7
  go_wp2_with fail
  go_at_call 7
  refine NW.out.mono ?_
  intro e w6 hE
  obtain ⟨p1, d1, sk1, r1, rfl, hP1, hG1, hmx1, hln1, hR1, hb6⟩ := made1 C5.out CK1.out hE
  have kz := Keep.alloc (fun _ => False) w6 (.cells #[.slice d1.1 d1.2.1 d1.2.2, .slice sk1.1 sk1.2.1 sk1.2.2, .slice r1.1 r1.2.1 r1.2.2, .int .i64 (newR (xs.map nx)).2.stt] 32)
  have B6 := hide (B5.out.trans (hb6.mono B5.out.size))
  have B7 := hide (B6.out.trans (kz.below B6.out.size fun _ f => f.elim))
  have KB1 : Hid (Keep (fun _ => False) w5 w6) := Keep.ofBelow hb6 (Nat.le_refl _)
  have KZ1 := hide kz
  have HP1 : Hid (w5.heap.size ≤ p1.P ∧ w5.heap.size ≤ p1.G) := ⟨hP1, hG1⟩
  have HX1 := hide hmx1
  have HL1 := hide hln1
  have HR1 := hide hR1
  clear hE hb6 NW C5 kz hP1 hG1 hmx1 hln1 hR1
  generalize (newR (xs.map nx)).2.stt = st1 at *
  simp only
  go_upto_region 7 with fail
  generalize w6.alloc (.cells #[.slice d1.1 d1.2.1 d1.2.2, .slice sk1.1 sk1.2.1 sk1.2.2, .slice r1.1 r1.2.1 r1.2.2, .int .i64 st1] 32) = w7 at *
  obtain ⟨⟨c0, c1, c2', c3, c4, c5, c6, c7⟩, _, _, _, _, _⟩ := HM.out w7 B7.out
  go_wp2_with fail
  go_at_call 8
  refine (PL2.out w7 B7.out).mono ?_
  rintro e w8 ⟨pa, pc, zs0, rfl, _, hnd, hye, hb5⟩
  have C5 := hide (CP2.out w8 _ pa _ pc zs0 hnd hye)
  have B8 := hide (B7.out.trans (hb5.mono B7.out.size))
  have KP2 : Hid (Keep (fun _ => False) w7 w8) := Keep.ofBelow hb5 (Nat.le_refl _)
  have NW := hide (new_any2 nm2 dl2 (pa, ys.length, pc) zs0 w8 C5.out.rd C5.out.cap C5.out.sz C5.out.ln)
  clear hnd hye hb5 c0 c1 c2' c3 c4 c5 c6 c7
  go_wp2_with fail
  go_at_call 7
  refine NW.out.mono ?_
  intro e w9 hE
  obtain ⟨p2, d2, sk2, r2, rfl, hP2, hG2, hmx2, hln2, hR2, hb6⟩ := made2 C5.out CK2.out hE
  have kz := Keep.alloc (fun _ => False) w9 (.cells #[.slice d2.1 d2.2.1 d2.2.2, .slice sk2.1 sk2.2.1 sk2.2.2, .slice r2.1 r2.2.1 r2.2.2, .int .i64 (newR (ys.map nx)).2.stt] 32)
  have B9 := hide (B8.out.trans (hb6.mono B8.out.size))
  have B10 := hide (B9.out.trans (kz.below B9.out.size fun _ f => f.elim))
  have KB2 : Hid (Keep (fun _ => False) w8 w9) := Keep.ofBelow hb6 (Nat.le_refl _)
  have KZ2 := hide kz
  have HP2 : Hid (w8.heap.size ≤ p2.P ∧ w8.heap.size ≤ p2.G) := ⟨hP2, hG2⟩
  have HX2 := hide hmx2
  have HL2 := hide hln2
  have HR2 := hide hR2
  clear hE hb6 NW C5 kz hP2 hG2 hmx2 hln2 hR2
  generalize (newR (ys.map nx)).2.stt = st2 at *
  simp only
  go_upto_region 8 with fail
  generalize w9.alloc (.cells #[.slice d2.1 d2.2.1 d2.2.2, .slice sk2.1 sk2.2.1 sk2.2.2, .slice r2.1 r2.2.1 r2.2.2, .int .i64 st2] 32) = w10 at *
  obtain ⟨⟨c0, c1, c2', c3, c4, c5, c6, c7⟩, _, _, _, _, _⟩ := HM.out w10 B10.out
  go_wp2_with fail
  go_at_call 8
  refine (PL.out w10 B10.out).mono ?_
  rintro e w11 ⟨pa, pc, zs0, rfl, _, hnd, hye, hb5⟩
  have C5 := hide (CP.out w11 _ pa _ pc zs0 hnd hye)
  have B11 := hide (B10.out.trans (hb5.mono B10.out.size))
  have KP3 : Hid (Keep (fun _ => False) w10 w11) := Keep.ofBelow hb5 (Nat.le_refl _)
  have NW := hide (new_any2 nm dl (pa, xs.length, pc) zs0 w11 C5.out.rd C5.out.cap C5.out.sz C5.out.ln)
  clear hnd hye hb5 c0 c1 c2' c3 c4 c5 c6 c7
  go_wp2_with fail
  go_at_call 7
  refine NW.out.mono ?_
  intro e w12 hE
  obtain ⟨p3, d3, sk3, r3, rfl, hP3, hG3, hmx3, hln3, hR3, hb6⟩ := made2 C5.out CK1.out hE
  have kz := Keep.alloc (fun _ => False) w12 (.cells #[.slice d3.1 d3.2.1 d3.2.2, .slice sk3.1 sk3.2.1 sk3.2.2, .slice r3.1 r3.2.1 r3.2.2, .int .i64 (newR (xs.map nx)).2.stt] 32)
  have B12 := hide (B11.out.trans (hb6.mono B11.out.size))
  have B13 := hide (B12.out.trans (kz.below B12.out.size fun _ f => f.elim))
  have KB3 : Hid (Keep (fun _ => False) w11 w12) := Keep.ofBelow hb6 (Nat.le_refl _)
  have KZ3 := hide kz
  have HP3 : Hid (w11.heap.size ≤ p3.P ∧ w11.heap.size ≤ p3.G) := ⟨hP3, hG3⟩
  have HX3 := hide hmx3
  have HL3 := hide hln3
  have HR3 := hide hR3
  clear hE hb6 NW C5 kz hP3 hG3 hmx3 hln3 hR3
  generalize (newR (xs.map nx)).2.stt = st3 at *
  simp only
  go_upto_region 9 with fail
  generalize w12.alloc (.cells #[.slice d3.1 d3.2.1 d3.2.2, .slice sk3.1 sk3.2.1 sk3.2.2, .slice r3.1 r3.2.1 r3.2.2, .int .i64 st3] 32) = w13 at *
  have BU := hide (bu_of CK1.out)
  have VX := hide (chk_ok CK1.out).2.2.2.1
  have BU2 := hide (bu_of CK2.out)
  have VX2 := hide (chk_ok CK2.out).2.2.2.1
  have HB : Hid (∀ x ∈ xs.map nx, 1 ≤ x.bu) := fun x hx => by obtain ⟨y, hy, rfl⟩ := List.mem_map.1 hx; exact (BU.out y hy).1
  have HB2 : Hid (∀ x ∈ ys.map nx, 1 ≤ x.bu) := fun x hx => by obtain ⟨y, hy, rfl⟩ := List.mem_map.1 hx; exact (BU2.out y hy).1
  have MY := hide (new_may HB.out)
  have RB := hide (new_rsb (xs.map nx))
  have MY2 := hide (new_may HB2.out)
  have RB2 := hide (new_rsb (ys.map nx))
  have EX := hide (fun (R : Rs) (h : May (xs.map nx) R) (hB : RsB R.ps) => (⟨May.res (xs := xs) h hB, May.trs VX.out BU.out h, (by have := h.1.1; simpa using this)⟩ : (∀ p ∈ R.ps, (∀ d ∈ p.rs, d < 256) ∧ p.rs.length ≤ 1000) ∧ (∀ p ∈ R.ps, -1000 ≤ p.tr ∧ p.tr ≤ 1000) ∧ R.ps.length = xs.length))
  have EX2 := hide (fun (R : Rs) (h : May (ys.map nx) R) (hB : RsB R.ps) => (May.trs VX2.out BU2.out h : ∀ p ∈ R.ps, -1000 ≤ p.tr ∧ p.tr ≤ 1000))
  have WD : Hid (Wd w1 p1 p2 p3 (xs.map nx) (newR (xs.map nx)).2 qs (.slice none 0 0) [] (newR (xs.map nx)).2 (newR (ys.map nx)).2 (newR (xs.map nx)).2 w13) := by
    have k1 := KZ1.out
    have k2 := (KP2.out.more KB2.out).more KZ2.out
    have k3 := (KP3.out.more KB3.out).more KZ3.out
    have h1 := HP1.out
    have h2 := HP2.out
    have h3 := HP3.out
    have z1 := k1.size
    have z2 := KP2.out.size
    have z3 := KZ2.out.size
    have z4 := KP3.out.size
    have z5 := B5.out.size
    exact wd_made HR1.out HR2.out HR3.out ⟨by omega, by omega⟩ ⟨by omega, h2.1, h2.2⟩ ⟨by omega, h3.1, h3.2⟩ ((k1.more k2).more k3) (KZ2.out.more k3) KZ3.out B13.out
  clear HR1 HR2 HR3 HP1 HP2 HP3 KZ1 KZ2 KZ3 KB1 KB2 KB3 KP1 KP2 KP3 B4 B5 B6 B7 B8 B9 B10 B11 B12 B13 PL PL2 CP CP2 HS HS2 HC HC2 CK1 CK2 VX2
  generalize (newR (xs.map nx)).2 = R0 at *
  generalize (newR (ys.map nx)).2 = B0 at *
  generalize hnxs : xs.map nx = nxs at *
  generalize hnys : ys.map nx = nys at *
  go_wp2_with fail
  go_loopw [17, 18] (fun v17 v18 wr => ∃ (va : Option Addr) (vc : Nat) (l : List Cx), v17 = .slice va l.length vc ∧ v18 = .int .i64 (l.length : Nat) ∧ l.length ≤ tn ∧ Hid (Wd w1 p1 p2 p3 nxs R0 qs (.slice va l.length vc) l R0 B0 (stR nxs R0 qs l.length) wr)) (fun _ v18 _ => tn - (intOf v18).toNat)
  case atStart => exact ⟨none, 0, [], rfl, rfl, Nat.zero_le _, WD.out⟩
  case round => as_aux_lemma =>
    clear WD
    obtain ⟨va, vc, l, rfl, rfl, hi, HD⟩ := hrel
    by_cases hlt : l.length < tn
    · as_aux_lemma =>
      obtain ⟨⟨c0, c1, c2', c3, c4, c5, c6, c7⟩, _, _, ho, _, _⟩ := HM.out wr HD.out.tr.bel
      obtain ⟨g, off, q, hta, hqi, hsq, q0, q1, q2, q3, q4⟩ := ho.at (i := l.length) hlt
      have hta : ta = some ⟨g, off, none⟩ := hta
      subst hta
      have HQI := hide hqi
      have HLT := hide hlt
      have MR := hide (stR_may (qs := qs) HB.out MY.out l.length)
      have RR := hide (stR_rsb (xs := nxs) HQB.out RB.out l.length)
      have DO := hide (does_any (show RunAt _ wr p3.P p3.G p3.nm p3.dl p3.s p3.xs _ from HD.out.tr.c) HD.out.tr.lt q hsq (EX.out _ MR.out RR.out).2.1)
      rw [HX3.out] at DO
      have HST : Hid (stR nxs R0 qs (l.length + 1) = (doR nxs (stR nxs R0 qs l.length) q.k q.i q.res).2) := stR_succ hqi
      clear ho hsq hqi hlt hi c0 c1 c2' c3 c4 c5 c7
      obtain ⟨out, hout⟩ : ∃ out, out = doR nxs (stR nxs R0 qs l.length) q.k q.i q.res := ⟨_, rfl⟩
      rw [← hout] at DO HST
      have HOUT := hide hout
      clear hout
      go_wp2_with fail
      go_at_call 9
      refine DO.out.mono ?_
      rintro e wb ⟨vb, rfl, ⟨db, skb, rb, rfl, l1, l2, l3⟩, hrb, kb⟩
      have kc := Keep.alloc (fun _ => False) wb (.cells #[.slice db.1 db.2.1 db.2.2, .slice skb.1 skb.2.1 skb.2.2, .slice rb.1 rb.2.1 rb.2.2, .int .i64 out.1.1.stt] 32)
      have bc := heap_alloc_new wb (.cells #[.slice db.1 db.2.1 db.2.2, .slice skb.1 skb.2.1 skb.2.2, .slice rb.1 rb.2.1 rb.2.2, .int .i64 out.1.1.stt] 32)
      have FC := hide ((HD.out.stepC kb hrb).new kc)
      have CH := hide (ChgAt.kept (u := .agg (Cx.row ⟨db, skb, rb, out.1.1.stt⟩).toArray) ⟨db, skb, rb, rfl, l1, l2, l3⟩ kc (fun _ f => f.elim))
      have HBC := hide bc
      clear hrb kb kc bc l1 l2 l3 DO HD q0 q1 q2 q3 q4
      simp only
      go_upto_region 16 with fail
      generalize wb.alloc (.cells #[.slice db.1 db.2.1 db.2.2, .slice skb.1 skb.2.1 skb.2.2, .slice rb.1 rb.2.1 rb.2.2, .int .i64 out.1.1.stt] 32) = wc at *
      generalize wb.heap.size = D at *
      have o0 := cell_blk HBC.out 0 (v := .slice db.1 db.2.1 db.2.2) rfl
      have o1 := cell_blk HBC.out 1 (v := .slice skb.1 skb.2.1 skb.2.2) rfl
      have o2 := cell_blk HBC.out 2 (v := .slice rb.1 rb.2.1 rb.2.2) rfl
      have o3 := cell_blk HBC.out 3 (v := .int .i64 out.1.1.stt) rfl
      have kd := Keep.alloc (fun _ => False) wc (.cells (Cx.row ⟨db, skb, rb, out.1.1.stt⟩).toArray 32)
      have HQD := hide (heap_alloc_new wc (.cells (Cx.row ⟨db, skb, rb, out.1.1.stt⟩).toArray 32))
      have FD := hide (FC.out.new kd)
      have CD := hide (CH.out.kept kd (fun _ f => f.elim))
      have hn56 : (l.length + 1) * 56 ≤ 140737488355328 := by have := HLT.out; have := HNT.out; omega
      have hbase : w1.heap.size ≤ (wc.alloc (.cells (Cx.row ⟨db, skb, rb, out.1.1.stt⟩).toArray 32)).heap.size := FD.out.tr.bel.size
      clear kd FC CH HBC c6
      go_wp2_with (at_builtin; refine wp_append_chg rfl _ _ rfl w1.heap.size (.slice va l.length vc) l rfl FD.out.own wc.heap.size ⟨db, skb, rb, out.1.1.stt⟩ rfl HQD.out hn56 hbase ?_; intro v' wd ho hk hnb; obtain ⟨na, nc, hv'⟩ := ownsRow_shape ho; rw [List.length_append, List.length_singleton] at hv'; subst hv'; have FE := hide (FD.out.grow hk hnb ho HQI.out (by rw [← HOUT.out]; exact CD.out)); clear ho hk hnb)
      rw [← HST.out] at FE
      have hln : (l ++ [(⟨db, skb, rb, out.1.1.stt⟩ : Cx)]).length = l.length + 1 := by simp
      have hlt2 := HLT.out
      clear o0 o1 o2 o3 hbase hn56 FD CD HQD
      go_wp2_with fail
      go_roundw
      · exact ⟨na, nc, l ++ [⟨db, skb, rb, out.1.1.stt⟩], by rw [hln], by rw [hln]; rfl, by rw [hln]; omega, by rw [hln]; exact FE.out⟩
      · show tn - ((l.length : Int) + 1).toNat < tn - (l.length : Int).toNat
        omega
    · as_aux_lemma =>
      obtain ⟨⟨c0, c1, c2', c3, c4, c5, c6, c7⟩, _, _, _, _, _⟩ := HM.out wr HD.out.tr.bel
      have htl : tn = l.length := by omega
      have HQL : Hid (qs.length = l.length) := by have := HTN.out; show _ = _; omega
      clear hi hlt
      have HD0 : Hid (Wd w1 p1 p2 p3 nxs R0 qs (.slice va l.length vc) l (stR nxs R0 qs 0) B0 (stR nxs R0 qs l.length) wr ∧ May nys B0 ∧ RsB B0.ps) := ⟨HD.out, MY2.out, RB2.out⟩
      clear HD MY2 RB2 HTN HNT
      subst htl
      generalize hm : l.length = m at *
      go_wp2_with fail
      clear c0 c1 c2' c3 c4 c5 c6 c7
      go_loopw [22] (fun v22 wr => ∃ (i : Nat) (B : Rs), v22 = .int .i64 (i : Nat) ∧ i ≤ max m un ∧ Hid (Wd w1 p1 p2 p3 nxs R0 qs (.slice va m vc) l (stR nxs R0 qs i) B (stR nxs R0 qs m) wr ∧ May nys B ∧ RsB B.ps)) (fun v22 _ => max m un - (intOf v22).toNat)
      case atStart => exact ⟨0, B0, rfl, Nat.zero_le _, HD0.out⟩
      case round => as_aux_lemma =>
        clear HD0
        obtain ⟨i, B, rfl, hi, HD⟩ := hrel
        have FS : Hid (Wd w1 p1 p2 p3 nxs R0 qs (.slice va m vc) l (stR nxs R0 qs i) B (stR nxs R0 qs m) _) := HD.out.1
        have MB : Hid (May nys B) := HD.out.2.1
        have RBB : Hid (RsB B.ps) := HD.out.2.2
        clear HD
        by_cases hlt : i < m
        · as_aux_lemma =>
          obtain ⟨⟨c0, c1, c2', c3, c4, c5, c6, c7⟩, _, _, ho, _, _⟩ := HM.out _ FS.out.tr.bel
          obtain ⟨g, off, q, hta, hqi, hsq, q0, q1, q2, q3, q4⟩ := ho.at (i := i) hlt
          have hta : ta = some ⟨g, off, none⟩ := hta
          subst hta
          have HQI := hide hqi
          have HLT := hide hlt
          have MR := hide (stR_may (qs := qs) HB.out MY.out i)
          have RR := hide (stR_rsb (xs := nxs) HQB.out RB.out i)
          have DO := hide (does_any (show RunAt _ _ p1.P p1.G p1.nm p1.dl p1.s p1.xs _ from FS.out.tr.a) FS.out.tr.lt q hsq (EX.out _ MR.out RR.out).2.1)
          rw [HX1.out] at DO
          have HST : Hid (stR nxs R0 qs (i + 1) = (doR nxs (stR nxs R0 qs i) q.k q.i q.res).2) := stR_succ hqi
          obtain ⟨x, hx⟩ : ∃ x, l[i]? = some x := ⟨_, List.getElem?_eq_getElem (by omega)⟩
          have HXL := hide hx
          clear ho hsq hqi hi hx
          obtain ⟨out, hout⟩ : ∃ out, out = doR nxs (stR nxs R0 qs i) q.k q.i q.res := ⟨_, rfl⟩
          rw [← hout] at DO HST
          have HOUT := hide hout
          clear hout
          go_wp2_with fail
          go_at_call 9
          refine DO.out.mono ?_
          rintro e wb ⟨vb, rfl, ⟨db, skb, rb, rfl, l1, l2, l3⟩, hrb, kb⟩
          have kc := Keep.alloc (fun _ => False) wb (.cells #[.slice db.1 db.2.1 db.2.2, .slice skb.1 skb.2.1 skb.2.2, .slice rb.1 rb.2.1 rb.2.2, .int .i64 out.1.1.stt] 32)
          have bc := heap_alloc_new wb (.cells #[.slice db.1 db.2.1 db.2.2, .slice skb.1 skb.2.1 skb.2.2, .slice rb.1 rb.2.1 rb.2.2, .int .i64 out.1.1.stt] 32)
          have FC := hide ((FS.out.stepA kb hrb).new kc)
          rw [← HST.out] at FC
          have CH := hide (ChgAt.kept (u := .agg #[.slice db.1 db.2.1 db.2.2, .slice skb.1 skb.2.1 skb.2.2, .slice rb.1 rb.2.1 rb.2.2, .int .i64 out.1.1.stt]) ⟨db, skb, rb, rfl, l1, l2, l3⟩ kc (fun _ f => f.elim))
          have HBC := hide bc
          clear hrb kb kc bc l1 l2 l3 DO FS q0 q1 q2 q3 q4 c0 c1 c2' c3 c4 c5 c6 c7
          simp only
          go_upto_region 22 with fail
          generalize wb.alloc (.cells #[.slice db.1 db.2.1 db.2.2, .slice skb.1 skb.2.1 skb.2.2, .slice rb.1 rb.2.1 rb.2.2, .int .i64 out.1.1.stt] 32) = wc at *
          generalize wb.heap.size = D at *
          have o0 := cell_blk HBC.out 0 (v := .slice db.1 db.2.1 db.2.2) rfl
          have o1 := cell_blk HBC.out 1 (v := .slice skb.1 skb.2.1 skb.2.2) rfl
          have o2 := cell_blk HBC.out 2 (v := .slice rb.1 rb.2.1 rb.2.2) rfl
          have o3 := cell_blk HBC.out 3 (v := .int .i64 out.1.1.stt) rfl
          obtain ⟨gh, hvg, n0, n1, n2, n3, hce⟩ := FC.out.at HXL.out (HQI.out) 
          rw [← HOUT.out] at hce
          have HCE := hide hce
          have hvg : va = some ⟨gh, 0, none⟩ := hvg
          subst hvg
          clear hce
          haveI := behindNE wc
          have e0 := fun u : Behind wc => u.cell o0
          have e1 := fun u : Behind wc => u.cell o1
          have e2 := fun u : Behind wc => u.cell o2
          have e3 := fun u : Behind wc => u.cell o3
          have e4 := fun u : Behind wc => u.cell n0
          have e5 := fun u : Behind wc => u.cell n1
          have e6 := fun u : Behind wc => u.cell n2
          have e7 := fun u : Behind wc => u.cell n3
          have x4 : ¬ m ≤ i := by omega
          have SC := hide (fun u : Behind wc => sameChange_any (CH.out.kept u.keep fun _ f => f.elim) (HCE.out.kept u.keep fun _ f => f.elim))
          refine quiet_behind (by kernel_rfl) (by kernel_rfl) ?_
          repeat (go_big_quiet_step ((go_at_call 13; exact calls_keepA _ (SC.out _))))
          refine wpQuiet_nil ?_
          intro _ hw'
          obtain ⟨u, hw''⟩ := hw'
          subst hw''
          have FD := hide (FC.out.new u.keep)
          clear e0 e1 e2 e3 e4 e5 e6 e7 n0 n1 n2 n3 o0 o1 o2 o3 SC HCE CH HBC FC x4
          obtain ⟨⟨c0, c1, c2', c3, c4, c5, c6, c7⟩, _, _, _, _, _⟩ := HM.out _ FD.out.tr.bel
          have hi : i ≤ max m un := by have := HLT.out; omega
          by_cases hlu : i < un
          · have HLU := hide hlu
            clear hlt c0 c1 c2' c3 c4 c5 c6 c7
            have HST : Hid (stR nxs R0 qs (i + 1) = stR nxs R0 qs (i + 1)) := rfl
            obtain ⟨⟨c0, c1, c2', c3, c4, c5, c6, c7⟩, _, _, _, ho, _⟩ := HM.out _ FD.out.tr.bel
            obtain ⟨g, off, q, hta, hqi, hsq, q0, q1, q2, q3, q4⟩ := ho.at (i := i) hlu
            have hta : ua = some ⟨g, off, none⟩ := hta
            subst hta
            have HRS : Hid (∀ d ∈ q.res, d < 256) := hsq.1.2.2.1
            have DO := hide (does_any (show RunAt _ _ p2.P p2.G p2.nm p2.dl p2.s p2.xs B from FD.out.tr.b) FD.out.tr.lt q hsq (EX2.out B MB.out RBB.out))
            rw [HX2.out] at DO
            have M3 := hide (do_may HB2.out MB.out q.k q.i q.res)
            have R3 : Hid (RsB (doR nys B q.k q.i q.res).2.ps) := do_rsb RBB.out HRS.out
            clear ho hsq hqi HRS
            generalize doR nys B q.k q.i q.res = out at *
            go_wp2_with fail
            go_at_call 9
            refine DO.out.mono ?_
            rintro e wb ⟨vb, rfl, ⟨db, skb, rb, rfl, _, _, _⟩, hrb, kb⟩
            have FZ := hide (FD.out.stepB kb hrb)
            try rw [← HST.out] at FZ
            have hlt2 := HLU.out
            clear hrb kb DO q0 q1 q2 q3 q4 FD
            go_wp2_with fail
            go_roundw
            · exact ⟨i + 1, out.2, rfl, by omega, FZ.out, M3.out, R3.out⟩
            · show max m un - ((i : Int) + 1).toNat < max m un - (i : Int).toNat
              omega
          · have hlt2 := HLT.out
            go_wp2
            go_roundw
            · exact ⟨i + 1, B, rfl, by omega, FD.out, MB.out, RBB.out⟩
            · show max m un - ((i : Int) + 1).toNat < max m un - (i : Int).toNat
              omega
        · by_cases hlu : i < un
          · as_aux_lemma =>
            have HLT := hide hlt
            have HST : Hid (stR nxs R0 qs (i + 1) = stR nxs R0 qs i) := by
              show _ = _
              rw [stR_over (by have := HQL.out; omega), stR_over (i := i) (by have := HQL.out; omega)]
            have HLU := hide hlu
            clear hi
            obtain ⟨⟨c0, c1, c2', c3, c4, c5, c6, c7⟩, _, _, _, ho, _⟩ := HM.out _ FS.out.tr.bel
            obtain ⟨g, off, q, hta, hqi, hsq, q0, q1, q2, q3, q4⟩ := ho.at (i := i) hlu
            have hta : ua = some ⟨g, off, none⟩ := hta
            subst hta
            have HRS : Hid (∀ d ∈ q.res, d < 256) := hsq.1.2.2.1
            have DO := hide (does_any (show RunAt _ _ p2.P p2.G p2.nm p2.dl p2.s p2.xs B from FS.out.tr.b) FS.out.tr.lt q hsq (EX2.out B MB.out RBB.out))
            rw [HX2.out] at DO
            have M3 := hide (do_may HB2.out MB.out q.k q.i q.res)
            have R3 : Hid (RsB (doR nys B q.k q.i q.res).2.ps) := do_rsb RBB.out HRS.out
            clear ho hsq hqi HRS
            generalize doR nys B q.k q.i q.res = out at *
            go_wp2_with fail
            go_at_call 9
            refine DO.out.mono ?_
            rintro e wb ⟨vb, rfl, ⟨db, skb, rb, rfl, _, _, _⟩, hrb, kb⟩
            have FZ := hide (FS.out.stepB kb hrb)
            try rw [← HST.out] at FZ
            have hlt2 := HLU.out
            clear hrb kb DO q0 q1 q2 q3 q4 FS
            go_wp2_with fail
            go_roundw
            · exact ⟨i + 1, out.2, rfl, by omega, FZ.out, M3.out, R3.out⟩
            · show max m un - ((i : Int) + 1).toNat < max m un - (i : Int).toNat
              omega
          · as_aux_lemma =>
            have HST : Hid (stR nxs R0 qs i = stR nxs R0 qs m) := by
              show _ = _
              rw [stR_over (i := i) (by have := HQL.out; omega), HQL.out]
            rw [HST.out] at FS
            have MR := hide (stR_may (qs := qs) HB.out MY.out m)
            have RR := hide (stR_rsb (xs := nxs) HQB.out RB.out m)
            have ER := hide (EX.out _ MR.out RR.out)
            generalize stR nxs R0 qs m = R at *
            obtain ⟨⟨c0, c1, c2', c3, c4, c5, c6, c7⟩, _, _, _, _, _⟩ := HM.out _ FS.out.tr.bel
            have TA := hide (told_any (show RunAt _ _ p1.P p1.G p1.nm p1.dl p1.s p1.xs R from FS.out.tr.a) ER.out.1)
            rw [HL1.out, ← HN.out] at TA
            go_wp2_with fail
            go_at_call 14
            refine TA.out.mono ?_
            rintro e w2 ⟨v2, rfl, ht2, k2⟩
            have F2 := hide (FS.out.new k2)
            have HT2 := hide ht2
            have TC := hide (told_any (show RunAt _ _ p3.P p3.G p3.nm p3.dl p3.s p3.xs R from F2.out.tr.c) ER.out.1)
            rw [HL3.out, ← HN.out] at TC
            clear c0 c1 c2' c3 c4 c5 c6 c7 TA k2 ht2 FS
            obtain ⟨⟨c0, c1, c2', c3, c4, c5, c6, c7⟩, _, _, _, _, _⟩ := HM.out _ F2.out.tr.bel
            go_wp2_with fail
            go_at_call 14
            refine TC.out.mono ?_
            rintro e w3 ⟨v3, rfl, ht3, k3⟩
            have F3 := hide (F2.out.new k3)
            obtain ⟨ra, rc, rfl, hr2⟩ := (HT2.out.new k3).rd ER.out.1
            obtain ⟨sa, sc, rfl, hr3⟩ := ht3.rd ER.out.1
            have SN := hide (sameNodes_any (ra, R.ps.length, rc) (sa, R.ps.length, sc) R.ps R.ps w3 hr2 hr3 rfl (by rw [ER.out.2.2]; have := VX.out.1; omega))
            clear c0 c1 c2' c3 c4 c5 c6 c7 TC k3 ht3 hr2 hr3 F2 HT2
            go_wp2_with fail
            go_at_call 15
            refine SN.out.mono ?_
            rintro e w4 ⟨⟨b, rfl, hb⟩, k4⟩
            obtain rfl : b = true := hb rfl
            have F4 := hide (F3.out.new k4)
            have SA := hide (status_any (show RunAt _ w4 p1.P p1.G p1.nm p1.dl p1.s p1.xs R from F4.out.tr.a))
            have SC := hide (status_any (show RunAt _ w4 p3.P p3.G p3.nm p3.dl p3.s p3.xs R from F4.out.tr.c))
            have KE := hide (HM.out w4 F4.out.tr.bel).2.2.2.2.2
            clear k4 hb SN F3 F4
            go_wp2_with fail
            go_at_call 16
            refine SA.out.mono ?_
            rintro e w5 ⟨rfl, rfl⟩
            go_wp2_with fail
            go_at_call 16
            refine SC.out.mono ?_
            rintro e w6 ⟨rfl, rfl⟩
            go_wp2_with fail
            go_ret
            exact ⟨rfl, by rw [← HHE.out]; exact KE.out⟩
end Rn
end Go.Proofs.Ytljpeochlacdnaa
