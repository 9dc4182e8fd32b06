import Derived.Test.YtfoahfgehmghcaaGreatDoorUTx5
import Derived.Test.YtfoahfgehmghcaaGreatDoorULa2
import Derived.Deep.RegionHeld3
import Derived.Test.YtfoahfgehmghcaaGreatDoorSRm
/- Chapter 11's laws: ints, nodes, plans: of two plans that are alike. -/
namespace Go.Proofs.YtfoahfgehmghcaaGreatDoor
namespace U
open Go.RowKit

set_option maxHeartbeats 1000000 in
theorem ints_any (s t : Option Addr × Nat × Nat) (z : List Int) (B C : Nat) (w : World) (hz : Gr.RdZ B w s z) (hy : Gr.RdZ C w t z) :
    Calls Tryz.prog 20 #[.slice s.1 s.2.1 s.2.2, .slice t.1 t.2.1 t.2.2] w fun e w' => e = .returned (.bool true) ∧ Keep (fun _ => False) w w' := by
  obtain ⟨a, n, c⟩ := s
  obtain ⟨a', n', c'⟩ := t
  have hn : n = z.length := hz.1
  have hm : n' = z.length := hy.1
  have hn2 : n ≤ 17592186044416 := hz.2.1
  obtain rfl : n = n' := by omega
  have HZ := hide hz
  have HY := hide hy
  clear hz hy hn hm
  go_enter Tryz.func20, Tryz.ntmps20
  go_wp2_with fail
  go_loopw [5] (fun iv wr => ∃ i : Nat, iv = .int .i64 (i : Nat) ∧ i ≤ n ∧ Hid (Keep (fun _ => False) w wr)) (fun iv _ => n - (intOf iv).toNat)
  case atStart => exact ⟨0, rfl, Nat.zero_le _, Keep.refl _ _⟩
  case round =>
    obtain ⟨i, rfl, hi, HD⟩ := hrel
    by_cases hlt : i < n
    · obtain ⟨g, off, x, ha, hg, hx, hc⟩ := (HZ.out.new HD.out).at hlt
      obtain ⟨g', off', x', ha', hg', hx', hc'⟩ := (HY.out.new HD.out).at hlt
      have ha : a = some ⟨g, off, none⟩ := ha
      have ha' : a' = some ⟨g', off', none⟩ := ha'
      subst ha
      subst ha'
      obtain rfl : x = x' := by rw [hx] at hx'; exact Option.some.inj hx'
      clear hx hx' HZ HY
      go_wp2_with fail
      go_region
      go_wp2
      go_roundw
      · exact ⟨i + 1, rfl, by omega, HD.out.more (Keep.drew _ _)⟩
      · show n - ((i : Int) + 1).toNat < n - (i : Int).toNat
        omega
    · go_wp2_with fail
      go_ret
      exact ⟨rfl, HD.out⟩

set_option maxRecDepth 100000 in
set_option maxHeartbeats 4000000 in
theorem nodes_any (nm : ByteArray) (la bu cl be bs ca ji : Int) (ne af ne' af' : Option Addr × Nat × Nat) (z y : List Int) (B C : Nat) (w : World) (h1 : Gr.RdZ B w ne z) (h2 : Gr.RdZ C w ne' z) (h3 : Gr.RdZ B w af y) (h4 : Gr.RdZ C w af' y) :
    Calls Tryz.prog 19 #[.agg #[.string nm, .int .i64 la, .int .i64 bu, .int .i64 cl, .int .i64 be, .int .i64 bs, .int .i64 ca, .int .i64 ji, .slice ne.1 ne.2.1 ne.2.2, .slice af.1 af.2.1 af.2.2], .agg #[.string nm, .int .i64 la, .int .i64 bu, .int .i64 cl, .int .i64 be, .int .i64 bs, .int .i64 ca, .int .i64 ji, .slice ne'.1 ne'.2.1 ne'.2.2, .slice af'.1 af'.2.1 af'.2.2]] w fun e w' => e = .returned (.bool true) ∧ Keep (fun _ => False) w w' := by
  obtain ⟨ne1, ne2, ne3⟩ := ne
  obtain ⟨af1, af2, af3⟩ := af
  obtain ⟨me1, me2, me3⟩ := ne'
  obtain ⟨bf1, bf2, bf3⟩ := af'
  simp only
  have K1 := Keep.alloc (fun _ => False) w (.cells #[.string nm, .int .i64 la, .int .i64 bu, .int .i64 cl, .int .i64 be, .int .i64 bs, .int .i64 ca, .int .i64 ji, .slice ne1 ne2 ne3, .slice af1 af2 af3] 32)
  have K2 := Keep.alloc (fun _ => False) (w.alloc (.cells #[.string nm, .int .i64 la, .int .i64 bu, .int .i64 cl, .int .i64 be, .int .i64 bs, .int .i64 ca, .int .i64 ji, .slice ne1 ne2 ne3, .slice af1 af2 af3] 32)) (.cells #[.string nm, .int .i64 la, .int .i64 bu, .int .i64 cl, .int .i64 be, .int .i64 bs, .int .i64 ca, .int .i64 ji, .slice me1 me2 me3, .slice bf1 bf2 bf3] 32)
  have hb1 := heap_alloc_new w (.cells #[.string nm, .int .i64 la, .int .i64 bu, .int .i64 cl, .int .i64 be, .int .i64 bs, .int .i64 ca, .int .i64 ji, .slice ne1 ne2 ne3, .slice af1 af2 af3] 32)
  have hb2 := heap_alloc_new (w.alloc (.cells #[.string nm, .int .i64 la, .int .i64 bu, .int .i64 cl, .int .i64 be, .int .i64 bs, .int .i64 ca, .int .i64 ji, .slice ne1 ne2 ne3, .slice af1 af2 af3] 32)) (.cells #[.string nm, .int .i64 la, .int .i64 bu, .int .i64 cl, .int .i64 be, .int .i64 bs, .int .i64 ca, .int .i64 ji, .slice me1 me2 me3, .slice bf1 bf2 bf3] 32)
  have hs1 : (w.alloc (.cells #[.string nm, .int .i64 la, .int .i64 bu, .int .i64 cl, .int .i64 be, .int .i64 bs, .int .i64 ca, .int .i64 ji, .slice ne1 ne2 ne3, .slice af1 af2 af3] 32)).heap.size = w.heap.size + 1 := by simp
  rw [hs1] at hb2
  have hb1 := K2.blk hb1 (fun h => h)
  have KW := hide (K1.more K2)
  have HB1 := hide hb1
  have HB2 := hide hb2
  have I1 := hide (fun W ha hb => ints_any (ne1, ne2, ne3) (me1, me2, me3) z B C W ha hb)
  have I2 := hide (fun W ha hb => ints_any (af1, af2, af3) (bf1, bf2, bf3) y B C W ha hb)
  have Z1 := hide h1
  have Z2 := hide h2
  have Z3 := hide h3
  have Z4 := hide h4
  clear K1 K2 hb1 hb2 hs1 h1 h2 h3 h4
  go_enter Tryz.func19, Tryz.ntmps19
  go_upto_region 1 with fail
  generalize ((w.alloc (.cells #[.string nm, .int .i64 la, .int .i64 bu, .int .i64 cl, .int .i64 be, .int .i64 bs, .int .i64 ca, .int .i64 ji, .slice ne1 ne2 ne3, .slice af1 af2 af3] 32)).alloc (.cells #[.string nm, .int .i64 la, .int .i64 bu, .int .i64 cl, .int .i64 be, .int .i64 bs, .int .i64 ca, .int .i64 ji, .slice me1 me2 me3, .slice bf1 bf2 bf3] 32)) = w2 at *
  generalize hN : w.heap.size = N at *
  have HM : Hid (∀ W, Keep (fun _ => False) w2 W → W.heap[N]? = some (.cells #[.string nm, .int .i64 la, .int .i64 bu, .int .i64 cl, .int .i64 be, .int .i64 bs, .int .i64 ca, .int .i64 ji, .slice ne1 ne2 ne3, .slice af1 af2 af3] 32 (0, 0)) ∧ W.heap[N + 1]? = some (.cells #[.string nm, .int .i64 la, .int .i64 bu, .int .i64 cl, .int .i64 be, .int .i64 bs, .int .i64 ca, .int .i64 ji, .slice me1 me2 me3, .slice bf1 bf2 bf3] 32 (0, 0)) ∧ Gr.RdZ B W (ne1, ne2, ne3) z ∧ Gr.RdZ C W (me1, me2, me3) z ∧ Gr.RdZ B W (af1, af2, af3) y ∧ Gr.RdZ C W (bf1, bf2, bf3) y ∧ Keep (fun _ => False) w W) := fun W k =>
    ⟨k.blk HB1.out (fun h => h), k.blk HB2.out (fun h => h), Z1.out.new (KW.out.more k), Z2.out.new (KW.out.more k), Z3.out.new (KW.out.more k), Z4.out.new (KW.out.more k), KW.out.more k⟩
  clear KW HB1 HB2 Z1 Z2 Z3 Z4
  have cells : ∀ W, Keep (fun _ => False) w2 W → (W.cell? ⟨N, 0, none⟩ = some (.string nm) ∧ W.cell? ⟨N, 1, none⟩ = some (.int .i64 la) ∧ W.cell? ⟨N, 2, none⟩ = some (.int .i64 bu) ∧ W.cell? ⟨N, 3, none⟩ = some (.int .i64 cl) ∧ W.cell? ⟨N, 4, none⟩ = some (.int .i64 be) ∧ W.cell? ⟨N, 5, none⟩ = some (.int .i64 bs) ∧ W.cell? ⟨N, 6, none⟩ = some (.int .i64 ca) ∧ W.cell? ⟨N, 7, none⟩ = some (.int .i64 ji) ∧ W.cell? ⟨N, 8, none⟩ = some (.slice ne1 ne2 ne3) ∧ W.cell? ⟨N, 9, none⟩ = some (.slice af1 af2 af3)) ∧ (W.cell? ⟨N + 1, 0, none⟩ = some (.string nm) ∧ W.cell? ⟨N + 1, 1, none⟩ = some (.int .i64 la) ∧ W.cell? ⟨N + 1, 2, none⟩ = some (.int .i64 bu) ∧ W.cell? ⟨N + 1, 3, none⟩ = some (.int .i64 cl) ∧ W.cell? ⟨N + 1, 4, none⟩ = some (.int .i64 be) ∧ W.cell? ⟨N + 1, 5, none⟩ = some (.int .i64 bs) ∧ W.cell? ⟨N + 1, 6, none⟩ = some (.int .i64 ca) ∧ W.cell? ⟨N + 1, 7, none⟩ = some (.int .i64 ji) ∧ W.cell? ⟨N + 1, 8, none⟩ = some (.slice me1 me2 me3) ∧ W.cell? ⟨N + 1, 9, none⟩ = some (.slice bf1 bf2 bf3)) := fun W k => by
    obtain ⟨b1, b2, _⟩ := HM.out W k
    exact ⟨⟨cell_blk b1 0 rfl, cell_blk b1 1 rfl, cell_blk b1 2 rfl, cell_blk b1 3 rfl, cell_blk b1 4 rfl, cell_blk b1 5 rfl, cell_blk b1 6 rfl, cell_blk b1 7 rfl, cell_blk b1 8 rfl, cell_blk b1 9 rfl⟩, ⟨cell_blk b2 0 rfl, cell_blk b2 1 rfl, cell_blk b2 2 rfl, cell_blk b2 3 rfl, cell_blk b2 4 rfl, cell_blk b2 5 rfl, cell_blk b2 6 rfl, cell_blk b2 7 rfl, cell_blk b2 8 rfl, cell_blk b2 9 rfl⟩⟩
  have HC := hide cells
  clear cells
  obtain ⟨⟨c0, c1, c2, c3, c4, c5, c6, c7, c8, c9⟩, ⟨d0, d1, d2, d3, d4, d5, d6, d7, d8, d9⟩⟩ := HC.out w2 (Keep.refl _ _)
  go_upto_region 2 with fail
  clear c0 c1 c2 c3 c4 d0 d1 d2 d3 d4
  have HZ := hide (HM.out w2 (Keep.refl _ _)).2.2
  go_wp2_with fail
  go_at_call 20
  refine (I1.out _ HZ.out.1 HZ.out.2.1).mono ?_
  rintro e w3 ⟨rfl, k3⟩
  have K3 := hide k3
  clear HZ k3 c5 c6 c7 c8 c9 d5 d6 d7 d8 d9 I1
  have HZ := hide (HM.out w3 K3.out).2.2
  obtain ⟨⟨_, _, _, _, _, _, _, _, _, c9⟩, ⟨_, _, _, _, _, _, _, _, _, d9⟩⟩ := HC.out w3 K3.out
  clear HC
  go_wp2_with fail
  go_at_call 20
  refine (I2.out _ HZ.out.2.2.1 HZ.out.2.2.2.1).mono ?_
  rintro e w4 ⟨rfl, k4⟩
  have K4 := hide (HM.out w4 (K3.out.more k4)).2.2.2.2.2.2
  clear HZ k4 c9 d9 I2
  go_wp2_with fail
  go_ret
  exact ⟨rfl, K4.out⟩

/-- nodes that are alike, but for where their lists lie -/
theorem er_eq {x y : Gr.No} (h : er x = er y) : ∃ ne af, y = ⟨{ x.q with ne := ne, af := af }, x.nl, x.al⟩ := by
  obtain ⟨⟨a1, a2, a3, a4, a5, a6, a7, a8, a9, a10⟩, l1, l2⟩ := x
  obtain ⟨⟨b1, b2, b3, b4, b5, b6, b7, b8, b9, b10⟩, m1, m2⟩ := y
  simp only [er, Gr.No.mk.injEq, Gr.Nd.mk.injEq, and_true] at h
  obtain ⟨⟨rfl, rfl, rfl, rfl, rfl, rfl, rfl, rfl⟩, rfl, rfl⟩ := h
  exact ⟨b9, b10, rfl⟩
set_option maxRecDepth 100000 in
set_option maxHeartbeats 4000000 in
theorem plans_any (nm : ByteArray) (dl : Int) (s t : Option Addr × Nat × Nat) (xs ys : List Gr.No) (B C : Nat) (w : World) (hx : Gr.RdP B w s xs) (hy : Gr.RdP C w t ys) (he : xs.map er = ys.map er) :
    Calls Tryz.prog 9 #[.agg #[.string nm, .int .i64 dl, .slice s.1 s.2.1 s.2.2], .agg #[.string nm, .int .i64 dl, .slice t.1 t.2.1 t.2.2]] w fun e w' => e = .returned (.bool true) ∧ Keep (fun _ => False) w w' := by
  obtain ⟨a, n, c⟩ := s
  obtain ⟨a', n', c'⟩ := t
  simp only
  have hn : n = xs.length := hx.1
  have hm : n' = ys.length := hy.1
  have hl := congrArg List.length he
  simp only [List.length_map] at hl
  obtain rfl : n = n' := by omega
  have hnb : n ≤ 1172812402926 := hx.2.1
  have K1 := Keep.alloc (fun _ => False) w (.cells #[.string nm, .int .i64 dl, .slice a n c] 24)
  have K2 := Keep.alloc (fun _ => False) (w.alloc (.cells #[.string nm, .int .i64 dl, .slice a n c] 24)) (.cells #[.string nm, .int .i64 dl, .slice a' n c'] 24)
  have hb1 := heap_alloc_new w (.cells #[.string nm, .int .i64 dl, .slice a n c] 24)
  have hb2 := heap_alloc_new (w.alloc (.cells #[.string nm, .int .i64 dl, .slice a n c] 24)) (.cells #[.string nm, .int .i64 dl, .slice a' n c'] 24)
  have hs1 : (w.alloc (.cells #[.string nm, .int .i64 dl, .slice a n c] 24)).heap.size = w.heap.size + 1 := by simp
  rw [hs1] at hb2
  have hb1 := K2.blk hb1 (fun h => h)
  have KW := hide (K1.more K2)
  have HB1 := hide hb1
  have HB2 := hide hb2
  have HX := hide hx
  have HY := hide hy
  have HE := hide he
  clear K1 K2 hb1 hb2 hs1 hx hy he hn hm hl
  go_enter Tryz.func9, Tryz.ntmps9
  go_upto_region 1 with fail
  generalize ((w.alloc (.cells #[.string nm, .int .i64 dl, .slice a n c] 24)).alloc (.cells #[.string nm, .int .i64 dl, .slice a' n c'] 24)) = w2 at *
  generalize hN : w.heap.size = N at *
  have HM : Hid (∀ W, Keep (fun _ => False) w2 W → W.cell? ⟨N, 2, none⟩ = some (.slice a n c) ∧ W.cell? ⟨N + 1, 2, none⟩ = some (.slice a' n c') ∧ Gr.RdP B W (a, n, c) xs ∧ Gr.RdP C W (a', n, c') ys ∧ Keep (fun _ => False) w W) := fun W k =>
    ⟨cell_blk (k.blk HB1.out (fun h => h)) 2 rfl, cell_blk (k.blk HB2.out (fun h => h)) 2 rfl, HX.out.new (KW.out.more k), HY.out.new (KW.out.more k), KW.out.more k⟩
  have c0 : w2.cell? ⟨N, 0, none⟩ = some (.string nm) := cell_blk HB1.out 0 rfl
  have c1 : w2.cell? ⟨N, 1, none⟩ = some (.int .i64 dl) := cell_blk HB1.out 1 rfl
  have d0 : w2.cell? ⟨N + 1, 0, none⟩ = some (.string nm) := cell_blk HB2.out 0 rfl
  have d1 : w2.cell? ⟨N + 1, 1, none⟩ = some (.int .i64 dl) := cell_blk HB2.out 1 rfl
  obtain ⟨c2, d2, _⟩ := HM.out w2 (Keep.refl _ _)
  clear HB1 HB2 KW HX HY
  go_wp2_with fail
  clear c0 c1 c2 d0 d1 d2
  go_loopw [5] (fun iv wr => ∃ i : Nat, iv = .int .i64 (i : Nat) ∧ i ≤ n ∧ Hid (Keep (fun _ => False) w2 wr)) (fun iv _ => n - (intOf iv).toNat)
  case atStart => exact ⟨0, rfl, Nat.zero_le _, Keep.refl _ _⟩
  case round =>
    obtain ⟨i, rfl, hi, HD⟩ := hrel
    obtain ⟨c2, d2, hx, hy, kw⟩ := HM.out wr HD.out
    by_cases hlt : i < n
    · obtain ⟨g, off, x, ha, hg, hxi, hnx, hx1, hx2⟩ := hx.at (i := i) hlt
      obtain ⟨g', off', y, ha', hg', hyi, hny, hy1, hy2⟩ := hy.at (i := i) hlt
      have ha : a = some ⟨g, off, none⟩ := ha
      have ha' : a' = some ⟨g', off', none⟩ := ha'
      subst ha
      subst ha'
      have hxy : er x = er y := by
        have h1 : (xs.map er)[i]? = some (er x) := by rw [List.getElem?_map, hxi]; rfl
        rw [HE.out, List.getElem?_map, hyi] at h1
        exact (Option.some.inj h1).symm
      obtain ⟨ne', af', rfl⟩ := er_eq hxy
      obtain ⟨⟨nmx, la, bu, cl, be, bs, ca, ji, ⟨ne1, ne2, ne3⟩, ⟨af1, af2, af3⟩⟩, nl, al⟩ := x
      obtain ⟨me1, me2, me3⟩ := ne'
      obtain ⟨bf1, bf2, bf3⟩ := af'
      simp only at hx1 hx2 hy1 hy2
      have ND := hide (fun W h1 h2 h3 h4 => nodes_any nmx la bu cl be bs ca ji (ne1, ne2, ne3) (af1, af2, af3) (me1, me2, me3) (bf1, bf2, bf3) nl al B C W h1 h2 h3 h4)
      have HNX := hide hnx
      have HNY := hide hny
      have Z1 := hide hx1
      have Z2 := hide hy1
      have Z3 := hide hx2
      have Z4 := hide hy2
      have HR : Hid (∀ W, Keep (fun _ => False) wr W → W.cell? ⟨N, 2, none⟩ = some (.slice (some ⟨g, off, none⟩) n c) ∧ W.cell? ⟨N + 1, 2, none⟩ = some (.slice (some ⟨g', off', none⟩) n c') ∧ (W.cell? ⟨g, off + i * 10, none⟩ = some (.string nmx) ∧ W.cell? ⟨g, off + i * 10 + 1, none⟩ = some (.int .i64 la) ∧ W.cell? ⟨g, off + i * 10 + 2, none⟩ = some (.int .i64 bu) ∧ W.cell? ⟨g, off + i * 10 + 3, none⟩ = some (.int .i64 cl) ∧ W.cell? ⟨g, off + i * 10 + 4, none⟩ = some (.int .i64 be) ∧ W.cell? ⟨g, off + i * 10 + 5, none⟩ = some (.int .i64 bs) ∧ W.cell? ⟨g, off + i * 10 + 6, none⟩ = some (.int .i64 ca) ∧ W.cell? ⟨g, off + i * 10 + 7, none⟩ = some (.int .i64 ji) ∧ W.cell? ⟨g, off + i * 10 + 8, none⟩ = some (.slice ne1 ne2 ne3) ∧ W.cell? ⟨g, off + i * 10 + 9, none⟩ = some (.slice af1 af2 af3)) ∧ (W.cell? ⟨g', off' + i * 10, none⟩ = some (.string nmx) ∧ W.cell? ⟨g', off' + i * 10 + 1, none⟩ = some (.int .i64 la) ∧ W.cell? ⟨g', off' + i * 10 + 2, none⟩ = some (.int .i64 bu) ∧ W.cell? ⟨g', off' + i * 10 + 3, none⟩ = some (.int .i64 cl) ∧ W.cell? ⟨g', off' + i * 10 + 4, none⟩ = some (.int .i64 be) ∧ W.cell? ⟨g', off' + i * 10 + 5, none⟩ = some (.int .i64 bs) ∧ W.cell? ⟨g', off' + i * 10 + 6, none⟩ = some (.int .i64 ca) ∧ W.cell? ⟨g', off' + i * 10 + 7, none⟩ = some (.int .i64 ji) ∧ W.cell? ⟨g', off' + i * 10 + 8, none⟩ = some (.slice me1 me2 me3) ∧ W.cell? ⟨g', off' + i * 10 + 9, none⟩ = some (.slice bf1 bf2 bf3)) ∧ Keep (fun _ => False) wr W) := fun W k =>
        ⟨(HM.out W (HD.out.more k)).1, (HM.out W (HD.out.more k)).2.1, (HNX.out.keep k (fun h => h)).all, (HNY.out.keep k (fun h => h)).all, k⟩
      clear hx hy hxi hyi hnx hny hx1 hx2 hy1 hy2 hxy kw
      go_wp2_with fail
      go_region_held3 (fun W => W.cell? ⟨N, 2, none⟩ = some (.slice (some ⟨g, off, none⟩) n c) ∧ W.cell? ⟨N + 1, 2, none⟩ = some (.slice (some ⟨g', off', none⟩) n c') ∧ (W.cell? ⟨g, off + i * 10, none⟩ = some (.string nmx) ∧ W.cell? ⟨g, off + i * 10 + 1, none⟩ = some (.int .i64 la) ∧ W.cell? ⟨g, off + i * 10 + 2, none⟩ = some (.int .i64 bu) ∧ W.cell? ⟨g, off + i * 10 + 3, none⟩ = some (.int .i64 cl) ∧ W.cell? ⟨g, off + i * 10 + 4, none⟩ = some (.int .i64 be) ∧ W.cell? ⟨g, off + i * 10 + 5, none⟩ = some (.int .i64 bs) ∧ W.cell? ⟨g, off + i * 10 + 6, none⟩ = some (.int .i64 ca) ∧ W.cell? ⟨g, off + i * 10 + 7, none⟩ = some (.int .i64 ji) ∧ W.cell? ⟨g, off + i * 10 + 8, none⟩ = some (.slice ne1 ne2 ne3) ∧ W.cell? ⟨g, off + i * 10 + 9, none⟩ = some (.slice af1 af2 af3)) ∧ (W.cell? ⟨g', off' + i * 10, none⟩ = some (.string nmx) ∧ W.cell? ⟨g', off' + i * 10 + 1, none⟩ = some (.int .i64 la) ∧ W.cell? ⟨g', off' + i * 10 + 2, none⟩ = some (.int .i64 bu) ∧ W.cell? ⟨g', off' + i * 10 + 3, none⟩ = some (.int .i64 cl) ∧ W.cell? ⟨g', off' + i * 10 + 4, none⟩ = some (.int .i64 be) ∧ W.cell? ⟨g', off' + i * 10 + 5, none⟩ = some (.int .i64 bs) ∧ W.cell? ⟨g', off' + i * 10 + 6, none⟩ = some (.int .i64 ca) ∧ W.cell? ⟨g', off' + i * 10 + 7, none⟩ = some (.int .i64 ji) ∧ W.cell? ⟨g', off' + i * 10 + 8, none⟩ = some (.slice me1 me2 me3) ∧ W.cell? ⟨g', off' + i * 10 + 9, none⟩ = some (.slice bf1 bf2 bf3)) ∧ Keep (fun _ => False) wr W) (first | (exact HR.out _ (Keep.refl _ _)) | (exact HR.out _ (Keep.drew _ _)) | (exact HR.out _ HK9.out) | go_keep) (first
        | (go_at_call 19; have hh8 := (‹_ ∧ _ ∧ _ ∧ _ ∧ Keep (fun _ => False) wr _›).2.2.2.2; refine (ND.out _ (Z1.out.new hh8) (Z2.out.new hh8) (Z3.out.new hh8) (Z4.out.new hh8)).mono ?_; rintro e w9 ⟨rfl, k9⟩; have HK9 : Hid (Keep (fun _ => False) wr w9) := hh8.more k9; clear hh8 k9))
      have KE := hide HK9.out
      clear HK9 ND Z1 Z2 Z3 Z4 HNX HNY HR
      go_wp2
      go_roundw
      · exact ⟨i + 1, rfl, by omega, HD.out.more KE.out⟩
      · show n - ((i : Int) + 1).toNat < n - (i : Int).toNat
        omega
    · have KE := hide kw
      go_wp2_with fail
      go_ret
      exact ⟨rfl, KE.out⟩
end U
end Go.Proofs.YtfoahfgehmghcaaGreatDoor

/- Law marked of package source. -/
namespace Go.Proofs.YtfoahfgehmghcaaGreatDoor
namespace So
open Go.RowKit

/-- the lists that were lent, whole: where they lie, what they hold -/
def lf (ys : List Gr.No) : List ((Option Addr × Nat × Nat) × List Int) := ys.flatMap fun y => [((y.q.ne.1, y.q.ne.2.1 + 2, y.q.ne.2.2), y.nl ++ [71, 72]), ((y.q.af.1, y.q.af.2.1 + 2, y.q.af.2.2), y.al ++ [73, 74])]
theorem lf_fes (ys : List Gr.No) : fes ys = (lf ys).map fun p => sv p.1 := by
  induction ys with
  | nil => rfl
  | cons y ys ih => simp only [fes, lf, List.flatMap_cons, List.map_append] at ih ⊢; rw [ih]; rfl
theorem lf_er : ∀ {xs ys : List Gr.No}, xs.map U.er = ys.map U.er → (lf xs).map (·.2) = (lf ys).map (·.2)
  | [], [], _ => rfl
  | [], y :: ys, h => by simp at h
  | x :: xs, [], h => by simp at h
  | x :: xs, y :: ys, h => by
    simp only [List.map_cons, List.cons.injEq] at h
    have h1 := congrArg Gr.No.nl h.1
    have h2 := congrArg Gr.No.al h.1
    have ih := lf_er h.2
    simp only [lf, List.flatMap_cons, List.map_append] at ih ⊢
    rw [ih]
    simp only [U.er] at h1 h2
    rw [h1, h2]
    rfl
theorem lf_len (ys : List Gr.No) : (lf ys).length = 2 * ys.length := by
  have := congrArg List.length (lf_fes ys)
  rw [fes_len, List.length_map] at this
  exact this.symm
theorem RoE.at_ {B : Nat} {w : World} {va fv : Value} {ys : List Gr.No} (h : RoE B w va fv ys) (hz : ∀ y ∈ ys, y.nl.length ≤ 20000 ∧ y.al.length ≤ 20000) {i : Nat} {p : (Option Addr × Nat × Nat) × List Int} (hp : (lf ys)[i]? = some p) : Gr.RdZ w.heap.size w p.1 p.2 := by
  obtain ⟨y, hy, hm⟩ := List.mem_flatMap.1 (List.mem_of_getElem? hp)
  obtain ⟨h1, h2⟩ := h.ls y hy
  obtain ⟨z1, z2⟩ := hz y hy
  simp only [List.mem_cons, List.not_mem_nil, or_false] at hm
  rcases hm with rfl | rfl
  · exact h1.full (by omega)
  · exact h2.full (by omega)
theorem RoE.below {B : Nat} {w w' : World} {va fv : Value} {ys : List Gr.No} (h : RoE B w va fv ys) (k : Below w.heap.size w w') : RoE B w' va fv ys :=
  ⟨U.own_below h.nodes k, fun y hy => ⟨(h.ls y hy).1.keep (Keep.ofBelow (S := fun _ => False) k (Nat.le_refl _)) (fun _ _ f => f.elim), (h.ls y hy).2.keep (Keep.ofBelow (S := fun _ => False) k (Nat.le_refl _)) (fun _ _ f => f.elim)⟩, U.own_below h.full k⟩
theorem er_lens {xs ys : List Gr.No} (h : ys.map U.er = xs.map U.er) (hz : ∀ x ∈ xs, x.nl.length ≤ 20000 ∧ x.al.length ≤ 20000) : ∀ y ∈ ys, y.nl.length ≤ 20000 ∧ y.al.length ≤ 20000 := fun y hy => by
  have h1 : U.er y ∈ xs.map U.er := by rw [← h]; exact List.mem_map_of_mem hy
  obtain ⟨x, hx, he⟩ := List.mem_map.1 h1
  have h2 := congrArg Gr.No.nl he
  have h3 := congrArg Gr.No.al he
  simp only [U.er] at h2 h3
  rw [← h2, ← h3]
  exact hz x hx
set_option maxRecDepth 100000 in
set_option maxHeartbeats 4000000 in
theorem marked_any (nm : ByteArray) (dl : Int) (s : Option Addr × Nat × Nat) (xs : List Gr.No) (w : World) (hP : Gr.RdP w.heap.size w s xs) (hc0 : s.1 = none → s.2.2 = 0) (hcp : ∀ x ∈ xs, (x.q.ne.1 = none → x.q.ne.2.2 = 0) ∧ (x.q.af.1 = none → x.q.af.2.2 = 0)) (hl : xs.length ≤ 20000) (hz : ∀ x ∈ xs, x.nl.length ≤ 20000 ∧ x.al.length ≤ 20000)
    (B : Nat) (va : Value) (fa : Option Addr) (fc : Nat) (ys : List Gr.No) (hE : RoE B w va (.slice fa (2 * xs.length) fc) ys) (her : ys.map U.er = xs.map U.er) :
    Calls Tryz.prog 10 #[.agg #[.string nm, .int .i64 dl, .slice s.1 s.2.1 s.2.2], .slice fa (2 * xs.length) fc] w fun e w' => e = .returned (.bool true) ∧ Below w.heap.size w w' := by
  have hyl : ys.length = xs.length := by simpa using congrArg List.length her
  have kA := Keep.alloc (fun _ => False) w (.cells #[.string nm, .int .i64 dl, .slice s.1 s.2.1 s.2.2] 24)
  have bA := heap_alloc_new w (.cells #[.string nm, .int .i64 dl, .slice s.1 s.2.1 s.2.2] 24)
  have hbA := (Below.refl w.heap.size w).alloc (Nat.le_refl _) (.cells #[.string nm, .int .i64 dl, .slice s.1 s.2.1 s.2.2] 24)
  have RM := hide (room_any nm dl s xs (w.alloc (.cells #[.string nm, .int .i64 dl, .slice s.1 s.2.1 s.2.2] 24)) ((hP.keep kA (fun _ f => f.elim)).mono (by simp)) hc0 hcp hl hz)
  have HE := hide (hE.below hbA)
  have HER := hide her
  have HZ := hide hz
  have HYL := hide hyl
  have HB1 := hide hbA
  have hl2 : xs.length ≤ 20000 := hl
  have HL := hide hl
  have a0 := cell_blk bA 0 (v := .string nm) rfl
  have a1 := cell_blk bA 1 (v := .int .i64 dl) rfl
  have a2 := cell_blk bA 2 (v := .slice s.1 s.2.1 s.2.2) rfl
  clear kA bA hbA hP hc0 hcp hl hz hE her hyl
  go_enter Tryz.func10, Tryz.ntmps10
  generalize hw1 : w.alloc (.cells #[.string nm, .int .i64 dl, .slice s.1 s.2.1 s.2.2] 24) = w1 at *
  go_upto_region 2 with (go_at_call 6; refine RM.out.mono ?_; rintro e w2 ⟨za, zc, ga, gc, zs, rfl, hzl, hRE, hze, hb2⟩; have HRE := hide hRE; have HZE := hide hze; have HZL := hide hzl; have HB2 := hide hb2; clear hRE hze hzl hb2 a0 a1 a2)
  go_wp2_with fail
  go_loopw [7] (fun iv wr => ∃ i : Nat, iv = .int .i64 (i : Nat) ∧ i ≤ 2 * xs.length ∧ Hid (Keep (fun _ => False) w2 wr)) (fun iv _ => 2 * xs.length - (intOf iv).toNat)
  case atStart => exact ⟨0, rfl, Nat.zero_le _, Keep.alloc _ _ _⟩
  case round => as_aux_lemma =>
    obtain ⟨i, rfl, hi, HD⟩ := hrel
    have hN : ((2 * xs.length : Nat) : Int) = 2 * (xs.length : Int) := by omega
    have HNN := hide hN
    clear hN
    by_cases hlt : i < 2 * xs.length
    · have HE2 := hide (HE.out.below HB2.out)
      obtain ⟨⟨⟨p1, p2, p3⟩, z⟩, hp⟩ : ∃ p, (lf zs)[i]? = some p := ⟨_, List.getElem?_eq_getElem (by rw [lf_len, HZL.out]; exact hlt)⟩
      obtain ⟨⟨⟨q1, q2, q3⟩, z'⟩, hq⟩ : ∃ p, (lf ys)[i]? = some p := ⟨_, List.getElem?_eq_getElem (by rw [lf_len, HYL.out]; exact hlt)⟩
      have hzz : z = z' := by
        have h1 := lf_er (HZE.out.trans HER.out.symm)
        have h2 : ((lf zs).map (·.2))[i]? = some z := by rw [List.getElem?_map, hp]; rfl
        rw [h1, List.getElem?_map, hq] at h2
        exact (Option.some.inj h2).symm
      subst hzz
      have h1 := (HRE.out.at_ (er_lens HZE.out HZ.out) hp).new HD.out
      have h2 := (HE2.out.at_ (er_lens HER.out HZ.out) hq).new HD.out
      have hf1 := HRE.out.full
      have hf2 := HE2.out.full
      rw [HZL.out] at hf1
      rw [HYL.out] at hf2
      obtain ⟨g1, _, e1⟩ := own_form hf1 (by omega)
      obtain ⟨g2, _, e2⟩ := own_form hf2 (by omega)
      injection e1 with e1 e3 e4
      injection e2 with e2 e5 e6
      clear e3 e4 e5 e6
      subst e1 e2
      have c1 : w2.cell? ⟨g1, i, none⟩ = some (.slice p1 p2 p3) := by
        rw [hf1.cellAt i (by omega), lf_fes, List.getElem?_map, hp]
        rfl
      have c2 : w2.cell? ⟨g2, i, none⟩ = some (.slice q1 q2 q3) := by
        rw [hf2.cellAt i (by omega), lf_fes, List.getElem?_map, hq]
        rfl
      have HR : Hid (∀ W, Keep (fun _ => False) wr W → W.cell? ⟨g1, i, none⟩ = some (.slice p1 p2 p3) ∧ W.cell? ⟨g2, i, none⟩ = some (.slice q1 q2 q3) ∧ Keep (fun _ => False) wr W) := fun W k => ⟨(HD.out.more k).cell c1 (fun f => f), (HD.out.more k).cell c2 (fun f => f), k⟩
      have IN := hide (fun W h1 h2 => U.ints_any (p1, p2, p3) (q1, q2, q3) z w2.heap.size w2.heap.size W h1 h2)
      have Z1 := hide h1
      have Z2 := hide h2
      have hlt' : (i : Int) < ((2 * xs.length : Nat) : Int) := by omega
      clear h1 h2 hf1 hf2 c1 c2 hp hq HE2
      go_upto_region 7 with fail
      go_region_held3 (fun W => W.cell? ⟨g1, i, none⟩ = some (.slice p1 p2 p3) ∧ W.cell? ⟨g2, i, none⟩ = some (.slice q1 q2 q3) ∧ Keep (fun _ => False) wr W) (first | (exact HR.out _ (Keep.refl _ _)) | (exact HR.out _ (Keep.drew _ _)) | (exact HR.out _ HK9.out) | go_keep) (first
        | (go_at_call 20; have hh8 := (‹_ ∧ _ ∧ Keep (fun _ => False) wr _›).2.2; refine (IN.out _ (Z1.out.new hh8) (Z2.out.new hh8)).mono ?_; rintro e w9 ⟨rfl, k9⟩; have HK9 : Hid (Keep (fun _ => False) wr w9) := hh8.more k9; clear hh8 k9))
      have KE := hide HK9.out
      clear HK9 IN Z1 Z2 HR
      go_wp2
      go_roundw
      · exact ⟨i + 1, by go_num, by omega, HD.out.more KE.out⟩
      · simp [intOf]; omega
    · have hge : ¬ ((i : Int) < ((2 * xs.length : Nat) : Int)) := by omega
      have KE := hide HD.out
      go_wp2_with fail
      go_ret
      exact ⟨rfl, (HB1.out.trans (HB2.out.mono HB1.out.size)).trans (KE.out.below (by have := HB1.out.size; have := HB2.out.size; omega) (fun _ f => f.elim))⟩
end So
end Go.Proofs.YtfoahfgehmghcaaGreatDoor
