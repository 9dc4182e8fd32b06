/- Package run: copyPlan. -/
import Derived.Test.YtiackejbpcjmeaaRPlp
import Derived.Deep.CutRange
namespace Go.Proofs.Ytiackejbpcjmeaa
namespace Rn
open Go.RowKit Gr

set_option maxRecDepth 100000 in
set_option maxHeartbeats 4000000 in
theorem copyPlan_any (nm : ByteArray) (dl : Int) (s : Option Addr × Nat × Nat) (xs : List No) (w : World) (hP : RdP w.heap.size w s xs) (hc : CapP xs) (hl : xs.length ≤ 20000) (hz : ∀ x ∈ xs, x.nl.length ≤ 20000 ∧ x.al.length ≤ 20000) (hnm : nm.size ≤ 281474976710656) (hnn : ∀ x ∈ xs, x.q.nm.size ≤ 281474976710656) :
    Calls Try.prog 27 #[.agg #[.string nm, .int .i64 dl, .slice s.1 s.2.1 s.2.2]] w fun e w' => ∃ a c ys, e = .returned (.agg #[.string nm, .int .i64 dl, .slice a xs.length c]) ∧ ys.length = xs.length ∧ NdX w.heap.size w' (.slice a xs.length c) ys ∧ ys.map er = xs.map er ∧ Below w.heap.size w w' := by
  obtain ⟨a, n, c⟩ := s
  have hn : n = xs.length := hP.1
  subst hn
  have HP := hide hP
  have HC := hide hc
  have HZ := hide hz
  have HL := hide hl
  have CS : Hid (∀ W : World, W.cell? ⟨w.heap.size, 0, none⟩ = some (.string nm) → W.cell? ⟨w.heap.size, 1, none⟩ = some (.int .i64 dl) → Calls Try.prog 45 #[.string nm] W fun e w' => e = .returned (.string nm) ∧ Keep (fun _ => False) W w' ∧ w'.cell? ⟨w.heap.size, 0, none⟩ = some (.string nm) ∧ w'.cell? ⟨w.heap.size, 1, none⟩ = some (.int .i64 dl)) := fun W h0 h1 => (clone_str nm W hnm).mono fun e w' ⟨he, hb⟩ => by
    have k := Keep.ofBelow (S := fun _ => False) hb (Nat.le_refl _)
    exact ⟨he, k, k.cell h0 (fun f => f), k.cell h1 (fun f => f)⟩
  have HNN := hide hnn
  clear hP hc hz
  have k1 := Keep.alloc (fun _ => False) w (.cells #[.string nm, .int .i64 dl, .slice a xs.length c] 24)
  have b1 := heap_alloc_new w (.cells #[.string nm, .int .i64 dl, .slice a xs.length c] 24)
  have k2 := Keep.alloc (fun _ => False) (w.alloc (.cells #[.string nm, .int .i64 dl, .slice a xs.length c] 24)) (.cells #[.string ⟨#[]⟩, .int .i64 0, .slice none 0 0] 24)
  have b2 := heap_alloc_new (w.alloc (.cells #[.string nm, .int .i64 dl, .slice a xs.length c] 24)) (.cells #[.string ⟨#[]⟩, .int .i64 0, .slice none 0 0] 24)
  have z1 : (w.alloc (.cells #[.string nm, .int .i64 dl, .slice a xs.length c] 24)).heap.size = w.heap.size + 1 := by simp
  have z2 : ((w.alloc (.cells #[.string nm, .int .i64 dl, .slice a xs.length c] 24)).alloc (.cells #[.string ⟨#[]⟩, .int .i64 0, .slice none 0 0] 24)).heap.size = w.heap.size + 1 + 1 := by simp
  rw [z1] at b2
  have HA2 := hide (k2.blk b1 (fun f => f))
  have HB2 := hide b2
  have K2 := hide (k1.more k2)
  have HZ2 := hide z2
  clear k1 k2 b1 b2 z1 z2 hnm hnn
  go_enter Try.func27, Try.ntmps27
  go_upto_region 1 with fail
  generalize (w.alloc (.cells #[.string nm, .int .i64 dl, .slice a xs.length c] 24)).alloc (.cells #[.string ⟨#[]⟩, .int .i64 0, .slice none 0 0] 24) = w2 at *
  have p0 := cell_blk HA2.out 0 (v := .string nm) rfl
  have p1 := cell_blk HA2.out 1 (v := .int .i64 dl) rfl
  go_cut [3] from 6 (fun v wx => ∃ C, v = .pointer (some ⟨C, 0, none⟩) ∧ w.heap.size + 1 + 1 ≤ C ∧ wx.heap[C]? = some (.cells #[.string nm, .int .i64 dl, .slice none 0 0] 24 (0, 0)) ∧ Keep (fun _ => False) w2 wx)
  case first =>
    have HPZ : Hid (∀ (W : World) (j : Nat) (v : Value), W.cell? ⟨w.heap.size, j, none⟩ = some v → (put3 W w2.heap.size (.string nm) (.int .i64 dl) (.slice none 0 0)).cell? ⟨w.heap.size, j, none⟩ = some v) := fun W j v hv => (put3_keep W w2.heap.size _ _ _).cell hv (fun e => by have := HZ2.out; simp only at e; omega)
    have kd := Keep.drew (fun _ => False) w2
    have ka := Keep.alloc (fun _ => False) w2.drew (.cells #[.string ⟨#[]⟩, .int .i64 0, .slice none 0 0] 24)
    have p0' : w2.drew.cell? ⟨w.heap.size, 0, none⟩ = some (.string nm) := p0
    have p1' : w2.drew.cell? ⟨w.heap.size, 1, none⟩ = some (.int .i64 dl) := p1
    have p0a := ka.cell p0' (fun f => f)
    have p1a := ka.cell p1' (fun f => f)
    go_region_held3 (fun wx => wx.cell? ⟨w.heap.size, 0, none⟩ = some (.string nm) ∧ wx.cell? ⟨w.heap.size, 1, none⟩ = some (.int .i64 dl)) (first | (exact ⟨HPZ.out _ _ _ hz0, HPZ.out _ _ _ hz1⟩) | (exact ⟨p0, p1⟩) | (exact ⟨p0', p1'⟩) | (exact ⟨hz0, hz1⟩) | (exact ⟨p0a, p1a⟩) | go_keep) (first | (go_at_call 45; refine (CS.out _ (‹World.cell? _ ⟨w.heap.size, 0, none⟩ = some (.string nm) ∧ World.cell? _ ⟨w.heap.size, 1, none⟩ = some (.int .i64 dl)›).1 (‹World.cell? _ ⟨w.heap.size, 0, none⟩ = some (.string nm) ∧ World.cell? _ ⟨w.heap.size, 1, none⟩ = some (.int .i64 dl)›).2).mono ?_; rintro e wz ⟨rfl, hkz, hz0, hz1⟩; try (have hcz : wz.heap[w2.heap.size]? = some (.cells #[.string ⟨#[]⟩, .int .i64 0, .slice none 0 0] 24 (0, 0)) := hkz.blk (heap_alloc_new w2.drew (.cells #[.string ⟨#[]⟩, .int .i64 0, .slice none 0 0] 24)) (fun f => f); have cz0 := cell_blk hcz 0 (v := .string ⟨#[]⟩) rfl; have cz1 := cell_blk hcz 1 (v := .int .i64 0) rfl; have cz2 := cell_blk hcz 2 (v := .slice none 0 0) rfl; have fz0 := frozen_blk hcz 0; have fz1 := frozen_blk hcz 1; have fz2 := frozen_blk hcz 2)))
    all_goals (go_wp2_with fail)
    · go_meet
      case rel =>
        have hkz' : Keep (fun _ => False) w2 wz := kd.more hkz
        exact ⟨wz.heap.size, rfl, by have := hkz'.size; have := HZ2.out; omega, heap_alloc_new _ _, hkz'.more (Keep.alloc _ _ _)⟩
    · go_meet
      case rel =>
        have hkz' : Keep (fun _ => False) w2 wz := (kd.more ka).more hkz
        exact ⟨w2.heap.size, rfl, by have := HZ2.out; omega, put3_blk hcz _ _ _, hkz'.trans (put3_keep wz w2.heap.size _ _ _) fun i hi => .inr (Nat.le_of_eq hi.symm)⟩
  case rest =>
    obtain ⟨C, rfl, hCs, hCb, hKc⟩ := hcut
    have HCS := hide hCs
    have HA := hide (hKc.blk HA2.out (fun f => f))
    have HB := hide (hKc.blk HB2.out (fun f => f))
    have HI0 : Hid (PlI w xs nm dl C 0 wc) := ⟨none, 0, [], rfl, hCb, ⟨World.ownsRow_nil _ _ _ _, fun y hy => by cases hy⟩, rfl, (K2.out.more hKc).mono fun _ f => f.elim, by omega⟩
    clear hCs hCb hKc p0 p1 HA2 HB2 K2 HZ2 CS
    have a2 := cell_blk HA.out 2 (v := .slice a xs.length c) rfl
    generalize hn : xs.length = n at *
    go_wp2_with fail
    go_loopw [15] (fun iv wr => ∃ i : Nat, iv = .int .i64 (i : Nat) ∧ i ≤ n ∧ Hid (PlI w xs nm dl C i wr ∧ wr.heap[w.heap.size]? = some (.cells #[.string nm, .int .i64 dl, .slice a n c] 24 (0, 0)) ∧ wr.heap[w.heap.size + 1]? = some (.cells #[.string ⟨#[]⟩, .int .i64 0, .slice none 0 0] 24 (0, 0)))) (fun iv _ => n - (intOf iv).toNat)
    case atStart => exact ⟨0, rfl, Nat.zero_le _, HI0.out, HA.out, HB.out⟩
    case round =>
      clear HI0 HA HB a2
      obtain ⟨i, rfl, hi, HD⟩ := hrel
      obtain ⟨⟨va, vc, ys, hyl, hCb, hN, hye, hK, hCs⟩, hA, hB⟩ := HD.out
      have HYL := hide hyl
      have HCb := hide hCb
      have HN := hide hN
      have HYE := hide hye
      have HK := hide hK
      have HA := hide hA
      have HB := hide hB
      clear HD hyl hCb hN hye hK hCs hA hB
      by_cases hlt : i < n
      · have hp := HP.out.keep HK.out (fun j hj => hj)
        obtain ⟨g, off, x, ha, hg, hx, hnd, hz1, hz2⟩ := hp.at (i := i) hlt
        have ha : a = some ⟨g, off, none⟩ := ha
        subst ha
        have hxm := List.mem_of_getElem? hx
        have HX := hide hx
        have hcc := HC.out x hxm
        have hzz := HZ.out x hxm
        have CN := hide (fun W => clone_str x.q.nm W (HNN.out x hxm))
        have T1 : Hid (∀ W, Keep (fun k => w.heap.size ≤ k) w W → Calls Try.prog 46 #[.slice x.q.ne.1 x.q.ne.2.1 x.q.ne.2.2] W fun e w' => ∃ v, e = .returned v ∧ w'.ownsRow W.heap.size 3 1 v x.nl.length (zi x.nl) ∧ Keep (fun _ => False) W w') := fun W kW => copyList_any x.q.ne x.nl w.heap.size W ((HP.out.2.2.2 x hxm).1.keep kW fun j hj => hj) hcc.1 (by omega)
        have T2 : Hid (∀ W, Keep (fun k => w.heap.size ≤ k) w W → Calls Try.prog 46 #[.slice x.q.af.1 x.q.af.2.1 x.q.af.2.2] W fun e w' => ∃ v, e = .returned v ∧ w'.ownsRow W.heap.size 3 1 v x.al.length (zi x.al) ∧ Keep (fun _ => False) W w') := fun W kW => copyList_any x.q.af x.al w.heap.size W ((HP.out.2.2.2 x hxm).2.keep kW fun j hj => hj) hcc.2 (by omega)
        clear hp hx hz1 hz2 hxm hcc hzz
        obtain ⟨n0, n1, n2, n3, n4, n5, n6, n7, n8, n9⟩ := hnd.all
        clear hnd
        obtain ⟨⟨nmx, la, bu, cl, be, bs, ca, ji, ⟨ne1, ne2, ne3⟩, ⟨af1, af2, af3⟩⟩, nl, al⟩ := x
        simp only at n0 n1 n2 n3 n4 n5 n6 n7 n8 n9 T1 T2 CN
        have k4 := Keep.alloc (fun _ => False) wr (.cells #[.string nmx, .int .i64 la, .int .i64 bu, .int .i64 cl, .int .i64 be, .int .i64 bs, .int .i64 ca, .int .i64 ji, .slice ne1 ne2 ne3, .slice af1 af2 af3] 36)
        have b4 := heap_alloc_new wr (.cells #[.string nmx, .int .i64 la, .int .i64 bu, .int .i64 cl, .int .i64 be, .int .i64 bs, .int .i64 ca, .int .i64 ji, .slice ne1 ne2 ne3, .slice af1 af2 af3] 36)
        have HQ4 := hide b4
        have K4 := hide (HK.out.more (k4.mono fun _ f => f.elim))
        have HCb4 := hide (k4.blk HCb.out (fun f => f))
        have HA4 := hide (k4.blk HA.out (fun f => f))
        have HB4 := hide (k4.blk HB.out (fun f => f))
        have HN4 := hide (HN.out.keep k4 (fun _ _ _ f => f.elim))
        have HQS : Hid (w.heap.size ≤ wr.heap.size) := HK.out.size
        have HQC : Hid (wr.heap.size ≠ C ∧ wr.heap.size ≠ w.heap.size ∧ wr.heap.size ≠ w.heap.size + 1) := by
          have g1 := (Array.getElem?_eq_some_iff.1 HCb.out).1
          have g2 := HCS.out
          refine ⟨by omega, by omega, by omega⟩
        have HVB : Hid ((Value.slice va i vc).ownBlock ≠ some wr.heap.size) := fun e => by have := (HN.out.1.lt _ e).2; omega
        clear k4 b4 HCb HA HB HN HK
        go_upto_region 5 with fail
        generalize wr.alloc (.cells #[.string nmx, .int .i64 la, .int .i64 bu, .int .i64 cl, .int .i64 be, .int .i64 bs, .int .i64 ca, .int .i64 ji, .slice ne1 ne2 ne3, .slice af1 af2 af3] 36) = w4 at *
        generalize hDD : wr.heap.size = D at *
        clear n0 n1 n2 n3 n4 n5 n6 n7 n8 n9
        have q0 := cell_blk HQ4.out 0 (v := .string nmx) rfl
        go_wp2_with fail
        go_at_call 45
        refine (CN.out _).mono ?_
        rintro e w4' ⟨rfl, hb4⟩
        have k5 := Keep.ofBelow (S := fun _ => False) hb4 (Nat.le_refl _)
        have hq5 := k5.blk HQ4.out (fun f => f)
        have f0 := frozen_blk hq5 0
        have q0' := cell_blk hq5 0 (v := .string nmx) rfl
        have kc5 := keep_cell w4' D 0 (.string nmx)
        have HQ5 : Hid ((w4'.setCell ⟨D, 0, none⟩ (.string nmx)).heap[D]? = some (.cells #[.string nmx, .int .i64 la, .int .i64 bu, .int .i64 cl, .int .i64 be, .int .i64 bs, .int .i64 ca, .int .i64 ji, .slice ne1 ne2 ne3, .slice af1 af2 af3] 36 (0, 0))) := set_blk hq5 0 (.string nmx)
        have HCb5 := hide (kc5.blk (k5.blk HCb4.out (fun f => f)) (fun e => HQC.out.1 e.symm))
        have HA5 := hide (kc5.blk (k5.blk HA4.out (fun f => f)) (fun e => HQC.out.2.1 e.symm))
        have HB5 := hide (kc5.blk (k5.blk HB4.out (fun f => f)) (fun e => HQC.out.2.2 e.symm))
        have HN5 := hide ((HN4.out.keep k5 (fun _ _ _ f => f.elim)).keepD kc5 hq5 HVB.out)
        have K5 := hide ((K4.out.more (k5.mono fun _ f => f.elim)).more (kc5.mono fun j hj => by have := HQS.out; omega))
        clear hb4 k5 hq5 kc5 CN HQ4 HCb4 HA4 HB4 HN4 K4 q0
        go_upto_region 6 with fail
        generalize w4'.setCell ⟨D, 0, none⟩ (.string nmx) = w6 at *
        clear f0 q0'
        have P1 : Hid (∀ W, (W.heap[D]? = some (.cells #[.string nmx, .int .i64 la, .int .i64 bu, .int .i64 cl, .int .i64 be, .int .i64 bs, .int .i64 ca, .int .i64 ji, .slice ne1 ne2 ne3, .slice af1 af2 af3] 36 (0, 0)) ∧ Keep (fun _ => False) w6 W) → Calls Try.prog 46 #[.slice ne1 ne2 ne3] W fun e w' => ∃ na nc, e = .returned (.slice na nl.length nc) ∧ (w'.heap[D]? = some (.cells #[.string nmx, .int .i64 la, .int .i64 bu, .int .i64 cl, .int .i64 be, .int .i64 bs, .int .i64 ca, .int .i64 ji, .slice ne1 ne2 ne3, .slice af1 af2 af3] 36 (0, 0)) ∧ Keep (fun _ => False) w6 w') ∧ Keep (fun _ => False) W w' ∧ w'.ownsRow w.heap.size 3 1 (.slice na nl.length nc) nl.length (zi nl)) := fun W hW => (T1.out W (K5.out.more (hW.2.mono fun _ f => f.elim))).mono fun e w' ⟨v, he, ho, hk⟩ => by
          obtain ⟨na, nc, rfl⟩ := ownsRow_shape ho
          exact ⟨na, nc, he, ⟨hk.blk hW.1 (fun f => f), hW.2.more hk⟩, hk, ownsRow_base ho (Nat.le_trans K5.out.size hW.2.size)⟩
        have P2 : Hid (∀ W, (W.heap[D]? = some (.cells #[.string nmx, .int .i64 la, .int .i64 bu, .int .i64 cl, .int .i64 be, .int .i64 bs, .int .i64 ca, .int .i64 ji, .slice ne1 ne2 ne3, .slice af1 af2 af3] 36 (0, 0)) ∧ Keep (fun _ => False) w6 W) → Calls Try.prog 46 #[.slice af1 af2 af3] W fun e w' => ∃ na nc, e = .returned (.slice na al.length nc) ∧ (w'.heap[D]? = some (.cells #[.string nmx, .int .i64 la, .int .i64 bu, .int .i64 cl, .int .i64 be, .int .i64 bs, .int .i64 ca, .int .i64 ji, .slice ne1 ne2 ne3, .slice af1 af2 af3] 36 (0, 0)) ∧ Keep (fun _ => False) w6 w') ∧ Keep (fun _ => False) W w' ∧ w'.ownsRow w.heap.size 3 1 (.slice na al.length nc) al.length (zi al)) := fun W hW => (T2.out W (K5.out.more (hW.2.mono fun _ f => f.elim))).mono fun e w' ⟨v, he, ho, hk⟩ => by
          obtain ⟨na, nc, rfl⟩ := ownsRow_shape ho
          exact ⟨na, nc, he, ⟨hk.blk hW.1 (fun f => f), hW.2.more hk⟩, hk, ownsRow_base ho (Nat.le_trans K5.out.size hW.2.size)⟩
        go_cut [] from 16 to 37 (fun wx => ∃ na nc ma mc, wx.heap[D]? = some (.cells #[.string nmx, .int .i64 la, .int .i64 bu, .int .i64 cl, .int .i64 be, .int .i64 bs, .int .i64 ca, .int .i64 ji, .slice na nl.length nc, .slice ma al.length mc] 36 (0, 0)) ∧ wx.ownsRow w.heap.size 3 1 (.slice na nl.length nc) nl.length (zi nl) ∧ wx.ownsRow w.heap.size 3 1 (.slice ma al.length mc) al.length (zi al) ∧ Keep (fun k => k = D) w6 wx)
        case first =>
          have q8 := cell_blk HQ5.out 8 (v := .slice ne1 ne2 ne3) rfl
          have q9 := cell_blk HQ5.out 9 (v := .slice af1 af2 af3) rfl
          have hPre0 := hide (And.intro (show w6.drew.heap[D]? = some (.cells #[.string nmx, .int .i64 la, .int .i64 bu, .int .i64 cl, .int .i64 be, .int .i64 bs, .int .i64 ca, .int .i64 ji, .slice ne1 ne2 ne3, .slice af1 af2 af3] 36 (0, 0)) from HQ5.out) (Keep.drew (fun _ => False) w6))
          clear T1 T2
          go_region_with (go_at_call 46; first
            | (refine (P1.out _ (by first | exact hPreB.out | exact hPre0.out)).mono ?_; rintro e wA ⟨na, nc, rfl, hPA, hKA, hOA⟩; have hPreA := hide hPA; have hKeA := hide hKA; have hOwA := hide hOA; have qA8 := cell_blk hPA.1 8 (v := .slice ne1 ne2 ne3) rfl; have qA9 := cell_blk hPA.1 9 (v := .slice af1 af2 af3) rfl; have fA8 := frozen_blk hPA.1 8; have fA9 := frozen_blk hPA.1 9; clear hPA hKA hOA)
            | (refine (P2.out _ (by first | exact hPreA.out | exact hPre0.out)).mono ?_; rintro e wB ⟨ma, mc, rfl, hPB, hKB, hOB⟩; have hPreB := hide hPB; have hKeB := hide hKB; have hOwB := hide hOB; have qB8 := cell_blk hPB.1 8 (v := .slice ne1 ne2 ne3) rfl; have qB9 := cell_blk hPB.1 9 (v := .slice af1 af2 af3) rfl; have fB8 := frozen_blk hPB.1 8; have fB9 := frozen_blk hPB.1 9; clear hPB hKB hOB))
          all_goals (go_wp2_with fail)
          all_goals go_meet
          all_goals (
            have o1 := ownsRow_new hOwA.out hKeB.out
            have hb9 := hPreB.out.1
            have kc1 := keep_cell wB D 8 (.slice na nl.length nc)
            have kc2 := keep_cell (wB.setCell ⟨D, 8, none⟩ (.slice na nl.length nc)) D 9 (.slice ma al.length mc)
            have hb8 := set_blk hb9 8 (.slice na nl.length nc)
            have o1' := ownsRow_keep o1 kc1 (fun j hj hh => row_far o1 hb9 (by decide) hh hj)
            have o2' := ownsRow_keep hOwB.out kc1 (fun j hj hh => row_far hOwB.out hb9 (by decide) hh hj)
            exact ⟨na, nc, ma, mc, set_blk hb8 9 _, ownsRow_keep o1' kc2 (fun j hj hh => row_far o1' hb8 (by decide) hh hj), ownsRow_keep o2' kc2 (fun j hj hh => row_far o2' hb8 (by decide) hh hj), ((hPreB.out.2.mono fun _ f => f.elim).more kc1).more kc2⟩)
        case rest =>
          obtain ⟨na, nc, ma, mc, hq7, ho1, ho2, hk7⟩ := hcut
          have HQ7 := hide hq7
          have HO7 := hide ho2
          have HP7 := hide ho1
          have HCb7 := hide (hk7.blk HCb5.out (fun e => HQC.out.1 e.symm))
          have HA7 := hide (hk7.blk HA5.out (fun e => HQC.out.2.1 e.symm))
          have HB7 := hide (hk7.blk HB5.out (fun e => HQC.out.2.2 e.symm))
          have HN7 := hide (HN5.out.keepD hk7 HQ5.out HVB.out)
          have K7 := hide (K5.out.more (hk7.mono fun j hj => by have := HQS.out; omega))
          clear hq7 ho1 ho2 hk7 HCb5 HA5 HB5 HN5 K5 HQ5 P1 P2 T1 T2
          go_upto_region 7 with fail
          have m2 := cell_blk HCb7.out 2 (v := .slice va i vc) rfl
          have r0 := cell_blk HQ7.out 0 (v := .string nmx) rfl
          have r1 := cell_blk HQ7.out 1 (v := .int .i64 la) rfl
          have r2 := cell_blk HQ7.out 2 (v := .int .i64 bu) rfl
          have r3 := cell_blk HQ7.out 3 (v := .int .i64 cl) rfl
          have r4 := cell_blk HQ7.out 4 (v := .int .i64 be) rfl
          have r5 := cell_blk HQ7.out 5 (v := .int .i64 bs) rfl
          have r6 := cell_blk HQ7.out 6 (v := .int .i64 ca) rfl
          have r7 := cell_blk HQ7.out 7 (v := .int .i64 ji) rfl
          have r8 := cell_blk HQ7.out 8 (v := .slice na nl.length nc) rfl
          have r9 := cell_blk HQ7.out 9 (v := .slice ma al.length mc) rfl
          have k9 := Keep.alloc (fun _ => False) wc (.cells #[.string nmx, .int .i64 la, .int .i64 bu, .int .i64 cl, .int .i64 be, .int .i64 bs, .int .i64 ca, .int .i64 ji, .slice na nl.length nc, .slice ma al.length mc] 36)
          have hE := heap_alloc_new wc (.cells #[.string nmx, .int .i64 la, .int .i64 bu, .int .i64 cl, .int .i64 be, .int .i64 bs, .int .i64 ca, .int .i64 ji, .slice na nl.length nc, .slice ma al.length mc] 36)
          have HE := hide hE
          have HN9 := hide (HN7.out.keep k9 (fun _ _ _ f => f.elim))
          have HCb9 := hide (k9.blk HCb7.out (fun f => f))
          have HA9 := hide (k9.blk HA7.out (fun f => f))
          have HB9 := hide (k9.blk HB7.out (fun f => f))
          have HO9 := hide (ownsRow_new HO7.out k9)
          have HP9 := hide (ownsRow_new HP7.out k9)
          have K9 := hide (K7.out.more (k9.mono fun _ f => f.elim))
          have hml : (ys.map (·.q)).length = i := by rw [List.length_map]; exact HYL.out
          have HRW : Hid ((wc.alloc (.cells #[.string nmx, .int .i64 la, .int .i64 bu, .int .i64 cl, .int .i64 be, .int .i64 bs, .int .i64 ca, .int .i64 ji, .slice na nl.length nc, .slice ma al.length mc] 36)).ownsRow w.heap.size 36 10 (.slice va i vc) (ys.map (·.q)).length (flat (ys.map (·.q)))) := by
            show World.ownsRow _ _ _ _ _ _ _
            rw [List.length_map]
            exact HN9.out.1
          have hml2 := hide hml
          have hzs : w.heap.size ≤ (wc.alloc (.cells #[.string nmx, .int .i64 la, .int .i64 bu, .int .i64 cl, .int .i64 be, .int .i64 bs, .int .i64 ca, .int .i64 ji, .slice na nl.length nc, .slice ma al.length mc] 36)).heap.size := K9.out.size
          have hil : (ys.map (·.q)).length ≤ 20000 := by rw [hml]; have := HL.out; omega
          clear hml hE k9 HCb7 HA7 HB7 HN7 K7 HO7 HP7 HQ7
          go_wp2_with (at_builtin; (refine wp_append_node rfl _ _ rfl w.heap.size (.slice va i vc) (ys.map fun y : No => y.q) rfl HRW.out wc.heap.size ⟨nmx, la, bu, cl, be, bs, ca, ji, (na, nl.length, nc), (ma, al.length, mc)⟩ rfl HE.out hil hzs ?_; intro v' w10 ho10 hk10; rw [hml2.out] at ho10; obtain ⟨oa, oc, hv'⟩ := ownsRow_shape ho10; subst hv'; have hk10' : Keep (fun k => (Value.slice va i vc).ownBlock = some k) _ w10 := hk10; obtain ⟨hC10, hI10⟩ := PlI.step HX.out HYL.out HYE.out K9.out (by have := HCS.out; omega) HCb9.out HN9.out _ (na, nl.length, nc) (ma, al.length, mc) rfl HP9.out HO9.out oa oc ho10 hk10'; have y2 := cell_blk hC10 2 (v := .slice va i vc) rfl; have fy := frozen_blk hC10 2; have HI10 := hide hI10; have HK10 := hide hk10'; have HC10 := hide hC10; clear ho10 hk10 hk10' hI10 hC10))
          have HA10 : Hid ((w10.setCell ⟨C, 2, none⟩ (.slice oa (i + 1) oc)).heap[w.heap.size]? = some (.cells #[.string nm, .int .i64 dl, .slice (some ⟨g, off, none⟩) n c] 24 (0, 0))) := (keep_cell w10 (C) 2 (.slice oa (i + 1) oc)).blk (HK10.out.blk HA9.out (fun e => by
            rcases HN9.out.1.2 with ⟨e1, _⟩ | ⟨g', cap, cur, e1, hb, hg', _⟩
            · rw [e1] at e; simp [Value.ownBlock] at e
            · rw [e1] at e
              simp [Value.ownBlock] at e
              subst e
              rw [HA9.out] at hg'
              injection hg' with hg'
              injection hg' with _ hg'
              exact absurd hg' (by decide))) (fun e => by have := HCS.out; omega)
          have HB10 : Hid ((w10.setCell ⟨C, 2, none⟩ (.slice oa (i + 1) oc)).heap[w.heap.size + 1]? = some (.cells #[.string ⟨#[]⟩, .int .i64 0, .slice none 0 0] 24 (0, 0))) := (keep_cell w10 (C) 2 (.slice oa (i + 1) oc)).blk (HK10.out.blk HB9.out (fun e => by
            rcases HN9.out.1.2 with ⟨e1, _⟩ | ⟨g', cap, cur, e1, hb, hg', _⟩
            · rw [e1] at e; simp [Value.ownBlock] at e
            · rw [e1] at e
              simp [Value.ownBlock] at e
              subst e
              rw [HB9.out] at hg'
              injection hg' with hg'
              injection hg' with _ hg'
              exact absurd hg' (by decide))) (fun e => by have := HCS.out; omega)
          clear m2 r0 r1 r2 r3 r4 r5 r6 r7 r8 r9
          go_wp2_with fail
          go_roundw
          · exact ⟨i + 1, rfl, by omega, HI10.out, HA10.out, HB10.out⟩
          · show n - ((i : Int) + 1).toNat < n - (i : Int).toNat
            omega
      · obtain rfl : i = n := by omega
        have m0 := cell_blk HCb.out 0 (v := .string nm) rfl
        have m1 := cell_blk HCb.out 1 (v := .int .i64 dl) rfl
        have m2 := cell_blk HCb.out 2 (v := .slice va i vc) rfl
        have f0 := frozen_blk HB.out 0
        have f1 := frozen_blk HB.out 1
        have f2 := frozen_blk HB.out 2
        have y0 := cell_blk HB.out 0 (v := .string ⟨#[]⟩) rfl
        have y1 := cell_blk HB.out 1 (v := .int .i64 0) rfl
        have y2 := cell_blk HB.out 2 (v := .slice none 0 0) rfl
        have HBR := hide (put3_blk HB.out (.string nm) (.int .i64 dl) (.slice va i vc))
        have kc := put3_keep wr (w.heap.size + 1) (.string nm) (.int .i64 dl) (.slice va i vc)
        have HNE := hide (HN.out.keep kc (fun j cs t hj hb => by
          rw [show j = w.heap.size + 1 from hj, HB.out] at hb
          injection hb with hb
          injection hb with _ hb
          subst hb
          exact ⟨by decide, by decide⟩))
        have KE := hide ((HK.out.more (kc.mono fun j hj => by omega)).below (B := w.heap.size) (Nat.le_refl _) fun j hj => hj)
        clear kc hlt
        go_wp2_with fail
        refine bodyPost_ret (res_plan rfl _ _ (w.heap.size + 1) _ _ _ rfl HBR.out) rfl ⟨va, vc, ys, ?_, ?_, ?_, ?_, KE.out⟩
        · rw [hn]
        · rw [HYL.out, hn]
        · rw [hn]; exact HNE.out
        · rw [HYE.out, ← hn, List.take_length]
end Rn
end Go.Proofs.Ytiackejbpcjmeaa
