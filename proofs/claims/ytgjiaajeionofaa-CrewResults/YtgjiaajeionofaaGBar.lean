/- bare: a plan with lists of its own that have no spare room. -/
import Derived.Test.YtgjiaajeionofaaGBaM
import Derived.Deep.Cut
namespace Go.Proofs.Ytgjiaajeionofaa
namespace Rn
open Go.RowKit Gr

set_option maxRecDepth 100000 in
set_option maxHeartbeats 20000000 in
theorem bare_any (nm : ByteArray) (dl : Int) (s : Option Addr × Nat × Nat) (xs : List No) (w : World) (hP : RdP w.heap.size w s xs) (hc : CapP xs) (hl : xs.length ≤ 20000) (hz : ∀ x ∈ xs, x.nl.length ≤ 20000 ∧ x.al.length ≤ 20000) :
    Calls Try.prog 6 #[.agg #[.string nm, .int .i64 dl, .slice s.1 s.2.1 s.2.2]] w fun e w' => ∃ a c ys, e = .returned (.agg #[.string nm, .int .i64 dl, .slice a xs.length c]) ∧ ys.length = xs.length ∧ NdX w.heap.size w' (.slice a xs.length c) ys ∧ ys.map er = xs.map er ∧ Below w.heap.size w w' := by
  obtain ⟨a, n, c⟩ := s
  have hn : n = xs.length := hP.1
  subst hn
  have HP := hide hP
  have HC := hide hc
  have HZ := hide hz
  have HL := hide hl
  clear hP hc hz
  have k1 := Keep.alloc (fun _ => False) w (.cells #[.string nm, .int .i64 dl, .slice a xs.length c] 24)
  have b1 := heap_alloc_new w (.cells #[.string nm, .int .i64 dl, .slice a xs.length c] 24)
  have k2 := Keep.alloc (fun _ => False) (w.alloc (.cells #[.string nm, .int .i64 dl, .slice a xs.length c] 24)) (.cells #[.string ⟨#[]⟩, .int .i64 0, .slice none 0 0] 24)
  have b2 := heap_alloc_new (w.alloc (.cells #[.string nm, .int .i64 dl, .slice a xs.length c] 24)) (.cells #[.string ⟨#[]⟩, .int .i64 0, .slice none 0 0] 24)
  have k3 := Keep.alloc (fun _ => False) ((w.alloc (.cells #[.string nm, .int .i64 dl, .slice a xs.length c] 24)).alloc (.cells #[.string ⟨#[]⟩, .int .i64 0, .slice none 0 0] 24)) (.cells #[.string nm, .int .i64 dl, .slice none 0 0] 24)
  have b3 := heap_alloc_new ((w.alloc (.cells #[.string nm, .int .i64 dl, .slice a xs.length c] 24)).alloc (.cells #[.string ⟨#[]⟩, .int .i64 0, .slice none 0 0] 24)) (.cells #[.string nm, .int .i64 dl, .slice none 0 0] 24)
  have z1 : (w.alloc (.cells #[.string nm, .int .i64 dl, .slice a xs.length c] 24)).heap.size = w.heap.size + 1 := by simp
  have z2 : ((w.alloc (.cells #[.string nm, .int .i64 dl, .slice a xs.length c] 24)).alloc (.cells #[.string ⟨#[]⟩, .int .i64 0, .slice none 0 0] 24)).heap.size = w.heap.size + 1 + 1 := by simp
  rw [z1] at b2
  rw [z2] at b3
  have HA := hide (k3.blk (k2.blk b1 (fun f => f)) (fun f => f))
  have HB := hide (k3.blk b2 (fun f => f))
  have HI0 : Hid (PlI w xs nm dl (w.heap.size + 1 + 1) 0 (((w.alloc (.cells #[.string nm, .int .i64 dl, .slice a xs.length c] 24)).alloc (.cells #[.string ⟨#[]⟩, .int .i64 0, .slice none 0 0] 24)).alloc (.cells #[.string nm, .int .i64 dl, .slice none 0 0] 24))) :=
    ⟨none, 0, [], rfl, b3, ⟨World.ownsRow_nil _ _ _ _, fun y hy => by cases hy⟩, rfl, ((k1.more k2).more k3).mono fun _ f => f.elim, by omega⟩
  clear k1 k2 k3 b1 b2 b3 z1 z2
  go_enter Try.func6, Try.ntmps6
  go_upto_region 2 with fail
  generalize ((w.alloc (.cells #[.string nm, .int .i64 dl, .slice a xs.length c] 24)).alloc (.cells #[.string ⟨#[]⟩, .int .i64 0, .slice none 0 0] 24)).alloc (.cells #[.string nm, .int .i64 dl, .slice none 0 0] 24) = w3 at *
  generalize hn : xs.length = n at *
  go_wp2_with fail
  go_loopw [4] (fun iv wr => ∃ i : Nat, iv = .int .i64 (i : Nat) ∧ i ≤ n ∧ Hid (PlI w xs nm dl (w.heap.size + 1 + 1) i wr ∧ wr.heap[w.heap.size]? = some (.cells #[.string nm, .int .i64 dl, .slice a n c] 24 (0, 0)) ∧ wr.heap[w.heap.size + 1]? = some (.cells #[.string ⟨#[]⟩, .int .i64 0, .slice none 0 0] 24 (0, 0)))) (fun iv _ => n - (intOf iv).toNat)
  case atStart => exact ⟨0, rfl, Nat.zero_le _, HI0.out, HA.out, HB.out⟩
  case round =>
    clear HI0 HA HB
    obtain ⟨i, rfl, hi, HD⟩ := hrel
    obtain ⟨⟨va, vc, ys, hyl, hCb, hN, hye, hK, hCs⟩, hA, hB⟩ := HD.out
    have a2 := cell_blk hA 2 (v := .slice a n c) rfl
    have HYL := hide hyl
    have HCb := hide hCb
    have HN := hide hN
    have HYE := hide hye
    have HK := hide hK
    have HA := hide hA
    have HB := hide hB
    clear HD hyl hCb hN hye hK hCs hA hB
    by_cases hlt : i < n
    · have hp := HP.out.keep HK.out (fun j hj => hj)
      obtain ⟨g, off, x, ha, hg, hx, hnd, hz1, hz2⟩ := hp.at (i := i) hlt
      have ha : a = some ⟨g, off, none⟩ := ha
      subst ha
      have hxm := List.mem_of_getElem? hx
      have HX := hide hx
      have hcc := HC.out x hxm
      have hzz := HZ.out x hxm
      have T1 : Hid (∀ W, Keep (fun k => w.heap.size ≤ k) w W → RdZ w.heap.size W x.q.ne x.nl) := fun W kW => (HP.out.2.2.2 x hxm).1.keep kW fun j hj => hj
      have T2 : Hid (∀ W, Keep (fun k => w.heap.size ≤ k) w W → RdZ w.heap.size W x.q.af x.al) := fun W kW => (HP.out.2.2.2 x hxm).2.keep kW fun j hj => hj
      have CP1 := hide hcc.1
      have CP2 := hide hcc.2
      have hz1' : x.nl.length ≤ 1048576 := by omega
      have hz2' : x.al.length ≤ 1048576 := by omega
      clear hp hx hz1 hz2 hxm hcc hzz
      obtain ⟨n0, n1, n2, n3, n4, n5, n6, n7, n8, n9⟩ := hnd.all
      clear hnd
      obtain ⟨⟨nmx, la, bu, cl, be, bs, ca, ji, ⟨ne1, ne2, ne3⟩, ⟨af1, af2, af3⟩⟩, nl, al⟩ := x
      simp only at n0 n1 n2 n3 n4 n5 n6 n7 n8 n9 T1 T2 CP1 CP2 hz1' hz2'
      -- the node's box
      have k4 := Keep.alloc (fun _ => False) wr (.cells #[.string nmx, .int .i64 la, .int .i64 bu, .int .i64 cl, .int .i64 be, .int .i64 bs, .int .i64 ca, .int .i64 ji, .slice ne1 ne2 ne3, .slice af1 af2 af3] 39)
      have b4 := heap_alloc_new wr (.cells #[.string nmx, .int .i64 la, .int .i64 bu, .int .i64 cl, .int .i64 be, .int .i64 bs, .int .i64 ca, .int .i64 ji, .slice ne1 ne2 ne3, .slice af1 af2 af3] 39)
      have HQ4 := hide b4
      have K4 := hide (HK.out.more (k4.mono fun _ f => f.elim))
      have HCb4 := hide (k4.blk HCb.out (fun f => f))
      have HA4 := hide (k4.blk HA.out (fun f => f))
      have HB4 := hide (k4.blk HB.out (fun f => f))
      have HN4 := hide (HN.out.keep k4 (fun _ _ _ f => f.elim))
      have HQS : Hid (w.heap.size ≤ wr.heap.size) := HK.out.size
      have HQC : Hid (wr.heap.size ≠ w.heap.size + 1 + 1 ∧ wr.heap.size ≠ w.heap.size ∧ wr.heap.size ≠ w.heap.size + 1) := by
        have g1 := (Array.getElem?_eq_some_iff.1 HCb.out).1
        refine ⟨by omega, by omega, by omega⟩
      have HVB : Hid ((Value.slice va i vc).ownBlock ≠ some wr.heap.size) := fun e => by have := (HN.out.1.lt _ e).2; omega
      clear k4 b4 HCb HA HB HN HK
      go_upto_region 8 with fail
      generalize wr.alloc (.cells #[.string nmx, .int .i64 la, .int .i64 bu, .int .i64 cl, .int .i64 be, .int .i64 bs, .int .i64 ca, .int .i64 ji, .slice ne1 ne2 ne3, .slice af1 af2 af3] 39) = w4 at *
      generalize hDD : wr.heap.size = D at *
      clear a2 n0 n1 n2 n3 n4 n5 n6 n7 n8 n9
      have q8 := cell_blk HQ4.out 8 (v := .slice ne1 ne2 ne3) rfl
      have C1 := hide (T1.out w4 K4.out)
      go_upto_region 9 with (at_builtin; go_must (refine wp_appendZ rfl _ _ rfl w4.heap.size w.heap.size rfl (ne1, ne2, ne3) nl rfl C1.out CP1.out hz1' (Nat.le_refl _) ?_); intro v1 w5 ho1 k5; obtain ⟨na, nc, hv1⟩ := ownsRow_shape ho1; subst hv1; have hq5 := k5.blk HQ4.out (fun f => f); have f8 := frozen_blk hq5 8; have q8' := cell_blk hq5 8 (v := .slice ne1 ne2 ne3) rfl; have HO1 := hide ho1; have K5a := hide k5; clear ho1 k5 hq5)
      have ho1 := HO1.out
      have k5 := K5a.out
      have hq5 := k5.blk HQ4.out (fun f => f)
      have kc5 := keep_cell w5 D 8 (.slice na nl.length nc)
      have HQ5 := hide (set_blk hq5 8 (.slice na nl.length nc))
      have HO5 := hide (ownsRow_base (ownsRow_keep ho1 kc5 (fun j hj hh => row_far ho1 hq5 (by decide) hh hj)) K4.out.size)
      have HCb5 := hide (kc5.blk (k5.blk HCb4.out (fun f => f)) (fun e => HQC.out.1 e.symm))
      have HA5 := hide (kc5.blk (k5.blk HA4.out (fun f => f)) (fun e => HQC.out.2.1 e.symm))
      have HB5 := hide (kc5.blk (k5.blk HB4.out (fun f => f)) (fun e => HQC.out.2.2 e.symm))
      have HN5 := hide ((HN4.out.keep k5 (fun _ _ _ f => f.elim)).keepD kc5 hq5 HVB.out)
      have K5 := hide ((K4.out.more (k5.mono fun _ f => f.elim)).more (kc5.mono fun j hj => by have := HQS.out; omega))
      clear C1 ho1 k5 hq5 kc5 T1 HQ4 HCb4 HA4 HB4 HN4 K4 q8 HO1 K5a
      generalize w5.setCell ⟨D, 8, none⟩ (.slice na nl.length nc) = w6 at *
      clear f8 q8'
      have q9 := cell_blk HQ5.out 9 (v := .slice af1 af2 af3) rfl
      have C2 := hide (T2.out w6 K5.out)
      go_upto_region 10 with (at_builtin; go_must (refine wp_appendZ rfl _ _ rfl w6.heap.size w.heap.size rfl (af1, af2, af3) al rfl C2.out CP2.out hz2' (Nat.le_refl _) ?_); intro v2 w7 ho2 k7; obtain ⟨ma, mc, hv2⟩ := ownsRow_shape ho2; subst hv2; have hq7 := k7.blk HQ5.out (fun f => f); have f9 := frozen_blk hq7 9; have q9' := cell_blk hq7 9 (v := .slice af1 af2 af3) rfl; have HO2 := hide ho2; have K7a := hide k7; clear ho2 k7 hq7)
      have ho2 := HO2.out
      have k7 := K7a.out
      have hq7 := k7.blk HQ5.out (fun f => f)
      have kc7 := keep_cell w7 D 9 (.slice ma al.length mc)
      have HQ7 := hide (set_blk hq7 9 (.slice ma al.length mc))
      have HO7 := hide (ownsRow_base (ownsRow_keep ho2 kc7 (fun j hj hh => row_far ho2 hq7 (by decide) hh hj)) K5.out.size)
      have HP7 := hide (ownsRow_keep (ownsRow_new HO5.out k7) kc7 (fun j hj hh => row_far (ownsRow_new HO5.out k7) hq7 (by decide) hh hj))
      have HCb7 := hide (kc7.blk (k7.blk HCb5.out (fun f => f)) (fun e => HQC.out.1 e.symm))
      have HA7 := hide (kc7.blk (k7.blk HA5.out (fun f => f)) (fun e => HQC.out.2.1 e.symm))
      have HB7 := hide (kc7.blk (k7.blk HB5.out (fun f => f)) (fun e => HQC.out.2.2 e.symm))
      have HN7 := hide ((HN5.out.keep k7 (fun _ _ _ f => f.elim)).keepD kc7 hq7 HVB.out)
      have K7 := hide ((K5.out.more (k7.mono fun _ f => f.elim)).more (kc7.mono fun j hj => by have := HQS.out; omega))
      clear C2 ho2 k7 hq7 kc7 T2 HQ5 HO5 HCb5 HA5 HB5 HN5 K5 q9 HO2 K7a
      generalize w7.setCell ⟨D, 9, none⟩ (.slice ma al.length mc) = w8 at *
      clear f9 q9'
      have m2 := cell_blk HCb7.out 2 (v := .slice va i vc) rfl
      have r0 := cell_blk HQ7.out 0 (v := .string nmx) rfl
      have r1 := cell_blk HQ7.out 1 (v := .int .i64 la) rfl
      have r2 := cell_blk HQ7.out 2 (v := .int .i64 bu) rfl
      have r3 := cell_blk HQ7.out 3 (v := .int .i64 cl) rfl
      have r4 := cell_blk HQ7.out 4 (v := .int .i64 be) rfl
      have r5 := cell_blk HQ7.out 5 (v := .int .i64 bs) rfl
      have r6 := cell_blk HQ7.out 6 (v := .int .i64 ca) rfl
      have r7 := cell_blk HQ7.out 7 (v := .int .i64 ji) rfl
      have r8 := cell_blk HQ7.out 8 (v := .slice na nl.length nc) rfl
      have r9 := cell_blk HQ7.out 9 (v := .slice ma al.length mc) rfl
      have k9 := Keep.alloc (fun _ => False) w8 (.cells #[.string nmx, .int .i64 la, .int .i64 bu, .int .i64 cl, .int .i64 be, .int .i64 bs, .int .i64 ca, .int .i64 ji, .slice na nl.length nc, .slice ma al.length mc] 39)
      have hE := heap_alloc_new w8 (.cells #[.string nmx, .int .i64 la, .int .i64 bu, .int .i64 cl, .int .i64 be, .int .i64 bs, .int .i64 ca, .int .i64 ji, .slice na nl.length nc, .slice ma al.length mc] 39)
      have HE := hide hE
      have HN9 := hide (HN7.out.keep k9 (fun _ _ _ f => f.elim))
      have HCb9 := hide (k9.blk HCb7.out (fun f => f))
      have HA9 := hide (k9.blk HA7.out (fun f => f))
      have HB9 := hide (k9.blk HB7.out (fun f => f))
      have HO9 := hide (ownsRow_new HO7.out k9)
      have HP9 := hide (ownsRow_new HP7.out k9)
      have K9 := hide (K7.out.more (k9.mono fun _ f => f.elim))
      have hml : (ys.map (·.q)).length = i := by rw [List.length_map]; exact HYL.out
      have HRW : Hid ((w8.alloc (.cells #[.string nmx, .int .i64 la, .int .i64 bu, .int .i64 cl, .int .i64 be, .int .i64 bs, .int .i64 ca, .int .i64 ji, .slice na nl.length nc, .slice ma al.length mc] 39)).ownsRow w.heap.size 39 10 (.slice va i vc) (ys.map (·.q)).length (flat (ys.map (·.q)))) := by
        show World.ownsRow _ _ _ _ _ _ _
        rw [List.length_map]
        exact HN9.out.1
      have hml2 := hide hml
      have hzs : w.heap.size ≤ (w8.alloc (.cells #[.string nmx, .int .i64 la, .int .i64 bu, .int .i64 cl, .int .i64 be, .int .i64 bs, .int .i64 ca, .int .i64 ji, .slice na nl.length nc, .slice ma al.length mc] 39)).heap.size := K9.out.size
      have hil : (ys.map (·.q)).length ≤ 20000 := by rw [hml]; have := HL.out; omega
      clear hml hE k9 HCb7 HA7 HB7 HN7 K7 HO7 HP7 HQ7
      go_wp2_with (at_builtin; (refine wp_append_node rfl _ _ rfl w.heap.size (.slice va i vc) (ys.map fun y : No => y.q) rfl HRW.out w8.heap.size ⟨nmx, la, bu, cl, be, bs, ca, ji, (na, nl.length, nc), (ma, al.length, mc)⟩ rfl HE.out hil hzs ?_; intro v' w10 ho10 hk10; rw [hml2.out] at ho10; obtain ⟨oa, oc, hv'⟩ := ownsRow_shape ho10; subst hv'; have hk10' : Keep (fun k => (Value.slice va i vc).ownBlock = some k) _ w10 := hk10; obtain ⟨hC10, hI10⟩ := PlI.step HX.out HYL.out HYE.out K9.out (by omega) HCb9.out HN9.out _ (na, nl.length, nc) (ma, al.length, mc) rfl HP9.out HO9.out oa oc ho10 hk10'; have y2 := cell_blk hC10 2 (v := .slice va i vc) rfl; have fy := frozen_blk hC10 2; have HI10 := hide hI10; have HK10 := hide hk10'; have HC10 := hide hC10; clear ho10 hk10 hk10' hI10 hC10))
      have HA10 : Hid ((w10.setCell ⟨w.heap.size + 1 + 1, 2, none⟩ (.slice oa (i + 1) oc)).heap[w.heap.size]? = some (.cells #[.string nm, .int .i64 dl, .slice (some ⟨g, off, none⟩) n c] 24 (0, 0))) := (keep_cell w10 (w.heap.size + 1 + 1) 2 (.slice oa (i + 1) oc)).blk (HK10.out.blk HA9.out (fun e => by
        rcases HN9.out.1.2 with ⟨e1, _⟩ | ⟨g', cap, cur, e1, hb, hg', _⟩
        · rw [e1] at e; simp [Value.ownBlock] at e
        · rw [e1] at e
          simp [Value.ownBlock] at e
          subst e
          rw [HA9.out] at hg'
          injection hg' with hg'
          injection hg' with _ hg'
          exact absurd hg' (by decide))) (fun e => by omega)
      have HB10 : Hid ((w10.setCell ⟨w.heap.size + 1 + 1, 2, none⟩ (.slice oa (i + 1) oc)).heap[w.heap.size + 1]? = some (.cells #[.string ⟨#[]⟩, .int .i64 0, .slice none 0 0] 24 (0, 0))) := (keep_cell w10 (w.heap.size + 1 + 1) 2 (.slice oa (i + 1) oc)).blk (HK10.out.blk HB9.out (fun e => by
        rcases HN9.out.1.2 with ⟨e1, _⟩ | ⟨g', cap, cur, e1, hb, hg', _⟩
        · rw [e1] at e; simp [Value.ownBlock] at e
        · rw [e1] at e
          simp [Value.ownBlock] at e
          subst e
          rw [HB9.out] at hg'
          injection hg' with hg'
          injection hg' with _ hg'
          exact absurd hg' (by decide))) (fun e => by omega)
      clear m2 r0 r1 r2 r3 r4 r5 r6 r7 r8 r9
      go_wp2_with fail
      go_roundw
      · exact ⟨i + 1, rfl, by omega, HI10.out, HA10.out, HB10.out⟩
      · show n - ((i : Int) + 1).toNat < n - (i : Int).toNat
        omega
    · obtain rfl : i = n := by omega
      have m0 := cell_blk HCb.out 0 (v := .string nm) rfl
      have m1 := cell_blk HCb.out 1 (v := .int .i64 dl) rfl
      have m2 := cell_blk HCb.out 2 (v := .slice va i vc) rfl
      have f0 := frozen_blk HB.out 0
      have f1 := frozen_blk HB.out 1
      have f2 := frozen_blk HB.out 2
      have y0 := cell_blk HB.out 0 (v := .string ⟨#[]⟩) rfl
      have y1 := cell_blk HB.out 1 (v := .int .i64 0) rfl
      have y2 := cell_blk HB.out 2 (v := .slice none 0 0) rfl
      have HBR := hide (put3_blk HB.out (.string nm) (.int .i64 dl) (.slice va i vc))
      have kc := put3_keep wr (w.heap.size + 1) (.string nm) (.int .i64 dl) (.slice va i vc)
      have HNE := hide (HN.out.keep kc (fun j cs t hj hb => by
        rw [show j = w.heap.size + 1 from hj, HB.out] at hb
        injection hb with hb
        injection hb with _ hb
        subst hb
        exact ⟨by decide, by decide⟩))
      have KE := hide ((HK.out.more (kc.mono fun j hj => by omega)).below (B := w.heap.size) (Nat.le_refl _) fun j hj => hj)
      clear kc hlt
      go_wp2_with fail
      refine bodyPost_ret (res_plan rfl _ _ (w.heap.size + 1) _ _ _ rfl HBR.out) rfl ⟨va, vc, ys, ?_, ?_, ?_, ?_, KE.out⟩
      · rw [hn]
      · rw [HYL.out, hn]
      · rw [hn]; exact HNE.out
      · rw [HYE.out, ← hn, List.take_length]
end Rn
end Go.Proofs.Ytgjiaajeionofaa
