/- CodecBack: the walk (written by cgu_gen.py). -/
import Derived.Test.YtbjcckfhfbjchaaGreatCGu
namespace Go.Proofs.YtbjcckfhfbjchaaGreat
namespace Cd
open Go.RowKit Go.Deep

set_option maxRecDepth 100000 in
set_option maxHeartbeats 20000000 in
theorem back_core (z : Int) (q : De) (w : World) (hq : q.In w) (d : Ov) (p : Pv) (L M : List Nat) (n n1 m m1 x : Nat)
    (hx : IntKind.u8.wrap z = (x : Int)) (HX256 : Hid (x < 256))
    (tn0 : ((n : Int) == 0) = false) (tm0 : ((m : Int) == 0) = false) (tn8 : ¬ (8192 : Int) < (n : Int)) (tm8 : ¬ (8192 : Int) < (m : Int))
    (en1 : (n : Int) - 1 = (n1 : Int)) (em1 : (m : Int) - 1 = (m1 : Int)) (HNN : Hid (L.length = n ∧ M.length = m ∧ n1 ≤ n ∧ m1 ≤ m ∧ n ≤ 8192 ∧ m ≤ 8192))
    (OO : Hid (∀ W, q.In W → Calls Tryz.prog 9 #[.agg q.row.toArray] W fun e w' => ∃ v, e = .returned v ∧ OvV d w' v ∧ Below W.heap.size W w'))
    (PO : Hid (∀ W, q.In W → Calls Tryz.prog 10 #[.slice q.s.1 q.s.2.1 q.s.2.2, .int .i64 q.nu] W fun e w' => ∃ v, e = .returned v ∧ PlV p w' v ∧ Below W.heap.size W w'))
    (OB : Hid (∀ W v, OvV d W v → Calls Tryz.prog 11 #[v] W fun en w' => OutB L n W w' en))
    (PB : Hid (∀ W v, PlV p W v → Calls Tryz.prog 12 #[v] W fun en w' => OutB M m W w' en))
    (CK : Hid (∀ W v, OvV d W v → Calls Tryz.prog 13 #[v] W fun en w' => en = .returned (.int .i64 0) ∧ Below W.heap.size W w'))
    (RO : Hid (∀ a c W, Rd W a n L → (a = none → c = 0) → Calls Tryz.prog 14 #[.slice a n c] W fun en w' => ∃ v, en = .returned (.tuple #[v, .int .i64 0]) ∧ OvV d w' v ∧ Below W.heap.size W w'))
    (RP : Hid (∀ a c W, Rd W a m M → (a = none → c = 0) → Calls Tryz.prog 15 #[.slice a m c] W fun en w' => ∃ v, en = .returned (.tuple #[v, .int .i64 0]) ∧ PlV p w' v ∧ Below W.heap.size W w'))
    (LK : Hid (∀ W u v, OvV d W u → OvV d W v → Calls Tryz.prog 16 #[u, v] W fun en w' => en = .returned (.bool true) ∧ Below W.heap.size W w'))
    (AK : Hid (∀ W u v, PlV p W u → PlV p W v → Calls Tryz.prog 17 #[u, v] W fun en w' => en = .returned (.bool true) ∧ Below W.heap.size W w'))
    (O1 : Hid (∀ a c k W, Rd W a k (L ++ [x]) → (a = none → c = 0) → Calls Tryz.prog 14 #[.slice a k c] W fun en w' => en = .returned (.tuple #[.agg #[.int .i64 0, .string ⟨#[]⟩, .int .i64 0, .slice none 0 0, .string ⟨#[]⟩, .int .i64 0, .int .i64 0, .int .i64 0, .slice none 0 0, .int .i64 0, .int .u64 0, .int .i64 0], .int .i64 121]) ∧ Below W.heap.size W w'))
    (O2 : Hid ((∀ b ∈ L, b < 256) → ∀ a c k W, Rd W a k (L.take n1) → (a = none → c = 0) → Calls Tryz.prog 14 #[.slice a k c] W fun en w' => en = .returned (.tuple #[.agg #[.int .i64 0, .string ⟨#[]⟩, .int .i64 0, .slice none 0 0, .string ⟨#[]⟩, .int .i64 0, .int .i64 0, .int .i64 0, .slice none 0 0, .int .i64 0, .int .u64 0, .int .i64 0], .int .i64 121]) ∧ Below W.heap.size W w'))
    (P1 : Hid (∀ a c k W, Rd W a k (M ++ [x]) → (a = none → c = 0) → Calls Tryz.prog 15 #[.slice a k c] W fun en w' => en = .returned (.tuple #[.agg #[.string ⟨#[]⟩, .int .i64 0, .slice none 0 0], .int .i64 120]) ∧ Below W.heap.size W w'))
    (P2 : Hid ((∀ b ∈ M, b < 256) → ∀ a c k W, Rd W a k (M.take m1) → (a = none → c = 0) → Calls Tryz.prog 15 #[.slice a k c] W fun en w' => en = .returned (.tuple #[.agg #[.string ⟨#[]⟩, .int .i64 0, .slice none 0 0], .int .i64 120]) ∧ Below W.heap.size W w')) :
    Calls Tryz.prog 4 #[.agg q.row.toArray, .int .i64 z] w fun en w' => en = .returned (.bool true) ∧ Below w.heap.size w w' := by
  obtain ⟨ki, ⟨sa, sn, sc⟩, nu, wo, ⟨ta, tn, tc⟩, lu, rs, tx⟩ := q
  change Calls Tryz.prog _ #[.agg #[.int .i64 ki, .slice sa sn sc, .int .i64 nu, .int .i64 wo, .slice ta tn tc, .int .u64 (lu : Int)], .int .i64 z] w _
  have hba : Below w.heap.size w (w.alloc (.cells #[.int .i64 ki, .slice sa sn sc, .int .i64 nu, .int .i64 wo, .slice ta tn tc, .int .u64 (lu : Int)] 27)) := (Below.refl _ _).alloc (Nat.le_refl _) _
  have HB0 := hide hba
  have HD_0 := hide (heap_alloc_new w (.cells #[.int .i64 ki, .slice sa sn sc, .int .i64 nu, .int .i64 wo, .slice ta tn tc, .int .u64 (lu : Int)] 27))
  have HQ_0 := hide (hq.bel hba)
  clear hba hq
  go_enter Tryz.func4, Tryz.ntmps4
  go_upto_region 1 with fail
  generalize w.alloc (.cells #[.int .i64 ki, .slice sa sn sc, .int .i64 nu, .int .i64 wo, .slice ta tn tc, .int .u64 (lu : Int)] 27) = w1 at *
  go_wp2_with fail
  try (go_at_call 8)
  refine (known12_any _).mono ?_
  rintro e w2 ⟨rfl, hb⟩
  have HB1 := hide (HB0.out.trans (hb.mono HB0.out.size))
  have HD_1 := hide (blkB HD_0.out hb)
  have HQ_1 := hide (HQ_0.out.bel hb)
  clear HD_0 HQ_0 HB0
  clear hb
  have f0 := cell_blk HD_1.out 0 (v := .int .i64 ki) rfl
  have f1 := cell_blk HD_1.out 1 (v := .slice sa sn sc) rfl
  have f2 := cell_blk HD_1.out 2 (v := .int .i64 nu) rfl
  have f3 := cell_blk HD_1.out 3 (v := .int .i64 wo) rfl
  have f4 := cell_blk HD_1.out 4 (v := .slice ta tn tc) rfl
  have f5 := cell_blk HD_1.out 5 (v := .int .u64 (lu : Int)) rfl
  go_wp2_with fail
  try (go_at_call 9)
  refine (OO.out w2 HQ_1.out).mono ?_
  rintro e w3 ⟨v, rfl, hv, hb⟩
  have HB2 := hide (HB1.out.trans (hb.mono HB1.out.size))
  have HD_2 := hide (blkB HD_1.out hb)
  have HQ_2 := hide (HQ_1.out.bel hb)
  clear HD_1 HQ_1 HB1
  clear hb
  clear f0 f1 f2 f3 f4 f5
  have HV_2 := hide (hv)
  obtain ⟨oki, onm, odl, ox1, ox2, ox3, oky, ola, owo, otk, oy1, oy2, oy3, oru, olu, oti, ev, hov⟩ := hv
  subst ev
  clear hov OO
  have hba : Below w3.heap.size w3 (w3.alloc (.cells #[.int .i64 oki, .string onm, .int .i64 odl, .slice ox1 ox2 ox3, .string oky, .int .i64 ola, .int .i64 owo, .int .i64 otk, .slice oy1 oy2 oy3, .int .i64 oru, .int .u64 olu, .int .i64 oti] 32)) := (Below.refl _ _).alloc (Nat.le_refl _) _
  have hnx := heap_alloc_new w3 (.cells #[.int .i64 oki, .string onm, .int .i64 odl, .slice ox1 ox2 ox3, .string oky, .int .i64 ola, .int .i64 owo, .int .i64 otk, .slice oy1 oy2 oy3, .int .i64 oru, .int .u64 olu, .int .i64 oti] 32)
  have HB3 := hide (HB2.out.trans (hba.mono HB2.out.size))
  have HD_3 := hide (blkB HD_2.out hba)
  have HQ_3 := hide (HQ_2.out.bel hba)
  have HV_3 := hide (HV_2.out.bel hba)
  clear HD_2 HQ_2 HV_2 HB2
  have HO_3 := hide (hnx)
  clear hba hnx
  go_upto_region 4 with fail
  generalize w3.alloc (.cells #[.int .i64 oki, .string onm, .int .i64 odl, .slice ox1 ox2 ox3, .string oky, .int .i64 ola, .int .i64 owo, .int .i64 otk, .slice oy1 oy2 oy3, .int .i64 oru, .int .u64 olu, .int .i64 oti] 32) = w4 at *
  generalize w3.heap.size = ob at *
  have f0 := cell_blk HD_3.out 0 (v := .int .i64 ki) rfl
  have f1 := cell_blk HD_3.out 1 (v := .slice sa sn sc) rfl
  have f2 := cell_blk HD_3.out 2 (v := .int .i64 nu) rfl
  have f3 := cell_blk HD_3.out 3 (v := .int .i64 wo) rfl
  have f4 := cell_blk HD_3.out 4 (v := .slice ta tn tc) rfl
  have f5 := cell_blk HD_3.out 5 (v := .int .u64 (lu : Int)) rfl
  go_wp2_with fail
  try (go_at_call 10)
  refine (PO.out w4 HQ_3.out).mono ?_
  rintro e w5 ⟨v, rfl, hv, hb⟩
  have HB4 := hide (HB3.out.trans (hb.mono HB3.out.size))
  have HD_4 := hide (blkB HD_3.out hb)
  have HQ_4 := hide (HQ_3.out.bel hb)
  have HV_4 := hide (HV_3.out.bel hb)
  have HO_4 := hide (blkB HO_3.out hb)
  clear HD_3 HQ_3 HV_3 HO_3 HB3
  clear hb
  clear f0 f1 f2 f3 f4 f5
  have HW_4 := hide (hv)
  obtain ⟨p1, p2, p3, ev, hov⟩ := hv
  obtain ⟨pm, hpm⟩ : ∃ x, str p.1.1 = x := ⟨_, rfl⟩
  obtain ⟨pd, hpd⟩ : ∃ x, p.1.2 = x := ⟨_, rfl⟩
  rw [hpm, hpd] at ev
  subst ev
  clear hov hpm hpd PO
  clear HD_4
  clear HQ_4
  have hba : Below w5.heap.size w5 (w5.alloc (.cells #[.string pm, .int .i64 pd, .slice p1 p2 p3] 30)) := (Below.refl _ _).alloc (Nat.le_refl _) _
  have hnx := heap_alloc_new w5 (.cells #[.string pm, .int .i64 pd, .slice p1 p2 p3] 30)
  have HB5 := hide (HB4.out.trans (hba.mono HB4.out.size))
  have HV_5 := hide (HV_4.out.bel hba)
  have HO_5 := hide (blkB HO_4.out hba)
  have HW_5 := hide (HW_4.out.bel hba)
  clear HV_4 HO_4 HW_4 HB4
  have HP_5 := hide (hnx)
  clear hba hnx
  go_upto_region 5 with fail
  generalize w5.alloc (.cells #[.string pm, .int .i64 pd, .slice p1 p2 p3] 30) = w6 at *
  generalize w5.heap.size = pb at *
  have f0 := cell_blk HO_5.out 0 (v := .int .i64 oki) rfl
  have f1 := cell_blk HO_5.out 1 (v := .string onm) rfl
  have f2 := cell_blk HO_5.out 2 (v := .int .i64 odl) rfl
  have f3 := cell_blk HO_5.out 3 (v := .slice ox1 ox2 ox3) rfl
  have f4 := cell_blk HO_5.out 4 (v := .string oky) rfl
  have f5 := cell_blk HO_5.out 5 (v := .int .i64 ola) rfl
  have f6 := cell_blk HO_5.out 6 (v := .int .i64 owo) rfl
  have f7 := cell_blk HO_5.out 7 (v := .int .i64 otk) rfl
  have f8 := cell_blk HO_5.out 8 (v := .slice oy1 oy2 oy3) rfl
  have f9 := cell_blk HO_5.out 9 (v := .int .i64 oru) rfl
  have f10 := cell_blk HO_5.out 10 (v := .int .u64 olu) rfl
  have f11 := cell_blk HO_5.out 11 (v := .int .i64 oti) rfl
  go_wp2_with fail
  try (go_at_call 11)
  refine (OB.out w6 _ HV_5.out).mono ?_
  rintro e w7 ⟨a, c, rfl, hr, h0, hc, hb⟩
  have HB6 := hide (HB5.out.trans (hb.mono HB5.out.size))
  have HV_6 := hide (HV_5.out.bel hb)
  have HO_6 := hide (blkB HO_5.out hb)
  have HW_6 := hide (HW_5.out.bel hb)
  have HP_6 := hide (blkB HP_5.out hb)
  clear HV_5 HO_5 HW_5 HP_5 HB5
  clear hb
  clear f0 f1 f2 f3 f4 f5 f6 f7 f8 f9 f10 f11
  have HLB := hide hr.2.2.1
  have HR_6 := hide (hr)
  have HA0 := hide h0
  have HAC := hide hc
  clear hr h0 hc OB
  have f0 := cell_blk HP_6.out 0 (v := .string pm) rfl
  have f1 := cell_blk HP_6.out 1 (v := .int .i64 pd) rfl
  have f2 := cell_blk HP_6.out 2 (v := .slice p1 p2 p3) rfl
  go_wp2_with fail
  try (go_at_call 12)
  refine (PB.out w7 _ HW_6.out).mono ?_
  rintro e w8 ⟨b, c2, rfl, hr, h0, hc, hb⟩
  have HB7 := hide (HB6.out.trans (hb.mono HB6.out.size))
  have HV_7 := hide (HV_6.out.bel hb)
  have HO_7 := hide (blkB HO_6.out hb)
  have HW_7 := hide (HW_6.out.bel hb)
  have HP_7 := hide (blkB HP_6.out hb)
  have HR_7 := hide (HR_6.out.keep hb)
  clear HV_6 HO_6 HW_6 HP_6 HR_6 HB6
  clear hb
  clear f0 f1 f2
  have HMB := hide hr.2.2.1
  have HS_7 := hide (hr)
  have HS0 := hide h0
  have HSC := hide hc
  clear hr h0 hc PB
  have f0 := cell_blk HO_7.out 0 (v := .int .i64 oki) rfl
  have f1 := cell_blk HO_7.out 1 (v := .string onm) rfl
  have f2 := cell_blk HO_7.out 2 (v := .int .i64 odl) rfl
  have f3 := cell_blk HO_7.out 3 (v := .slice ox1 ox2 ox3) rfl
  have f4 := cell_blk HO_7.out 4 (v := .string oky) rfl
  have f5 := cell_blk HO_7.out 5 (v := .int .i64 ola) rfl
  have f6 := cell_blk HO_7.out 6 (v := .int .i64 owo) rfl
  have f7 := cell_blk HO_7.out 7 (v := .int .i64 otk) rfl
  have f8 := cell_blk HO_7.out 8 (v := .slice oy1 oy2 oy3) rfl
  have f9 := cell_blk HO_7.out 9 (v := .int .i64 oru) rfl
  have f10 := cell_blk HO_7.out 10 (v := .int .u64 olu) rfl
  have f11 := cell_blk HO_7.out 11 (v := .int .i64 oti) rfl
  go_wp2_with fail
  try (go_at_call 13)
  refine (CK.out w8 _ HV_7.out).mono ?_
  rintro e w9 ⟨rfl, hb⟩
  have HB8 := hide (HB7.out.trans (hb.mono HB7.out.size))
  have HV_8 := hide (HV_7.out.bel hb)
  have HO_8 := hide (blkB HO_7.out hb)
  have HW_8 := hide (HW_7.out.bel hb)
  have HP_8 := hide (blkB HP_7.out hb)
  have HR_8 := hide (HR_7.out.keep hb)
  have HS_8 := hide (HS_7.out.keep hb)
  clear HV_7 HO_7 HW_7 HP_7 HR_7 HS_7 HB7
  clear hb CK
  clear f0 f1 f2 f3 f4 f5 f6 f7 f8 f9 f10 f11
  go_upto_region 9 with fail
  go_wp2_with fail
  try (go_at_call 14)
  refine (RO.out a c w9 HR_8.out HA0.out).mono ?_
  rintro e w10 ⟨v, rfl, hv, hb⟩
  have HB9 := hide (HB8.out.trans (hb.mono HB8.out.size))
  have HV_9 := hide (HV_8.out.bel hb)
  have HO_9 := hide (blkB HO_8.out hb)
  have HW_9 := hide (HW_8.out.bel hb)
  have HP_9 := hide (blkB HP_8.out hb)
  have HR_9 := hide (HR_8.out.keep hb)
  have HS_9 := hide (HS_8.out.keep hb)
  clear HV_8 HO_8 HW_8 HP_8 HR_8 HS_8 HB8
  clear hb
  have HVX_9 := hide (hv)
  obtain ⟨xki, xnm, xdl, xx1, xx2, xx3, xky, xla, xwo, xtk, xy1, xy2, xy3, xru, xlu, xti, ev, hov⟩ := hv
  subst ev
  clear hov RO
  have hba : Below w10.heap.size w10 (w10.alloc (.cells #[.int .i64 xki, .string xnm, .int .i64 xdl, .slice xx1 xx2 xx3, .string xky, .int .i64 xla, .int .i64 xwo, .int .i64 xtk, .slice xy1 xy2 xy3, .int .i64 xru, .int .u64 xlu, .int .i64 xti] 32)) := (Below.refl _ _).alloc (Nat.le_refl _) _
  have hnx := heap_alloc_new w10 (.cells #[.int .i64 xki, .string xnm, .int .i64 xdl, .slice xx1 xx2 xx3, .string xky, .int .i64 xla, .int .i64 xwo, .int .i64 xtk, .slice xy1 xy2 xy3, .int .i64 xru, .int .u64 xlu, .int .i64 xti] 32)
  have HB10 := hide (HB9.out.trans (hba.mono HB9.out.size))
  have HV_10 := hide (HV_9.out.bel hba)
  have HO_10 := hide (blkB HO_9.out hba)
  have HW_10 := hide (HW_9.out.bel hba)
  have HP_10 := hide (blkB HP_9.out hba)
  have HR_10 := hide (HR_9.out.keep hba)
  have HS_10 := hide (HS_9.out.keep hba)
  have HVX_10 := hide (HVX_9.out.bel hba)
  clear HV_9 HO_9 HW_9 HP_9 HR_9 HS_9 HVX_9 HB9
  have HX_10 := hide (hnx)
  clear hba hnx
  go_upto_region 10 with fail
  generalize w10.alloc (.cells #[.int .i64 xki, .string xnm, .int .i64 xdl, .slice xx1 xx2 xx3, .string xky, .int .i64 xla, .int .i64 xwo, .int .i64 xtk, .slice xy1 xy2 xy3, .int .i64 xru, .int .u64 xlu, .int .i64 xti] 32) = w11 at *
  generalize w10.heap.size = xb at *
  go_wp2_with fail
  try (go_at_call 15)
  refine (RP.out b c2 w11 HS_10.out HS0.out).mono ?_
  rintro e w12 ⟨v, rfl, hv, hb⟩
  have HB11 := hide (HB10.out.trans (hb.mono HB10.out.size))
  have HV_11 := hide (HV_10.out.bel hb)
  have HO_11 := hide (blkB HO_10.out hb)
  have HW_11 := hide (HW_10.out.bel hb)
  have HP_11 := hide (blkB HP_10.out hb)
  have HR_11 := hide (HR_10.out.keep hb)
  have HS_11 := hide (HS_10.out.keep hb)
  have HVX_11 := hide (HVX_10.out.bel hb)
  have HX_11 := hide (blkB HX_10.out hb)
  clear HV_10 HO_10 HW_10 HP_10 HR_10 HS_10 HVX_10 HX_10 HB10
  clear hb
  have HWQ_11 := hide (hv)
  obtain ⟨q1, q2, q3, ev, hov⟩ := hv
  obtain ⟨qm, hpm⟩ : ∃ x, str p.1.1 = x := ⟨_, rfl⟩
  obtain ⟨qd, hpd⟩ : ∃ x, p.1.2 = x := ⟨_, rfl⟩
  rw [hpm, hpd] at ev
  subst ev
  clear hov hpm hpd RP
  have hba : Below w12.heap.size w12 (w12.alloc (.cells #[.string qm, .int .i64 qd, .slice q1 q2 q3] 30)) := (Below.refl _ _).alloc (Nat.le_refl _) _
  have hnx := heap_alloc_new w12 (.cells #[.string qm, .int .i64 qd, .slice q1 q2 q3] 30)
  have HB12 := hide (HB11.out.trans (hba.mono HB11.out.size))
  have HV_12 := hide (HV_11.out.bel hba)
  have HO_12 := hide (blkB HO_11.out hba)
  have HW_12 := hide (HW_11.out.bel hba)
  have HP_12 := hide (blkB HP_11.out hba)
  have HR_12 := hide (HR_11.out.keep hba)
  have HS_12 := hide (HS_11.out.keep hba)
  have HVX_12 := hide (HVX_11.out.bel hba)
  have HX_12 := hide (blkB HX_11.out hba)
  have HWQ_12 := hide (HWQ_11.out.bel hba)
  clear HV_11 HO_11 HW_11 HP_11 HR_11 HS_11 HVX_11 HX_11 HWQ_11 HB11
  have HY_12 := hide (hnx)
  clear hba hnx
  go_upto_region 11 with fail
  generalize w12.alloc (.cells #[.string qm, .int .i64 qd, .slice q1 q2 q3] 30) = w13 at *
  generalize w12.heap.size = qb at *
  have f0 := cell_blk HX_12.out 0 (v := .int .i64 xki) rfl
  have f1 := cell_blk HX_12.out 1 (v := .string xnm) rfl
  have f2 := cell_blk HX_12.out 2 (v := .int .i64 xdl) rfl
  have f3 := cell_blk HX_12.out 3 (v := .slice xx1 xx2 xx3) rfl
  have f4 := cell_blk HX_12.out 4 (v := .string xky) rfl
  have f5 := cell_blk HX_12.out 5 (v := .int .i64 xla) rfl
  have f6 := cell_blk HX_12.out 6 (v := .int .i64 xwo) rfl
  have f7 := cell_blk HX_12.out 7 (v := .int .i64 xtk) rfl
  have f8 := cell_blk HX_12.out 8 (v := .slice xy1 xy2 xy3) rfl
  have f9 := cell_blk HX_12.out 9 (v := .int .i64 xru) rfl
  have f10 := cell_blk HX_12.out 10 (v := .int .u64 xlu) rfl
  have f11 := cell_blk HX_12.out 11 (v := .int .i64 xti) rfl
  have g0 := cell_blk HO_12.out 0 (v := .int .i64 oki) rfl
  have g1 := cell_blk HO_12.out 1 (v := .string onm) rfl
  have g2 := cell_blk HO_12.out 2 (v := .int .i64 odl) rfl
  have g3 := cell_blk HO_12.out 3 (v := .slice ox1 ox2 ox3) rfl
  have g4 := cell_blk HO_12.out 4 (v := .string oky) rfl
  have g5 := cell_blk HO_12.out 5 (v := .int .i64 ola) rfl
  have g6 := cell_blk HO_12.out 6 (v := .int .i64 owo) rfl
  have g7 := cell_blk HO_12.out 7 (v := .int .i64 otk) rfl
  have g8 := cell_blk HO_12.out 8 (v := .slice oy1 oy2 oy3) rfl
  have g9 := cell_blk HO_12.out 9 (v := .int .i64 oru) rfl
  have g10 := cell_blk HO_12.out 10 (v := .int .u64 olu) rfl
  have g11 := cell_blk HO_12.out 11 (v := .int .i64 oti) rfl
  go_wp2_with fail
  try (go_at_call 16)
  refine (LK.out w13 _ _ HVX_12.out HV_12.out).mono ?_
  rintro e w14 ⟨rfl, hb⟩
  have HB13 := hide (HB12.out.trans (hb.mono HB12.out.size))
  have HV_13 := hide (HV_12.out.bel hb)
  have HO_13 := hide (blkB HO_12.out hb)
  have HW_13 := hide (HW_12.out.bel hb)
  have HP_13 := hide (blkB HP_12.out hb)
  have HR_13 := hide (HR_12.out.keep hb)
  have HS_13 := hide (HS_12.out.keep hb)
  have HVX_13 := hide (HVX_12.out.bel hb)
  have HX_13 := hide (blkB HX_12.out hb)
  have HWQ_13 := hide (HWQ_12.out.bel hb)
  have HY_13 := hide (blkB HY_12.out hb)
  clear HV_12 HO_12 HW_12 HP_12 HR_12 HS_12 HVX_12 HX_12 HWQ_12 HY_12 HB12
  clear hb LK
  clear f0 f1 f2 f3 f4 f5 f6 f7 f8 f9 f10 f11 g0 g1 g2 g3 g4 g5 g6 g7 g8 g9 g10 g11
  clear HX_13
  clear HO_13
  clear HVX_13
  clear HV_13
  have f0 := cell_blk HY_13.out 0 (v := .string qm) rfl
  have f1 := cell_blk HY_13.out 1 (v := .int .i64 qd) rfl
  have f2 := cell_blk HY_13.out 2 (v := .slice q1 q2 q3) rfl
  have g0 := cell_blk HP_13.out 0 (v := .string pm) rfl
  have g1 := cell_blk HP_13.out 1 (v := .int .i64 pd) rfl
  have g2 := cell_blk HP_13.out 2 (v := .slice p1 p2 p3) rfl
  go_wp2_with fail
  try (go_at_call 17)
  refine (AK.out w14 _ _ HWQ_13.out HW_13.out).mono ?_
  rintro e w15 ⟨rfl, hb⟩
  have HB14 := hide (HB13.out.trans (hb.mono HB13.out.size))
  have HW_14 := hide (HW_13.out.bel hb)
  have HP_14 := hide (blkB HP_13.out hb)
  have HR_14 := hide (HR_13.out.keep hb)
  have HS_14 := hide (HS_13.out.keep hb)
  have HWQ_14 := hide (HWQ_13.out.bel hb)
  have HY_14 := hide (blkB HY_13.out hb)
  clear HW_13 HP_13 HR_13 HS_13 HWQ_13 HY_13 HB13
  clear hb AK
  clear f0 f1 f2 g0 g1 g2
  clear HY_14
  clear HP_14
  clear HWQ_14
  clear HW_14
  go_upto_region 13 with fail
  go_wp2_with (first
    | (at_builtin; (refine wp_cloneB rfl _ _ rfl rfl a n c L rfl HR_14.out HA0.out (by have := HNN.out; omega) ?_); intro v6 wa ho6 hk6; go_loud (obtain ⟨ya, yc, rfl⟩ := ownsRow_shape ho6; have HO6 := hide ho6; have HK6 := hide hk6; have HR1 := hide (one_rd wa x HX256.out)); clear ho6 hk6)
    | (at_builtin; go_loud (refine wpList_append_rd rfl _ _ rfl (.slice ya L.length yc) L w15.heap.size rfl (own_keep HO6.out (Keep.alloc (fun _ => False) _ _) (fun _ f => f.elim)) _ 1 1 [x] rfl HR1.out (fun e => by cases e) (by have := HNN.out; omega) (Nat.le_trans HK6.out.size (by simp)) ?_); intro v7 wb ho7 hg7 hn7; go_loud (obtain ⟨ga, gc, ev7, hr7, h07, -, -⟩ := ownsRow_rd ho7 (fun t ht => (List.mem_append.1 ht).elim (fun h => HLB.out t h) (fun h => by rw [List.mem_singleton.1 h]; exact HX256.out)) (by have := HNN.out; rw [List.length_append]; simp; omega); obtain ⟨kl, hkl⟩ : ∃ k, (L ++ [x]).length = k := ⟨_, rfl⟩; rw [hkl] at ev7 hr7; subst ev7; clear hkl; have hb := below_grown (HK6.out.below (Nat.le_refl _) (fun _ f => f.elim)) _ hg7 (fun k e => (HO6.out.lt k e).1); have HG7 := hide hr7; have HG0 := hide h07); clear ho7 hg7 hn7 hr7 h07))
  have HB15 := hide (HB14.out.trans (hb.mono HB14.out.size))
  have HR_15 := hide (HR_14.out.keep hb)
  have HS_15 := hide (HS_14.out.keep hb)
  clear HR_14 HS_14 HB14
  clear hb HO6 HK6 HR1
  try (go_at_call 14)
  refine (O1.out ga gc kl wb HG7.out HG0.out).mono ?_
  rintro e w16 ⟨rfl, hb⟩
  have HB16 := hide (HB15.out.trans (hb.mono HB15.out.size))
  have HR_16 := hide (HR_15.out.keep hb)
  have HS_16 := hide (HS_15.out.keep hb)
  clear HR_15 HS_15 HB15
  clear hb HG7 HG0 O1
  have hba : Below w16.heap.size w16 (w16.alloc (.cells #[.int .i64 0, .string ⟨#[]⟩, .int .i64 0, .slice none 0 0, .string ⟨#[]⟩, .int .i64 0, .int .i64 0, .int .i64 0, .slice none 0 0, .int .i64 0, .int .u64 0, .int .i64 0] 32)) := (Below.refl _ _).alloc (Nat.le_refl _) _
  have hnx := heap_alloc_new w16 (.cells #[.int .i64 0, .string ⟨#[]⟩, .int .i64 0, .slice none 0 0, .string ⟨#[]⟩, .int .i64 0, .int .i64 0, .int .i64 0, .slice none 0 0, .int .i64 0, .int .u64 0, .int .i64 0] 32)
  have HB17 := hide (HB16.out.trans (hba.mono HB16.out.size))
  have HR_17 := hide (HR_16.out.keep hba)
  have HS_17 := hide (HS_16.out.keep hba)
  clear HR_16 HS_16 HB16
  have HZ13_17 := hide (hnx)
  clear hba hnx
  go_upto_region 14 with fail
  generalize w16.alloc (.cells #[.int .i64 0, .string ⟨#[]⟩, .int .i64 0, .slice none 0 0, .string ⟨#[]⟩, .int .i64 0, .int .i64 0, .int .i64 0, .slice none 0 0, .int .i64 0, .int .u64 0, .int .i64 0] 32) = w17 at *
  generalize w16.heap.size = zb13 at *
  clear HZ13_17
  have hsl := slice_front a n n1 c (by have := HNN.out; have := HAC.out; omega)
  have hrb := hide (rd_front HR_17.out (m := n1) (by have := HNN.out; omega))
  have hbd : n ≤ 8192 := by have := HNN.out; omega
  go_wp2_with fail
  try (go_at_call 14)
  refine (O2.out HLB.out a c n1 w17 hrb.out HA0.out).mono ?_
  rintro e w18 ⟨rfl, hb⟩
  have HB18 := hide (HB17.out.trans (hb.mono HB17.out.size))
  have HR_18 := hide (HR_17.out.keep hb)
  have HS_18 := hide (HS_17.out.keep hb)
  clear HR_17 HS_17 HB17
  clear hb hrb hsl hbd O2
  clear HR_18
  have hba : Below w18.heap.size w18 (w18.alloc (.cells #[.int .i64 0, .string ⟨#[]⟩, .int .i64 0, .slice none 0 0, .string ⟨#[]⟩, .int .i64 0, .int .i64 0, .int .i64 0, .slice none 0 0, .int .i64 0, .int .u64 0, .int .i64 0] 32)) := (Below.refl _ _).alloc (Nat.le_refl _) _
  have hnx := heap_alloc_new w18 (.cells #[.int .i64 0, .string ⟨#[]⟩, .int .i64 0, .slice none 0 0, .string ⟨#[]⟩, .int .i64 0, .int .i64 0, .int .i64 0, .slice none 0 0, .int .i64 0, .int .u64 0, .int .i64 0] 32)
  have HB19 := hide (HB18.out.trans (hba.mono HB18.out.size))
  have HS_19 := hide (HS_18.out.keep hba)
  clear HS_18 HB18
  have HZ14_19 := hide (hnx)
  clear hba hnx
  go_upto_region 15 with fail
  generalize w18.alloc (.cells #[.int .i64 0, .string ⟨#[]⟩, .int .i64 0, .slice none 0 0, .string ⟨#[]⟩, .int .i64 0, .int .i64 0, .int .i64 0, .slice none 0 0, .int .i64 0, .int .u64 0, .int .i64 0] 32) = w19 at *
  generalize w18.heap.size = zb14 at *
  clear HZ14_19
  go_wp2_with (first
    | (at_builtin; (refine wp_cloneB rfl _ _ rfl rfl b m c2 M rfl HS_19.out HS0.out (by have := HNN.out; omega) ?_); intro v6 wa ho6 hk6; go_loud (obtain ⟨ya, yc, rfl⟩ := ownsRow_shape ho6; have HO6 := hide ho6; have HK6 := hide hk6; have HR1 := hide (one_rd wa x HX256.out)); clear ho6 hk6)
    | (at_builtin; go_loud (refine wpList_append_rd rfl _ _ rfl (.slice ya M.length yc) M w19.heap.size rfl (own_keep HO6.out (Keep.alloc (fun _ => False) _ _) (fun _ f => f.elim)) _ 1 1 [x] rfl HR1.out (fun e => by cases e) (by have := HNN.out; omega) (Nat.le_trans HK6.out.size (by simp)) ?_); intro v7 wb ho7 hg7 hn7; go_loud (obtain ⟨ga, gc, ev7, hr7, h07, -, -⟩ := ownsRow_rd ho7 (fun t ht => (List.mem_append.1 ht).elim (fun h => HMB.out t h) (fun h => by rw [List.mem_singleton.1 h]; exact HX256.out)) (by have := HNN.out; rw [List.length_append]; simp; omega); obtain ⟨kl, hkl⟩ : ∃ k, (M ++ [x]).length = k := ⟨_, rfl⟩; rw [hkl] at ev7 hr7; subst ev7; clear hkl; have hb := below_grown (HK6.out.below (Nat.le_refl _) (fun _ f => f.elim)) _ hg7 (fun k e => (HO6.out.lt k e).1); have HG7 := hide hr7; have HG0 := hide h07); clear ho7 hg7 hn7 hr7 h07))
  have HB20 := hide (HB19.out.trans (hb.mono HB19.out.size))
  have HS_20 := hide (HS_19.out.keep hb)
  clear HS_19 HB19
  clear hb HO6 HK6 HR1
  try (go_at_call 15)
  refine (P1.out ga gc kl wb HG7.out HG0.out).mono ?_
  rintro e w20 ⟨rfl, hb⟩
  have HB21 := hide (HB20.out.trans (hb.mono HB20.out.size))
  have HS_21 := hide (HS_20.out.keep hb)
  clear HS_20 HB20
  clear hb HG7 HG0 P1
  have hba : Below w20.heap.size w20 (w20.alloc (.cells #[.string ⟨#[]⟩, .int .i64 0, .slice none 0 0] 30)) := (Below.refl _ _).alloc (Nat.le_refl _) _
  have hnx := heap_alloc_new w20 (.cells #[.string ⟨#[]⟩, .int .i64 0, .slice none 0 0] 30)
  have HB22 := hide (HB21.out.trans (hba.mono HB21.out.size))
  have HS_22 := hide (HS_21.out.keep hba)
  clear HS_21 HB21
  have HZ15_22 := hide (hnx)
  clear hba hnx
  go_upto_region 16 with fail
  generalize w20.alloc (.cells #[.string ⟨#[]⟩, .int .i64 0, .slice none 0 0] 30) = w21 at *
  generalize w20.heap.size = zb15 at *
  clear HZ15_22
  have hsl := slice_front b m m1 c2 (by have := HNN.out; have := HSC.out; omega)
  have hrb := hide (rd_front HS_22.out (m := m1) (by have := HNN.out; omega))
  have hbd : m ≤ 8192 := by have := HNN.out; omega
  go_wp2_with fail
  try (go_at_call 15)
  refine (P2.out HMB.out b c2 m1 w21 hrb.out HS0.out).mono ?_
  rintro e w22 ⟨rfl, hb⟩
  have HB23 := hide (HB22.out.trans (hb.mono HB22.out.size))
  have HS_23 := hide (HS_22.out.keep hb)
  clear HS_22 HB22
  clear hb hrb hsl hbd P2
  clear HS_23
  have hba : Below w22.heap.size w22 (w22.alloc (.cells #[.string ⟨#[]⟩, .int .i64 0, .slice none 0 0] 30)) := (Below.refl _ _).alloc (Nat.le_refl _) _
  have hnx := heap_alloc_new w22 (.cells #[.string ⟨#[]⟩, .int .i64 0, .slice none 0 0] 30)
  have HB24 := hide (HB23.out.trans (hba.mono HB23.out.size))
  clear  HB23
  have HZ16_24 := hide (hnx)
  clear hba hnx
  go_upto_region 17 with fail
  generalize w22.alloc (.cells #[.string ⟨#[]⟩, .int .i64 0, .slice none 0 0] 30) = w23 at *
  generalize w22.heap.size = zb16 at *
  clear HZ16_24
  go_wp2_with fail
  go_ret
  exact ⟨rfl, HB24.out⟩
theorem back_walk (z : Int) (q : De) (w : World) (hq : q.In w) (_ : -9223372036854775808 ≤ z) (_ : z ≤ 9223372036854775807) :
    Calls Tryz.prog 4 #[.agg q.row.toArray, .int .i64 z] w fun en w' => en = .returned (.bool true) ∧ Below w.heap.size w w' := by
  have hk := opv_k q hq.tx.2.2.1 hq.lu
  have hpk := plv_k q.rs q.nu
  have hpm := plv_may q.rs q.nu
  have hn := opS_ok hk.ok
  have hm := plS_ok hpm
  obtain ⟨n, en⟩ : ∃ n, (opBs (opv q)).length = n := ⟨_, rfl⟩
  obtain ⟨m, em⟩ : ∃ m, (plBs (plv q.rs q.nu)).length = m := ⟨_, rfl⟩
  have hx : 0 ≤ IntKind.u8.wrap z ∧ IntKind.u8.wrap z < 256 := by simp [IntKind.wrap, IntKind.bits, IntKind.signed]; omega
  obtain ⟨x, ex⟩ := Int.eq_ofNat_of_zero_le hx.1
  have o2 := fun h => op_less hk.ok h
  have p2 := fun h => pl_less hpm h
  rw [en] at o2 hn
  rw [em] at p2 hm
  exact back_core z q w hq (opv q) (plv q.rs q.nu) (opBs (opv q)) (plBs (plv q.rs q.nu)) n (n - 1) m (m - 1) x ex (hide (by omega))
    (by simp; omega) (by simp; omega) (by omega) (by omega) (by omega) (by omega) (hide ⟨en, em, by omega, by omega, by omega, by omega⟩)
    (hide fun W h => opOf12_any q W h) (hide fun W h => planOf12_any q.s q.rs q.nu _ W h.rd h.nu)
    (hide fun W v h => opB_out hk en W v h) (hide fun W v h => plB_out hpk hpm em W v h) (hide fun W v h => check_good h hk)
    (hide fun a c W h h0 => rop_back hk a n c W h h0) (hide fun a c W h h0 => rpl_back hpm a m c W h h0)
    (hide fun W u v h g => like_same hk W u v h g) (hide fun W u v h g => alike_same hpk W u v h g)
    (hide fun a c k W h h0 => rop_no (op_more hk.ok x) a k c W h h0) (hide fun hl a c k W h h0 => rop_no (o2 hl) a k c W h h0)
    (hide fun a c k W h h0 => rpl_no (pl_more hpm x) a k c W h h0) (hide fun hl a c k W h h0 => rpl_no (p2 hl) a k c W h h0)
end Cd
end Go.Proofs.YtbjcckfhfbjchaaGreat
