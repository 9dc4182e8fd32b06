import Derived.Test.YtbjcckfhfbjchaaGreatCGu
import Derived.BigQuiet
/- Codec: begins (written by cgx_gen.py). -/
namespace Go.Proofs.YtbjcckfhfbjchaaGreat
namespace Cd
open Go.RowKit Go.Deep

def Behind (W : World) : Type := { x : World // Below W.heap.size W x }
theorem behindNE (W : World) : Nonempty (Behind W) := ⟨⟨W, Below.refl _ _⟩⟩
theorem quiet_behind {id : Nat} {Q : Exit → Act → World → Prop} {a : Act} {W : World} {l : List Oper} (hm : Tryz.prog.follows .mixedOrders = true) (hB : Region.lexB .any l.toArray = true)
    (h : wpQuiet Tryz.prog l.toArray (fun w' => ∃ u : Behind W, w' = u.1) (fun a' => ∀ w', (∃ u : Behind W, w' = u.1) → Q .normal a' w') l a) : (Code.region id l.toArray true).wp Tryz.prog Q a W :=
  wp_region_quiet (C := fun w' => ∃ u : Behind W, w' = u.1) hm hB ⟨⟨_, (⟨rfl, rfl, rfl, Nat.le_refl _, fun _ _ => rfl⟩ : Below W.heap.size W W.drew)⟩, rfl⟩ (by simpa using h)
theorem calls_behind {f : FuncId} {args : Array Value} {W : World} (u : Behind W) {v : Value}
    (h : Calls Tryz.prog f args u.1 fun e w' => e = .returned v ∧ Below u.1.heap.size u.1 w') : Calls Tryz.prog f args u.1 fun e w'' => e = .returned v ∧ ∃ u' : Behind W, w'' = u'.1 :=
  h.mono fun _ _ ⟨he, hb⟩ => ⟨he, ⟨_, u.2.trans (hb.mono u.2.size)⟩, rfl⟩
theorem Behind.cell {W : World} (u : Behind W) {p : Addr} {v : Value} (h : W.cell? p = some v) : u.1.cell? p = some v := (u.2.cell (World.block_lt_of_cell? _ _ h)).trans h
set_option maxRecDepth 10000 in
set_option maxHeartbeats 2000000 in
theorem begins_no (a : Option Addr) (n c : Nat) (l : List Nat) (a' : Option Addr) (n' c' : Nat) (l' : List Nat) (w : World) (h : Rd w a n l) (h' : Rd w a' n' l') (hc : n' ≤ c') (hno : ∀ t, l' ≠ l ++ t) :
    Calls Tryz.prog 18 #[.slice a n c, .slice a' n' c'] w fun e w' => e = .returned (.bool false) ∧ Below w.heap.size w w' := by
  haveI := behindNE w
  by_cases hn : n ≤ n'
  · have hne : ¬ str l = str (l'.take n) := fun e => hno (l'.drop n) (by
      have t := str_inj h.2.2.1 (fun x hx => h'.2.2.1 x (List.mem_of_mem_take hx)) e
      have := (List.take_append_drop n l').symm
      rwa [← t] at this)
    have hb := bytes_ne hne
    have k1 := fun u : Behind w => conv_rd (h.keep u.2) c
    have k2 := fun u : Behind w => conv_rd ((rd_front h' hn).keep u.2) c'
    have hsl := slice_front a' n' n c' (by omega)
    have hd : (n : Int) ≤ (n' : Int) := by omega
    generalize str l = s1 at *
    generalize str (l'.take n) = s2 at *
    clear h h' hno hne hc
    go_enter Tryz.func18, Tryz.ntmps18
    go_wp2_with fail
    refine quiet_behind (by kernel_rfl) (by kernel_rfl) ?_
    repeat (go_big_quiet_step (fail))
    refine wpQuiet_nil ?_
    intro _ hw'
    obtain ⟨⟨w2, hw2⟩, rfl⟩ := hw'
    have HU := hide hw2
    clear hb k1 k2 hsl hd hn hw2
    go_wp2_with fail
    go_ret
    exact ⟨rfl, HU.out⟩
  · have hd : ¬ (n : Int) ≤ (n' : Int) := by omega
    have hd2 : decide (n ≤ n') = false := by simpa using hn
    have hd3 : decide ((n : Int) ≤ (n' : Int)) = false := by simpa using hn
    clear h h' hno hc
    go_enter Tryz.func18, Tryz.ntmps18
    go_wp2_with fail
    refine quiet_behind (by kernel_rfl) (by kernel_rfl) ?_
    repeat (go_big_quiet_step (fail))
    refine wpQuiet_nil ?_
    intro _ hw'
    obtain ⟨⟨w2, hw2⟩, rfl⟩ := hw'
    have HU := hide hw2
    clear hd hd2 hd3 hn hw2
    go_wp2_with fail
    go_ret
    exact ⟨rfl, HU.out⟩
end Cd
end Go.Proofs.YtbjcckfhfbjchaaGreat

/- CodecApart: the walk (written by cgx_gen.py). -/
namespace Go.Proofs.YtbjcckfhfbjchaaGreat
namespace Cd
open Go.RowKit Go.Deep

set_option maxRecDepth 100000 in
set_option maxHeartbeats 20000000 in
theorem apart_core (q r : De) (w : World) (hq : q.In w) (hr : r.In w) (d EE : Ov) (p s : Pv) (L M N K : List Nat) (n m k j : Nat) (bo bp : Bool)
    (OQ : Hid (∀ W, q.In W → Calls Tryz.prog 9 #[.agg q.row.toArray] W fun e w' => ∃ v, e = .returned v ∧ OvV d w' v ∧ Below W.heap.size W w'))
    (OR : Hid (∀ W, r.In W → Calls Tryz.prog 9 #[.agg r.row.toArray] W fun e w' => ∃ v, e = .returned v ∧ OvV EE w' v ∧ Below W.heap.size W w'))
    (PQ1 : Hid (∀ W, q.In W → Calls Tryz.prog 10 #[.slice q.s.1 q.s.2.1 q.s.2.2, .int .i64 q.nu] W fun e w' => ∃ v, e = .returned v ∧ PlV p w' v ∧ Below W.heap.size W w'))
    (PR1 : Hid (∀ W, r.In W → Calls Tryz.prog 10 #[.slice r.s.1 r.s.2.1 r.s.2.2, .int .i64 r.nu] W fun e w' => ∃ v, e = .returned v ∧ PlV s w' v ∧ Below W.heap.size W w'))
    (BD : Hid (∀ W v, OvV d W v → Calls Tryz.prog 11 #[v] W fun en w' => OutB L n W w' en))
    (BE : Hid (∀ W v, OvV EE W v → Calls Tryz.prog 11 #[v] W fun en w' => OutB M m W w' en))
    (BP : Hid (∀ W v, PlV p W v → Calls Tryz.prog 12 #[v] W fun en w' => OutB N k W w' en))
    (BS : Hid (∀ W v, PlV s W v → Calls Tryz.prog 12 #[v] W fun en w' => OutB K j W w' en))
    (LK : Hid (∀ W u v, OvV d W u → OvV EE W v → Calls Tryz.prog 16 #[u, v] W fun en w' => en = .returned (.bool bo) ∧ Below W.heap.size W w'))
    (AK : Hid (∀ W u v, PlV p W u → PlV s W v → Calls Tryz.prog 17 #[u, v] W fun en w' => en = .returned (.bool bp) ∧ Below W.heap.size W w'))
    (EQO : Hid ((∀ b ∈ L, b < 256) → (∀ b ∈ M, b < 256) → ((str L).toList == (str M).toList) = bo)) (EQP : Hid ((∀ b ∈ N, b < 256) → (∀ b ∈ K, b < 256) → ((str N).toList == (str K).toList) = bp))
    (GO : Hid (bo = false → (∀ t, M ≠ L ++ t) ∧ (∀ t, L ≠ M ++ t))) (GP : Hid (bp = false → (∀ t, K ≠ N ++ t) ∧ (∀ t, N ≠ K ++ t))) :
    Calls Tryz.prog 6 #[.agg q.row.toArray, .agg r.row.toArray] w fun en w' => en = .returned (.bool true) ∧ Below w.heap.size w w' := by
  obtain ⟨ki, ⟨sa, sn, sc⟩, nu, wo, ⟨ta, tn, tc⟩, lu, rs, tx⟩ := q
  obtain ⟨ki', ⟨sa', sn', sc'⟩, nu', wo', ⟨ta', tn', tc'⟩, lu', rs', tx'⟩ := r
  change Calls Tryz.prog _ #[.agg #[.int .i64 ki, .slice sa sn sc, .int .i64 nu, .int .i64 wo, .slice ta tn tc, .int .u64 (lu : Int)], .agg #[.int .i64 ki', .slice sa' sn' sc', .int .i64 nu', .int .i64 wo', .slice ta' tn' tc', .int .u64 (lu' : Int)]] w _
  have hba : Below w.heap.size w ((w.alloc (.cells #[.int .i64 ki, .slice sa sn sc, .int .i64 nu, .int .i64 wo, .slice ta tn tc, .int .u64 (lu : Int)] 27)).alloc (.cells #[.int .i64 ki', .slice sa' sn' sc', .int .i64 nu', .int .i64 wo', .slice ta' tn' tc', .int .u64 (lu' : Int)] 27)) := ((Below.refl _ _).alloc (Nat.le_refl _) _).alloc (by simp) _
  obtain ⟨hx1, hx2⟩ := blk2 w (.cells #[.int .i64 ki, .slice sa sn sc, .int .i64 nu, .int .i64 wo, .slice ta tn tc, .int .u64 (lu : Int)] 27) (.cells #[.int .i64 ki', .slice sa' sn' sc', .int .i64 nu', .int .i64 wo', .slice ta' tn' tc', .int .u64 (lu' : Int)] 27)
  have HB0 := hide hba
  have HD_0 := hide hx1
  have HE_0 := hide hx2
  have HQ_0 := hide (hq.bel hba)
  have HT_0 := hide (hr.bel hba)
  clear hba hx1 hx2 hq hr
  go_enter Tryz.func6, Tryz.ntmps6
  go_upto_region 1 with fail
  generalize (w.alloc (.cells #[.int .i64 ki, .slice sa sn sc, .int .i64 nu, .int .i64 wo, .slice ta tn tc, .int .u64 (lu : Int)] 27)).alloc (.cells #[.int .i64 ki', .slice sa' sn' sc', .int .i64 nu', .int .i64 wo', .slice ta' tn' tc', .int .u64 (lu' : Int)] 27) = w1 at *
  go_wp2_with fail
  try (go_at_call 8)
  refine (known12_any _).mono ?_
  rintro e w2 ⟨rfl, hb⟩
  have HB1 := hide (HB0.out.trans (hb.mono HB0.out.size))
  have HD_1 := hide (blkB HD_0.out hb)
  have HE_1 := hide (blkB HE_0.out hb)
  have HQ_1 := hide (HQ_0.out.bel hb)
  have HT_1 := hide (HT_0.out.bel hb)
  clear HD_0 HE_0 HQ_0 HT_0 HB0
  clear hb
  have f0 := cell_blk HD_1.out 0 (v := .int .i64 ki) rfl
  have f1 := cell_blk HD_1.out 1 (v := .slice sa sn sc) rfl
  have f2 := cell_blk HD_1.out 2 (v := .int .i64 nu) rfl
  have f3 := cell_blk HD_1.out 3 (v := .int .i64 wo) rfl
  have f4 := cell_blk HD_1.out 4 (v := .slice ta tn tc) rfl
  have f5 := cell_blk HD_1.out 5 (v := .int .u64 (lu : Int)) rfl
  go_wp2_with fail
  try (go_at_call 9)
  refine (OQ.out w2 HQ_1.out).mono ?_
  rintro e w3 ⟨v, rfl, hv, hb⟩
  have HB2 := hide (HB1.out.trans (hb.mono HB1.out.size))
  have HD_2 := hide (blkB HD_1.out hb)
  have HE_2 := hide (blkB HE_1.out hb)
  have HQ_2 := hide (HQ_1.out.bel hb)
  have HT_2 := hide (HT_1.out.bel hb)
  clear HD_1 HE_1 HQ_1 HT_1 HB1
  clear hb
  clear f0 f1 f2 f3 f4 f5
  have HV_2 := hide (hv)
  obtain ⟨oki, onm, odl, ox1, ox2, ox3, oky, ola, owo, otk, oy1, oy2, oy3, oru, olu, oti, ev, hov⟩ := hv
  subst ev
  clear hov OQ
  have hba : Below w3.heap.size w3 (w3.alloc (.cells #[.int .i64 oki, .string onm, .int .i64 odl, .slice ox1 ox2 ox3, .string oky, .int .i64 ola, .int .i64 owo, .int .i64 otk, .slice oy1 oy2 oy3, .int .i64 oru, .int .u64 olu, .int .i64 oti] 32)) := (Below.refl _ _).alloc (Nat.le_refl _) _
  have hnx := heap_alloc_new w3 (.cells #[.int .i64 oki, .string onm, .int .i64 odl, .slice ox1 ox2 ox3, .string oky, .int .i64 ola, .int .i64 owo, .int .i64 otk, .slice oy1 oy2 oy3, .int .i64 oru, .int .u64 olu, .int .i64 oti] 32)
  have HB3 := hide (HB2.out.trans (hba.mono HB2.out.size))
  have HD_3 := hide (blkB HD_2.out hba)
  have HE_3 := hide (blkB HE_2.out hba)
  have HQ_3 := hide (HQ_2.out.bel hba)
  have HT_3 := hide (HT_2.out.bel hba)
  have HV_3 := hide (HV_2.out.bel hba)
  clear HD_2 HE_2 HQ_2 HT_2 HV_2 HB2
  have HO_3 := hide (hnx)
  clear hba hnx
  go_upto_region 4 with fail
  generalize w3.alloc (.cells #[.int .i64 oki, .string onm, .int .i64 odl, .slice ox1 ox2 ox3, .string oky, .int .i64 ola, .int .i64 owo, .int .i64 otk, .slice oy1 oy2 oy3, .int .i64 oru, .int .u64 olu, .int .i64 oti] 32) = w4 at *
  generalize w3.heap.size = ob at *
  have f0 := cell_blk HE_3.out 0 (v := .int .i64 ki') rfl
  have f1 := cell_blk HE_3.out 1 (v := .slice sa' sn' sc') rfl
  have f2 := cell_blk HE_3.out 2 (v := .int .i64 nu') rfl
  have f3 := cell_blk HE_3.out 3 (v := .int .i64 wo') rfl
  have f4 := cell_blk HE_3.out 4 (v := .slice ta' tn' tc') rfl
  have f5 := cell_blk HE_3.out 5 (v := .int .u64 (lu' : Int)) rfl
  go_wp2_with fail
  try (go_at_call 9)
  refine (OR.out w4 HT_3.out).mono ?_
  rintro e w5 ⟨v, rfl, hv, hb⟩
  have HB4 := hide (HB3.out.trans (hb.mono HB3.out.size))
  have HD_4 := hide (blkB HD_3.out hb)
  have HE_4 := hide (blkB HE_3.out hb)
  have HQ_4 := hide (HQ_3.out.bel hb)
  have HT_4 := hide (HT_3.out.bel hb)
  have HV_4 := hide (HV_3.out.bel hb)
  have HO_4 := hide (blkB HO_3.out hb)
  clear HD_3 HE_3 HQ_3 HT_3 HV_3 HO_3 HB3
  clear hb
  clear f0 f1 f2 f3 f4 f5
  have HU_4 := hide (hv)
  obtain ⟨xki, xnm, xdl, xx1, xx2, xx3, xky, xla, xwo, xtk, xy1, xy2, xy3, xru, xlu, xti, ev, hov⟩ := hv
  subst ev
  clear hov OR
  have hba : Below w5.heap.size w5 (w5.alloc (.cells #[.int .i64 xki, .string xnm, .int .i64 xdl, .slice xx1 xx2 xx3, .string xky, .int .i64 xla, .int .i64 xwo, .int .i64 xtk, .slice xy1 xy2 xy3, .int .i64 xru, .int .u64 xlu, .int .i64 xti] 32)) := (Below.refl _ _).alloc (Nat.le_refl _) _
  have hnx := heap_alloc_new w5 (.cells #[.int .i64 xki, .string xnm, .int .i64 xdl, .slice xx1 xx2 xx3, .string xky, .int .i64 xla, .int .i64 xwo, .int .i64 xtk, .slice xy1 xy2 xy3, .int .i64 xru, .int .u64 xlu, .int .i64 xti] 32)
  have HB5 := hide (HB4.out.trans (hba.mono HB4.out.size))
  have HD_5 := hide (blkB HD_4.out hba)
  have HE_5 := hide (blkB HE_4.out hba)
  have HQ_5 := hide (HQ_4.out.bel hba)
  have HT_5 := hide (HT_4.out.bel hba)
  have HV_5 := hide (HV_4.out.bel hba)
  have HO_5 := hide (blkB HO_4.out hba)
  have HU_5 := hide (HU_4.out.bel hba)
  clear HD_4 HE_4 HQ_4 HT_4 HV_4 HO_4 HU_4 HB4
  have HX_5 := hide (hnx)
  clear hba hnx
  go_upto_region 5 with fail
  generalize w5.alloc (.cells #[.int .i64 xki, .string xnm, .int .i64 xdl, .slice xx1 xx2 xx3, .string xky, .int .i64 xla, .int .i64 xwo, .int .i64 xtk, .slice xy1 xy2 xy3, .int .i64 xru, .int .u64 xlu, .int .i64 xti] 32) = w6 at *
  generalize w5.heap.size = oc at *
  have f0 := cell_blk HD_5.out 0 (v := .int .i64 ki) rfl
  have f1 := cell_blk HD_5.out 1 (v := .slice sa sn sc) rfl
  have f2 := cell_blk HD_5.out 2 (v := .int .i64 nu) rfl
  have f3 := cell_blk HD_5.out 3 (v := .int .i64 wo) rfl
  have f4 := cell_blk HD_5.out 4 (v := .slice ta tn tc) rfl
  have f5 := cell_blk HD_5.out 5 (v := .int .u64 (lu : Int)) rfl
  go_wp2_with fail
  try (go_at_call 10)
  refine (PQ1.out w6 HQ_5.out).mono ?_
  rintro e w7 ⟨v, rfl, hv, hb⟩
  have HB6 := hide (HB5.out.trans (hb.mono HB5.out.size))
  have HD_6 := hide (blkB HD_5.out hb)
  have HE_6 := hide (blkB HE_5.out hb)
  have HQ_6 := hide (HQ_5.out.bel hb)
  have HT_6 := hide (HT_5.out.bel hb)
  have HV_6 := hide (HV_5.out.bel hb)
  have HO_6 := hide (blkB HO_5.out hb)
  have HU_6 := hide (HU_5.out.bel hb)
  have HX_6 := hide (blkB HX_5.out hb)
  clear HD_5 HE_5 HQ_5 HT_5 HV_5 HO_5 HU_5 HX_5 HB5
  clear hb
  clear f0 f1 f2 f3 f4 f5
  have HW_6 := hide (hv)
  obtain ⟨p1, p2, p3, ev, hov⟩ := hv
  obtain ⟨pm, hpm⟩ : ∃ x, str p.1.1 = x := ⟨_, rfl⟩
  obtain ⟨pd, hpd⟩ : ∃ x, p.1.2 = x := ⟨_, rfl⟩
  rw [hpm, hpd] at ev
  subst ev
  clear hov hpm hpd PQ1
  clear HD_6
  clear HQ_6
  have hba : Below w7.heap.size w7 (w7.alloc (.cells #[.string pm, .int .i64 pd, .slice p1 p2 p3] 30)) := (Below.refl _ _).alloc (Nat.le_refl _) _
  have hnx := heap_alloc_new w7 (.cells #[.string pm, .int .i64 pd, .slice p1 p2 p3] 30)
  have HB7 := hide (HB6.out.trans (hba.mono HB6.out.size))
  have HE_7 := hide (blkB HE_6.out hba)
  have HT_7 := hide (HT_6.out.bel hba)
  have HV_7 := hide (HV_6.out.bel hba)
  have HO_7 := hide (blkB HO_6.out hba)
  have HU_7 := hide (HU_6.out.bel hba)
  have HX_7 := hide (blkB HX_6.out hba)
  have HW_7 := hide (HW_6.out.bel hba)
  clear HE_6 HT_6 HV_6 HO_6 HU_6 HX_6 HW_6 HB6
  have HP_7 := hide (hnx)
  clear hba hnx
  go_upto_region 6 with fail
  generalize w7.alloc (.cells #[.string pm, .int .i64 pd, .slice p1 p2 p3] 30) = w8 at *
  generalize w7.heap.size = pb at *
  have f0 := cell_blk HE_7.out 0 (v := .int .i64 ki') rfl
  have f1 := cell_blk HE_7.out 1 (v := .slice sa' sn' sc') rfl
  have f2 := cell_blk HE_7.out 2 (v := .int .i64 nu') rfl
  have f3 := cell_blk HE_7.out 3 (v := .int .i64 wo') rfl
  have f4 := cell_blk HE_7.out 4 (v := .slice ta' tn' tc') rfl
  have f5 := cell_blk HE_7.out 5 (v := .int .u64 (lu' : Int)) rfl
  go_wp2_with fail
  try (go_at_call 10)
  refine (PR1.out w8 HT_7.out).mono ?_
  rintro e w9 ⟨v, rfl, hv, hb⟩
  have HB8 := hide (HB7.out.trans (hb.mono HB7.out.size))
  have HE_8 := hide (blkB HE_7.out hb)
  have HT_8 := hide (HT_7.out.bel hb)
  have HV_8 := hide (HV_7.out.bel hb)
  have HO_8 := hide (blkB HO_7.out hb)
  have HU_8 := hide (HU_7.out.bel hb)
  have HX_8 := hide (blkB HX_7.out hb)
  have HW_8 := hide (HW_7.out.bel hb)
  have HP_8 := hide (blkB HP_7.out hb)
  clear HE_7 HT_7 HV_7 HO_7 HU_7 HX_7 HW_7 HP_7 HB7
  clear hb
  clear f0 f1 f2 f3 f4 f5
  have HY_8 := hide (hv)
  obtain ⟨q1, q2, q3, ev, hov⟩ := hv
  obtain ⟨qm, hpm⟩ : ∃ x, str s.1.1 = x := ⟨_, rfl⟩
  obtain ⟨qd, hpd⟩ : ∃ x, s.1.2 = x := ⟨_, rfl⟩
  rw [hpm, hpd] at ev
  subst ev
  clear hov hpm hpd PR1
  clear HE_8
  clear HT_8
  have hba : Below w9.heap.size w9 (w9.alloc (.cells #[.string qm, .int .i64 qd, .slice q1 q2 q3] 30)) := (Below.refl _ _).alloc (Nat.le_refl _) _
  have hnx := heap_alloc_new w9 (.cells #[.string qm, .int .i64 qd, .slice q1 q2 q3] 30)
  have HB9 := hide (HB8.out.trans (hba.mono HB8.out.size))
  have HV_9 := hide (HV_8.out.bel hba)
  have HO_9 := hide (blkB HO_8.out hba)
  have HU_9 := hide (HU_8.out.bel hba)
  have HX_9 := hide (blkB HX_8.out hba)
  have HW_9 := hide (HW_8.out.bel hba)
  have HP_9 := hide (blkB HP_8.out hba)
  have HY_9 := hide (HY_8.out.bel hba)
  clear HV_8 HO_8 HU_8 HX_8 HW_8 HP_8 HY_8 HB8
  have HZ_9 := hide (hnx)
  clear hba hnx
  go_upto_region 7 with fail
  generalize w9.alloc (.cells #[.string qm, .int .i64 qd, .slice q1 q2 q3] 30) = w10 at *
  generalize w9.heap.size = pc at *
  have f0 := cell_blk HO_9.out 0 (v := .int .i64 oki) rfl
  have f1 := cell_blk HO_9.out 1 (v := .string onm) rfl
  have f2 := cell_blk HO_9.out 2 (v := .int .i64 odl) rfl
  have f3 := cell_blk HO_9.out 3 (v := .slice ox1 ox2 ox3) rfl
  have f4 := cell_blk HO_9.out 4 (v := .string oky) rfl
  have f5 := cell_blk HO_9.out 5 (v := .int .i64 ola) rfl
  have f6 := cell_blk HO_9.out 6 (v := .int .i64 owo) rfl
  have f7 := cell_blk HO_9.out 7 (v := .int .i64 otk) rfl
  have f8 := cell_blk HO_9.out 8 (v := .slice oy1 oy2 oy3) rfl
  have f9 := cell_blk HO_9.out 9 (v := .int .i64 oru) rfl
  have f10 := cell_blk HO_9.out 10 (v := .int .u64 olu) rfl
  have f11 := cell_blk HO_9.out 11 (v := .int .i64 oti) rfl
  go_wp2_with fail
  try (go_at_call 11)
  refine (BD.out w10 _ HV_9.out).mono ?_
  rintro e w11 ⟨a1, c1, rfl, hr, -, hc, hb⟩
  have HB10 := hide (HB9.out.trans (hb.mono HB9.out.size))
  have HV_10 := hide (HV_9.out.bel hb)
  have HO_10 := hide (blkB HO_9.out hb)
  have HU_10 := hide (HU_9.out.bel hb)
  have HX_10 := hide (blkB HX_9.out hb)
  have HW_10 := hide (HW_9.out.bel hb)
  have HP_10 := hide (blkB HP_9.out hb)
  have HY_10 := hide (HY_9.out.bel hb)
  have HZ_10 := hide (blkB HZ_9.out hb)
  clear HV_9 HO_9 HU_9 HX_9 HW_9 HP_9 HY_9 HZ_9 HB9
  clear hb
  clear f0 f1 f2 f3 f4 f5 f6 f7 f8 f9 f10 f11
  have HR1_10 := hide (hr)
  have HA1 := hide hc
  have HA1B := hide hr.2.2.1
  clear hr hc BD
  have f0 := cell_blk HX_10.out 0 (v := .int .i64 xki) rfl
  have f1 := cell_blk HX_10.out 1 (v := .string xnm) rfl
  have f2 := cell_blk HX_10.out 2 (v := .int .i64 xdl) rfl
  have f3 := cell_blk HX_10.out 3 (v := .slice xx1 xx2 xx3) rfl
  have f4 := cell_blk HX_10.out 4 (v := .string xky) rfl
  have f5 := cell_blk HX_10.out 5 (v := .int .i64 xla) rfl
  have f6 := cell_blk HX_10.out 6 (v := .int .i64 xwo) rfl
  have f7 := cell_blk HX_10.out 7 (v := .int .i64 xtk) rfl
  have f8 := cell_blk HX_10.out 8 (v := .slice xy1 xy2 xy3) rfl
  have f9 := cell_blk HX_10.out 9 (v := .int .i64 xru) rfl
  have f10 := cell_blk HX_10.out 10 (v := .int .u64 xlu) rfl
  have f11 := cell_blk HX_10.out 11 (v := .int .i64 xti) rfl
  go_wp2_with fail
  try (go_at_call 11)
  refine (BE.out w11 _ HU_10.out).mono ?_
  rintro e w12 ⟨a2, c2, rfl, hr, -, hc, hb⟩
  have HB11 := hide (HB10.out.trans (hb.mono HB10.out.size))
  have HV_11 := hide (HV_10.out.bel hb)
  have HO_11 := hide (blkB HO_10.out hb)
  have HU_11 := hide (HU_10.out.bel hb)
  have HX_11 := hide (blkB HX_10.out hb)
  have HW_11 := hide (HW_10.out.bel hb)
  have HP_11 := hide (blkB HP_10.out hb)
  have HY_11 := hide (HY_10.out.bel hb)
  have HZ_11 := hide (blkB HZ_10.out hb)
  have HR1_11 := hide (HR1_10.out.keep hb)
  clear HV_10 HO_10 HU_10 HX_10 HW_10 HP_10 HY_10 HZ_10 HR1_10 HB10
  clear hb
  clear f0 f1 f2 f3 f4 f5 f6 f7 f8 f9 f10 f11
  have HR2_11 := hide (hr)
  have HA2 := hide hc
  have HA2B := hide hr.2.2.1
  clear hr hc BE
  have f0 := cell_blk HP_11.out 0 (v := .string pm) rfl
  have f1 := cell_blk HP_11.out 1 (v := .int .i64 pd) rfl
  have f2 := cell_blk HP_11.out 2 (v := .slice p1 p2 p3) rfl
  go_wp2_with fail
  try (go_at_call 12)
  refine (BP.out w12 _ HW_11.out).mono ?_
  rintro e w13 ⟨a3, c3, rfl, hr, -, hc, hb⟩
  have HB12 := hide (HB11.out.trans (hb.mono HB11.out.size))
  have HV_12 := hide (HV_11.out.bel hb)
  have HO_12 := hide (blkB HO_11.out hb)
  have HU_12 := hide (HU_11.out.bel hb)
  have HX_12 := hide (blkB HX_11.out hb)
  have HW_12 := hide (HW_11.out.bel hb)
  have HP_12 := hide (blkB HP_11.out hb)
  have HY_12 := hide (HY_11.out.bel hb)
  have HZ_12 := hide (blkB HZ_11.out hb)
  have HR1_12 := hide (HR1_11.out.keep hb)
  have HR2_12 := hide (HR2_11.out.keep hb)
  clear HV_11 HO_11 HU_11 HX_11 HW_11 HP_11 HY_11 HZ_11 HR1_11 HR2_11 HB11
  clear hb
  clear f0 f1 f2
  have HR3_12 := hide (hr)
  have HA3 := hide hc
  have HA3B := hide hr.2.2.1
  clear hr hc BP
  have f0 := cell_blk HZ_12.out 0 (v := .string qm) rfl
  have f1 := cell_blk HZ_12.out 1 (v := .int .i64 qd) rfl
  have f2 := cell_blk HZ_12.out 2 (v := .slice q1 q2 q3) rfl
  go_wp2_with fail
  try (go_at_call 12)
  refine (BS.out w13 _ HY_12.out).mono ?_
  rintro e w14 ⟨a4, c4, rfl, hr, -, hc, hb⟩
  have HB13 := hide (HB12.out.trans (hb.mono HB12.out.size))
  have HV_13 := hide (HV_12.out.bel hb)
  have HO_13 := hide (blkB HO_12.out hb)
  have HU_13 := hide (HU_12.out.bel hb)
  have HX_13 := hide (blkB HX_12.out hb)
  have HW_13 := hide (HW_12.out.bel hb)
  have HP_13 := hide (blkB HP_12.out hb)
  have HY_13 := hide (HY_12.out.bel hb)
  have HZ_13 := hide (blkB HZ_12.out hb)
  have HR1_13 := hide (HR1_12.out.keep hb)
  have HR2_13 := hide (HR2_12.out.keep hb)
  have HR3_13 := hide (HR3_12.out.keep hb)
  clear HV_12 HO_12 HU_12 HX_12 HW_12 HP_12 HY_12 HZ_12 HR1_12 HR2_12 HR3_12 HB12
  clear hb
  clear f0 f1 f2
  have HR4_13 := hide (hr)
  have HA4 := hide hc
  have HA4B := hide hr.2.2.1
  clear hr hc BS
  go_wp2_with fail
  cases bo
  case false =>
    have f0 := cell_blk HO_13.out 0 (v := .int .i64 oki) rfl
    have f1 := cell_blk HO_13.out 1 (v := .string onm) rfl
    have f2 := cell_blk HO_13.out 2 (v := .int .i64 odl) rfl
    have f3 := cell_blk HO_13.out 3 (v := .slice ox1 ox2 ox3) rfl
    have f4 := cell_blk HO_13.out 4 (v := .string oky) rfl
    have f5 := cell_blk HO_13.out 5 (v := .int .i64 ola) rfl
    have f6 := cell_blk HO_13.out 6 (v := .int .i64 owo) rfl
    have f7 := cell_blk HO_13.out 7 (v := .int .i64 otk) rfl
    have f8 := cell_blk HO_13.out 8 (v := .slice oy1 oy2 oy3) rfl
    have f9 := cell_blk HO_13.out 9 (v := .int .i64 oru) rfl
    have f10 := cell_blk HO_13.out 10 (v := .int .u64 olu) rfl
    have f11 := cell_blk HO_13.out 11 (v := .int .i64 oti) rfl
    have g0 := cell_blk HX_13.out 0 (v := .int .i64 xki) rfl
    have g1 := cell_blk HX_13.out 1 (v := .string xnm) rfl
    have g2 := cell_blk HX_13.out 2 (v := .int .i64 xdl) rfl
    have g3 := cell_blk HX_13.out 3 (v := .slice xx1 xx2 xx3) rfl
    have g4 := cell_blk HX_13.out 4 (v := .string xky) rfl
    have g5 := cell_blk HX_13.out 5 (v := .int .i64 xla) rfl
    have g6 := cell_blk HX_13.out 6 (v := .int .i64 xwo) rfl
    have g7 := cell_blk HX_13.out 7 (v := .int .i64 xtk) rfl
    have g8 := cell_blk HX_13.out 8 (v := .slice xy1 xy2 xy3) rfl
    have g9 := cell_blk HX_13.out 9 (v := .int .i64 xru) rfl
    have g10 := cell_blk HX_13.out 10 (v := .int .u64 xlu) rfl
    have g11 := cell_blk HX_13.out 11 (v := .int .i64 xti) rfl
    have eqo := EQO.out HA1B.out HA2B.out
    have fu0 := fun u : Behind w14 => u.cell f0
    have fu1 := fun u : Behind w14 => u.cell f1
    have fu2 := fun u : Behind w14 => u.cell f2
    have fu3 := fun u : Behind w14 => u.cell f3
    have fu4 := fun u : Behind w14 => u.cell f4
    have fu5 := fun u : Behind w14 => u.cell f5
    have fu6 := fun u : Behind w14 => u.cell f6
    have fu7 := fun u : Behind w14 => u.cell f7
    have fu8 := fun u : Behind w14 => u.cell f8
    have fu9 := fun u : Behind w14 => u.cell f9
    have fu10 := fun u : Behind w14 => u.cell f10
    have fu11 := fun u : Behind w14 => u.cell f11
    have gu0 := fun u : Behind w14 => u.cell g0
    have gu1 := fun u : Behind w14 => u.cell g1
    have gu2 := fun u : Behind w14 => u.cell g2
    have gu3 := fun u : Behind w14 => u.cell g3
    have gu4 := fun u : Behind w14 => u.cell g4
    have gu5 := fun u : Behind w14 => u.cell g5
    have gu6 := fun u : Behind w14 => u.cell g6
    have gu7 := fun u : Behind w14 => u.cell g7
    have gu8 := fun u : Behind w14 => u.cell g8
    have gu9 := fun u : Behind w14 => u.cell g9
    have gu10 := fun u : Behind w14 => u.cell g10
    have gu11 := fun u : Behind w14 => u.cell g11
    have k1 := fun u : Behind w14 => conv_rd (HR1_13.out.keep u.2) c1
    have k2 := fun u : Behind w14 => conv_rd (HR2_13.out.keep u.2) c2
    have LU := hide (fun u : Behind w14 => LK.out u.1 _ _ (HV_13.out.bel u.2) (HU_13.out.bel u.2))
    have B1 := hide (fun u : Behind w14 => begins_no a1 n c1 L a2 m c2 M u.1 (HR1_13.out.keep u.2) (HR2_13.out.keep u.2) HA2.out (GO.out rfl).1)
    have B2 := hide (fun u : Behind w14 => begins_no a2 m c2 M a1 n c1 L u.1 (HR2_13.out.keep u.2) (HR1_13.out.keep u.2) HA1.out (GO.out rfl).2)
    clear f0 f1 f2 f3 f4 f5 f6 f7 f8 f9 f10 f11 g0 g1 g2 g3 g4 g5 g6 g7 g8 g9 g10 g11
    generalize str L = s1 at *
    generalize str M = s2 at *
    haveI := behindNE w14
    refine quiet_behind (by kernel_rfl) (by kernel_rfl) ?_
    repeat (go_big_quiet_step ((first | (go_at_call 16; exact calls_behind _ (LU.out _)) | (go_at_call 18; with_reducible exact calls_behind _ (B1.out _)) | (go_at_call 18; exact calls_behind _ (B2.out _)))))
    refine wpQuiet_nil ?_
    intro v1 hw'
    obtain ⟨uu, eu⟩ := hw'
    have hb : Below w14.heap.size w14 v1 := by rw [eu]; exact uu.2
    clear eu uu
    clear eqo k1 k2 LU fu0 fu1 fu2 fu3 fu4 fu5 fu6 fu7 fu8 fu9 fu10 fu11 gu0 gu1 gu2 gu3 gu4 gu5 gu6 gu7 gu8 gu9 gu10 gu11 B1 B2 EQO GO LK
    have HB14 := hide (HB13.out.trans (hb.mono HB13.out.size))
    have HV_14 := hide (HV_13.out.bel hb)
    have HO_14 := hide (blkB HO_13.out hb)
    have HU_14 := hide (HU_13.out.bel hb)
    have HX_14 := hide (blkB HX_13.out hb)
    have HW_14 := hide (HW_13.out.bel hb)
    have HP_14 := hide (blkB HP_13.out hb)
    have HY_14 := hide (HY_13.out.bel hb)
    have HZ_14 := hide (blkB HZ_13.out hb)
    have HR1_14 := hide (HR1_13.out.keep hb)
    have HR2_14 := hide (HR2_13.out.keep hb)
    have HR3_14 := hide (HR3_13.out.keep hb)
    have HR4_14 := hide (HR4_13.out.keep hb)
    clear HV_13 HO_13 HU_13 HX_13 HW_13 HP_13 HY_13 HZ_13 HR1_13 HR2_13 HR3_13 HR4_13 HB13
    clear hb
    clear HO_14 HX_14 HV_14 HU_14 HR1_14 HR2_14
    go_wp2_with fail
    cases bp
    case false =>
      have f0 := cell_blk HP_14.out 0 (v := .string pm) rfl
      have f1 := cell_blk HP_14.out 1 (v := .int .i64 pd) rfl
      have f2 := cell_blk HP_14.out 2 (v := .slice p1 p2 p3) rfl
      have g0 := cell_blk HZ_14.out 0 (v := .string qm) rfl
      have g1 := cell_blk HZ_14.out 1 (v := .int .i64 qd) rfl
      have g2 := cell_blk HZ_14.out 2 (v := .slice q1 q2 q3) rfl
      have eqo := EQP.out HA3B.out HA4B.out
      have fu0 := fun u : Behind v1 => u.cell f0
      have fu1 := fun u : Behind v1 => u.cell f1
      have fu2 := fun u : Behind v1 => u.cell f2
      have gu0 := fun u : Behind v1 => u.cell g0
      have gu1 := fun u : Behind v1 => u.cell g1
      have gu2 := fun u : Behind v1 => u.cell g2
      have k1 := fun u : Behind v1 => conv_rd (HR3_14.out.keep u.2) c3
      have k2 := fun u : Behind v1 => conv_rd (HR4_14.out.keep u.2) c4
      have LU := hide (fun u : Behind v1 => AK.out u.1 _ _ (HW_14.out.bel u.2) (HY_14.out.bel u.2))
      have B1 := hide (fun u : Behind v1 => begins_no a3 k c3 N a4 j c4 K u.1 (HR3_14.out.keep u.2) (HR4_14.out.keep u.2) HA4.out (GP.out rfl).1)
      have B2 := hide (fun u : Behind v1 => begins_no a4 j c4 K a3 k c3 N u.1 (HR4_14.out.keep u.2) (HR3_14.out.keep u.2) HA3.out (GP.out rfl).2)
      clear f0 f1 f2 g0 g1 g2
      generalize str N = s1 at *
      generalize str K = s2 at *
      haveI := behindNE v1
      refine quiet_behind (by kernel_rfl) (by kernel_rfl) ?_
      repeat (go_big_quiet_step ((first | (go_at_call 17; exact calls_behind _ (LU.out _)) | (go_at_call 18; with_reducible exact calls_behind _ (B1.out _)) | (go_at_call 18; exact calls_behind _ (B2.out _)))))
      refine wpQuiet_nil ?_
      intro v2 hw'
      obtain ⟨uu, eu⟩ := hw'
      have hb : Below v1.heap.size v1 v2 := by rw [eu]; exact uu.2
      clear eu uu
      clear eqo k1 k2 LU fu0 fu1 fu2 gu0 gu1 gu2 B1 B2 EQP GP AK
      have HB15 := hide (HB14.out.trans (hb.mono HB14.out.size))
      have HW_15 := hide (HW_14.out.bel hb)
      have HP_15 := hide (blkB HP_14.out hb)
      have HY_15 := hide (HY_14.out.bel hb)
      have HZ_15 := hide (blkB HZ_14.out hb)
      have HR3_15 := hide (HR3_14.out.keep hb)
      have HR4_15 := hide (HR4_14.out.keep hb)
      clear HW_14 HP_14 HY_14 HZ_14 HR3_14 HR4_14 HB14
      clear hb
      go_wp2_with fail
      go_ret
      exact ⟨rfl, HB15.out⟩
    case true =>
      have f0 := cell_blk HP_14.out 0 (v := .string pm) rfl
      have f1 := cell_blk HP_14.out 1 (v := .int .i64 pd) rfl
      have f2 := cell_blk HP_14.out 2 (v := .slice p1 p2 p3) rfl
      have g0 := cell_blk HZ_14.out 0 (v := .string qm) rfl
      have g1 := cell_blk HZ_14.out 1 (v := .int .i64 qd) rfl
      have g2 := cell_blk HZ_14.out 2 (v := .slice q1 q2 q3) rfl
      have eqo := EQP.out HA3B.out HA4B.out
      have fu0 := fun u : Behind v1 => u.cell f0
      have fu1 := fun u : Behind v1 => u.cell f1
      have fu2 := fun u : Behind v1 => u.cell f2
      have gu0 := fun u : Behind v1 => u.cell g0
      have gu1 := fun u : Behind v1 => u.cell g1
      have gu2 := fun u : Behind v1 => u.cell g2
      have k1 := fun u : Behind v1 => conv_rd (HR3_14.out.keep u.2) c3
      have k2 := fun u : Behind v1 => conv_rd (HR4_14.out.keep u.2) c4
      have LU := hide (fun u : Behind v1 => AK.out u.1 _ _ (HW_14.out.bel u.2) (HY_14.out.bel u.2))
      clear f0 f1 f2 g0 g1 g2
      generalize str N = s1 at *
      generalize str K = s2 at *
      haveI := behindNE v1
      refine quiet_behind (by kernel_rfl) (by kernel_rfl) ?_
      repeat (go_big_quiet_step ((first | (go_at_call 17; exact calls_behind _ (LU.out _)))))
      refine wpQuiet_nil ?_
      intro v2 hw'
      obtain ⟨uu, eu⟩ := hw'
      have hb : Below v1.heap.size v1 v2 := by rw [eu]; exact uu.2
      clear eu uu
      clear eqo k1 k2 LU fu0 fu1 fu2 gu0 gu1 gu2 EQP GP AK
      have HB15 := hide (HB14.out.trans (hb.mono HB14.out.size))
      have HW_15 := hide (HW_14.out.bel hb)
      have HP_15 := hide (blkB HP_14.out hb)
      have HY_15 := hide (HY_14.out.bel hb)
      have HZ_15 := hide (blkB HZ_14.out hb)
      have HR3_15 := hide (HR3_14.out.keep hb)
      have HR4_15 := hide (HR4_14.out.keep hb)
      clear HW_14 HP_14 HY_14 HZ_14 HR3_14 HR4_14 HB14
      clear hb
      go_wp2_with fail
      go_ret
      exact ⟨rfl, HB15.out⟩
  case true =>
    have f0 := cell_blk HO_13.out 0 (v := .int .i64 oki) rfl
    have f1 := cell_blk HO_13.out 1 (v := .string onm) rfl
    have f2 := cell_blk HO_13.out 2 (v := .int .i64 odl) rfl
    have f3 := cell_blk HO_13.out 3 (v := .slice ox1 ox2 ox3) rfl
    have f4 := cell_blk HO_13.out 4 (v := .string oky) rfl
    have f5 := cell_blk HO_13.out 5 (v := .int .i64 ola) rfl
    have f6 := cell_blk HO_13.out 6 (v := .int .i64 owo) rfl
    have f7 := cell_blk HO_13.out 7 (v := .int .i64 otk) rfl
    have f8 := cell_blk HO_13.out 8 (v := .slice oy1 oy2 oy3) rfl
    have f9 := cell_blk HO_13.out 9 (v := .int .i64 oru) rfl
    have f10 := cell_blk HO_13.out 10 (v := .int .u64 olu) rfl
    have f11 := cell_blk HO_13.out 11 (v := .int .i64 oti) rfl
    have g0 := cell_blk HX_13.out 0 (v := .int .i64 xki) rfl
    have g1 := cell_blk HX_13.out 1 (v := .string xnm) rfl
    have g2 := cell_blk HX_13.out 2 (v := .int .i64 xdl) rfl
    have g3 := cell_blk HX_13.out 3 (v := .slice xx1 xx2 xx3) rfl
    have g4 := cell_blk HX_13.out 4 (v := .string xky) rfl
    have g5 := cell_blk HX_13.out 5 (v := .int .i64 xla) rfl
    have g6 := cell_blk HX_13.out 6 (v := .int .i64 xwo) rfl
    have g7 := cell_blk HX_13.out 7 (v := .int .i64 xtk) rfl
    have g8 := cell_blk HX_13.out 8 (v := .slice xy1 xy2 xy3) rfl
    have g9 := cell_blk HX_13.out 9 (v := .int .i64 xru) rfl
    have g10 := cell_blk HX_13.out 10 (v := .int .u64 xlu) rfl
    have g11 := cell_blk HX_13.out 11 (v := .int .i64 xti) rfl
    have eqo := EQO.out HA1B.out HA2B.out
    have fu0 := fun u : Behind w14 => u.cell f0
    have fu1 := fun u : Behind w14 => u.cell f1
    have fu2 := fun u : Behind w14 => u.cell f2
    have fu3 := fun u : Behind w14 => u.cell f3
    have fu4 := fun u : Behind w14 => u.cell f4
    have fu5 := fun u : Behind w14 => u.cell f5
    have fu6 := fun u : Behind w14 => u.cell f6
    have fu7 := fun u : Behind w14 => u.cell f7
    have fu8 := fun u : Behind w14 => u.cell f8
    have fu9 := fun u : Behind w14 => u.cell f9
    have fu10 := fun u : Behind w14 => u.cell f10
    have fu11 := fun u : Behind w14 => u.cell f11
    have gu0 := fun u : Behind w14 => u.cell g0
    have gu1 := fun u : Behind w14 => u.cell g1
    have gu2 := fun u : Behind w14 => u.cell g2
    have gu3 := fun u : Behind w14 => u.cell g3
    have gu4 := fun u : Behind w14 => u.cell g4
    have gu5 := fun u : Behind w14 => u.cell g5
    have gu6 := fun u : Behind w14 => u.cell g6
    have gu7 := fun u : Behind w14 => u.cell g7
    have gu8 := fun u : Behind w14 => u.cell g8
    have gu9 := fun u : Behind w14 => u.cell g9
    have gu10 := fun u : Behind w14 => u.cell g10
    have gu11 := fun u : Behind w14 => u.cell g11
    have k1 := fun u : Behind w14 => conv_rd (HR1_13.out.keep u.2) c1
    have k2 := fun u : Behind w14 => conv_rd (HR2_13.out.keep u.2) c2
    have LU := hide (fun u : Behind w14 => LK.out u.1 _ _ (HV_13.out.bel u.2) (HU_13.out.bel u.2))
    clear f0 f1 f2 f3 f4 f5 f6 f7 f8 f9 f10 f11 g0 g1 g2 g3 g4 g5 g6 g7 g8 g9 g10 g11
    generalize str L = s1 at *
    generalize str M = s2 at *
    haveI := behindNE w14
    refine quiet_behind (by kernel_rfl) (by kernel_rfl) ?_
    repeat (go_big_quiet_step ((first | (go_at_call 16; exact calls_behind _ (LU.out _)))))
    refine wpQuiet_nil ?_
    intro v1 hw'
    obtain ⟨uu, eu⟩ := hw'
    have hb : Below w14.heap.size w14 v1 := by rw [eu]; exact uu.2
    clear eu uu
    clear eqo k1 k2 LU fu0 fu1 fu2 fu3 fu4 fu5 fu6 fu7 fu8 fu9 fu10 fu11 gu0 gu1 gu2 gu3 gu4 gu5 gu6 gu7 gu8 gu9 gu10 gu11 EQO GO LK
    have HB14 := hide (HB13.out.trans (hb.mono HB13.out.size))
    have HV_14 := hide (HV_13.out.bel hb)
    have HO_14 := hide (blkB HO_13.out hb)
    have HU_14 := hide (HU_13.out.bel hb)
    have HX_14 := hide (blkB HX_13.out hb)
    have HW_14 := hide (HW_13.out.bel hb)
    have HP_14 := hide (blkB HP_13.out hb)
    have HY_14 := hide (HY_13.out.bel hb)
    have HZ_14 := hide (blkB HZ_13.out hb)
    have HR1_14 := hide (HR1_13.out.keep hb)
    have HR2_14 := hide (HR2_13.out.keep hb)
    have HR3_14 := hide (HR3_13.out.keep hb)
    have HR4_14 := hide (HR4_13.out.keep hb)
    clear HV_13 HO_13 HU_13 HX_13 HW_13 HP_13 HY_13 HZ_13 HR1_13 HR2_13 HR3_13 HR4_13 HB13
    clear hb
    clear HO_14 HX_14 HV_14 HU_14 HR1_14 HR2_14
    go_wp2_with fail
    cases bp
    case false =>
      have f0 := cell_blk HP_14.out 0 (v := .string pm) rfl
      have f1 := cell_blk HP_14.out 1 (v := .int .i64 pd) rfl
      have f2 := cell_blk HP_14.out 2 (v := .slice p1 p2 p3) rfl
      have g0 := cell_blk HZ_14.out 0 (v := .string qm) rfl
      have g1 := cell_blk HZ_14.out 1 (v := .int .i64 qd) rfl
      have g2 := cell_blk HZ_14.out 2 (v := .slice q1 q2 q3) rfl
      have eqo := EQP.out HA3B.out HA4B.out
      have fu0 := fun u : Behind v1 => u.cell f0
      have fu1 := fun u : Behind v1 => u.cell f1
      have fu2 := fun u : Behind v1 => u.cell f2
      have gu0 := fun u : Behind v1 => u.cell g0
      have gu1 := fun u : Behind v1 => u.cell g1
      have gu2 := fun u : Behind v1 => u.cell g2
      have k1 := fun u : Behind v1 => conv_rd (HR3_14.out.keep u.2) c3
      have k2 := fun u : Behind v1 => conv_rd (HR4_14.out.keep u.2) c4
      have LU := hide (fun u : Behind v1 => AK.out u.1 _ _ (HW_14.out.bel u.2) (HY_14.out.bel u.2))
      have B1 := hide (fun u : Behind v1 => begins_no a3 k c3 N a4 j c4 K u.1 (HR3_14.out.keep u.2) (HR4_14.out.keep u.2) HA4.out (GP.out rfl).1)
      have B2 := hide (fun u : Behind v1 => begins_no a4 j c4 K a3 k c3 N u.1 (HR4_14.out.keep u.2) (HR3_14.out.keep u.2) HA3.out (GP.out rfl).2)
      clear f0 f1 f2 g0 g1 g2
      generalize str N = s1 at *
      generalize str K = s2 at *
      haveI := behindNE v1
      refine quiet_behind (by kernel_rfl) (by kernel_rfl) ?_
      repeat (go_big_quiet_step ((first | (go_at_call 17; exact calls_behind _ (LU.out _)) | (go_at_call 18; with_reducible exact calls_behind _ (B1.out _)) | (go_at_call 18; exact calls_behind _ (B2.out _)))))
      refine wpQuiet_nil ?_
      intro v2 hw'
      obtain ⟨uu, eu⟩ := hw'
      have hb : Below v1.heap.size v1 v2 := by rw [eu]; exact uu.2
      clear eu uu
      clear eqo k1 k2 LU fu0 fu1 fu2 gu0 gu1 gu2 B1 B2 EQP GP AK
      have HB15 := hide (HB14.out.trans (hb.mono HB14.out.size))
      have HW_15 := hide (HW_14.out.bel hb)
      have HP_15 := hide (blkB HP_14.out hb)
      have HY_15 := hide (HY_14.out.bel hb)
      have HZ_15 := hide (blkB HZ_14.out hb)
      have HR3_15 := hide (HR3_14.out.keep hb)
      have HR4_15 := hide (HR4_14.out.keep hb)
      clear HW_14 HP_14 HY_14 HZ_14 HR3_14 HR4_14 HB14
      clear hb
      go_wp2_with fail
      go_ret
      exact ⟨rfl, HB15.out⟩
    case true =>
      have f0 := cell_blk HP_14.out 0 (v := .string pm) rfl
      have f1 := cell_blk HP_14.out 1 (v := .int .i64 pd) rfl
      have f2 := cell_blk HP_14.out 2 (v := .slice p1 p2 p3) rfl
      have g0 := cell_blk HZ_14.out 0 (v := .string qm) rfl
      have g1 := cell_blk HZ_14.out 1 (v := .int .i64 qd) rfl
      have g2 := cell_blk HZ_14.out 2 (v := .slice q1 q2 q3) rfl
      have eqo := EQP.out HA3B.out HA4B.out
      have fu0 := fun u : Behind v1 => u.cell f0
      have fu1 := fun u : Behind v1 => u.cell f1
      have fu2 := fun u : Behind v1 => u.cell f2
      have gu0 := fun u : Behind v1 => u.cell g0
      have gu1 := fun u : Behind v1 => u.cell g1
      have gu2 := fun u : Behind v1 => u.cell g2
      have k1 := fun u : Behind v1 => conv_rd (HR3_14.out.keep u.2) c3
      have k2 := fun u : Behind v1 => conv_rd (HR4_14.out.keep u.2) c4
      have LU := hide (fun u : Behind v1 => AK.out u.1 _ _ (HW_14.out.bel u.2) (HY_14.out.bel u.2))
      clear f0 f1 f2 g0 g1 g2
      generalize str N = s1 at *
      generalize str K = s2 at *
      haveI := behindNE v1
      refine quiet_behind (by kernel_rfl) (by kernel_rfl) ?_
      repeat (go_big_quiet_step ((first | (go_at_call 17; exact calls_behind _ (LU.out _)))))
      refine wpQuiet_nil ?_
      intro v2 hw'
      obtain ⟨uu, eu⟩ := hw'
      have hb : Below v1.heap.size v1 v2 := by rw [eu]; exact uu.2
      clear eu uu
      clear eqo k1 k2 LU fu0 fu1 fu2 gu0 gu1 gu2 EQP GP AK
      have HB15 := hide (HB14.out.trans (hb.mono HB14.out.size))
      have HW_15 := hide (HW_14.out.bel hb)
      have HP_15 := hide (blkB HP_14.out hb)
      have HY_15 := hide (HY_14.out.bel hb)
      have HZ_15 := hide (blkB HZ_14.out hb)
      have HR3_15 := hide (HR3_14.out.keep hb)
      have HR4_15 := hide (HR4_14.out.keep hb)
      clear HW_14 HP_14 HY_14 HZ_14 HR3_14 HR4_14 HB14
      clear hb
      go_wp2_with fail
      go_ret
      exact ⟨rfl, HB15.out⟩
theorem beq_of {a b : List Nat} (ha : ∀ x ∈ a, x < 256) (hb : ∀ x ∈ b, x < 256) {P : Prop} {q : Bool} (h : a = b ↔ P) (hq : q = true ↔ P) : ((str a).toList == (str b).toList) = q := by
  cases q with
  | true => rw [h.2 (hq.1 rfl)]; simp
  | false =>
    refine bytes_ne fun e => ?_
    have := hq.2 (h.1 (str_inj ha hb e))
    cases this
/-- like, named by one bool in every world -/
theorem like_named {d e : Ov} (hk : OvK d) (gk : OvK e) (w : World) (u v : Value) (h : OvV d w u) (g : OvV e w v) {q : Bool} (hq : q = true ↔ d = e) :
    Calls Tryz.prog 16 #[u, v] w fun en w' => en = .returned (.bool q) ∧ Below w.heap.size w w' := by
  refine (like_val h hk g gk).mono ?_
  rintro en w' ⟨⟨b, rfl, hb⟩, k⟩
  obtain rfl : b = q := Bool.eq_iff_iff.2 (hb.trans hq.symm)
  exact ⟨rfl, k.below (Nat.le_refl _) (fun _ f => f.elim)⟩
theorem alike_named {d e : Pv} (hk : PvK d) (gk : PvK e) (w : World) (u v : Value) (h : PlV d w u) (g : PlV e w v) {q : Bool} (hq : q = true ↔ d = e) :
    Calls Tryz.prog 17 #[u, v] w fun en w' => en = .returned (.bool q) ∧ Below w.heap.size w w' := by
  refine (alike_val h hk g gk).mono ?_
  rintro en w' ⟨⟨b, rfl, hb⟩, k⟩
  obtain rfl : b = q := Bool.eq_iff_iff.2 (hb.trans hq.symm)
  exact ⟨rfl, k.below (Nat.le_refl _) (fun _ f => f.elim)⟩
theorem apart_walk (q r : De) (w : World) (hq : q.In w) (hr : r.In w) :
    Calls Tryz.prog 6 #[.agg q.row.toArray, .agg r.row.toArray] w fun en w' => en = .returned (.bool true) ∧ Below w.heap.size w w' := by
  classical
  have hk := opv_k q hq.tx.2.2.1 hq.lu
  have gk := opv_k r hr.tx.2.2.1 hr.lu
  have hpk := plv_k q.rs q.nu
  have gpk := plv_k r.rs r.nu
  have hpm := plv_may q.rs q.nu
  have gpm := plv_may r.rs r.nu
  have b1 : decide (opv q = opv r) = true ↔ opv q = opv r := by simp
  have b2 : decide (plv q.rs q.nu = plv r.rs r.nu) = true ↔ plv q.rs q.nu = plv r.rs r.nu := by simp
  have i1 : opBs (opv q) = opBs (opv r) ↔ opv q = opv r := ⟨fun e => (op_pre hk.ok gk.ok (t := []) (by rw [e, List.append_nil])).1, fun e => by rw [e]⟩
  have i2 : plBs (plv q.rs q.nu) = plBs (plv r.rs r.nu) ↔ plv q.rs q.nu = plv r.rs r.nu := ⟨fun e => (pl_pre hpm gpm (t := []) (by rw [e, List.append_nil])).1, fun e => by rw [e]⟩
  refine apart_core q r w hq hr (opv q) (opv r) (plv q.rs q.nu) (plv r.rs r.nu) _ _ _ _ _ _ _ _ (decide (opv q = opv r)) (decide (plv q.rs q.nu = plv r.rs r.nu))
    (hide fun W h => opOf12_any q W h) (hide fun W h => opOf12_any r W h) (hide fun W h => planOf12_any q.s q.rs q.nu _ W h.rd h.nu) (hide fun W h => planOf12_any r.s r.rs r.nu _ W h.rd h.nu)
    (hide fun W v h => opB_out hk rfl W v h) (hide fun W v h => opB_out gk rfl W v h) (hide fun W v h => plB_out hpk hpm rfl W v h) (hide fun W v h => plB_out gpk gpm rfl W v h)
    (hide fun W u v h g => like_named hk gk W u v h g b1) (hide fun W u v h g => alike_named hpk gpk W u v h g b2)
    (hide ?_) (hide ?_) (hide fun e => ⟨fun t ht => ?_, fun t ht => ?_⟩) (hide fun e => ⟨fun t ht => ?_, fun t ht => ?_⟩)
  · exact fun ha hb => beq_of ha hb i1 b1
  · exact fun ha hb => beq_of ha hb i2 b2
  · exact (of_decide_eq_false e) (op_pre hk.ok gk.ok ht).1
  · exact (of_decide_eq_false e) (op_pre gk.ok hk.ok ht).1.symm
  · exact (of_decide_eq_false e) (pl_pre hpm gpm ht).1
  · exact (of_decide_eq_false e) (pl_pre gpm hpm ht).1.symm
end Cd
end Go.Proofs.YtbjcckfhfbjchaaGreat
