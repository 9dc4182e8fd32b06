/- CodecOneForm: the walk (written by cgf_gen.py). -/
import Derived.Test.YtbjcckfhfbjchaaGreatCEr
import Derived.Test.YtbjcckfhfbjchaaGreatCEw
namespace Go.Proofs.YtbjcckfhfbjchaaGreat
namespace Cd
open Go.RowKit Go.Deep

set_option maxRecDepth 10000 in
set_option maxHeartbeats 2000000 in
theorem one_yy (a : Option Addr) (n c : Nat) (l : List Nat) (w : World) (h : Rd w a n l) (h0 : a = none → c = 0) (he : opE l = 0) (hp : planE l = 0) :
    Calls Tryz.prog 5 #[.slice a n c] w fun en w' => en = .returned (.bool true) ∧ Below w.heap.size w w' := by
  have hl := h.2.2.1
  obtain ⟨hok, hob⟩ := whole_opB hl he
  have HOK := hide hok
  have HOB := hide hob
  clear hok hob
  obtain ⟨hpk, hpm, hpb⟩ := whole_plB hl hp
  have HPK := hide hpk
  have HPM := hide hpm
  have HPB := hide hpb
  clear hpk hpm hpb
  have HR := hide h
  have H0 := hide h0
  have HL := hide hl
  have RO := hide (codecReadOp_any a n c l w h h0)
  have RP := hide (fun W (hr : Rd W a n l) => ReadPlan_any a n c l W hr h0)
  rw [if_pos he] at RO
  simp only [if_pos hp] at RP
  have HE := hide he
  have HP := hide hp
  clear h h0 hl he hp
  go_enter Tryz.func5, Tryz.ntmps5
  go_wp2_with fail
  refine RO.out.mono ?_
  rintro e w1 ⟨v1, rfl, -, hv1, hn1, hb1⟩
  have HB1 := hide hb1
  have HV1 := hide (hv1 HE.out)
  obtain ⟨ki, nm, dl, x1, x2, x3, ky, la, wo, tk, y1, y2, y3, ru, lu, ti, ev, hov⟩ := HV1.out
  subst ev
  clear hov
  clear hv1 hn1 hb1 RO
  have hba : Below w1.heap.size w1 (w1.alloc (.cells #[.int .i64 ki, .string nm, .int .i64 dl, .slice x1 x2 x3, .string ky, .int .i64 la, .int .i64 wo, .int .i64 tk, .slice y1 y2 y3, .int .i64 ru, .int .u64 lu, .int .i64 ti] 32)) := (Below.refl _ _).alloc (Nat.le_refl _) _
  have HXO := hide (heap_alloc_new w1 (.cells #[.int .i64 ki, .string nm, .int .i64 dl, .slice x1 x2 x3, .string ky, .int .i64 la, .int .i64 wo, .int .i64 tk, .slice y1 y2 y3, .int .i64 ru, .int .u64 lu, .int .i64 ti] 32))
  have HB2 := hide (HB1.out.trans (hba.mono HB1.out.size))
  have HV2 := hide (HV1.out.bel hba)
  clear hba HB1 HV1
  go_wp2_with fail
  generalize w1.alloc (.cells #[.int .i64 ki, .string nm, .int .i64 dl, .slice x1 x2 x3, .string ky, .int .i64 la, .int .i64 wo, .int .i64 tk, .slice y1 y2 y3, .int .i64 ru, .int .u64 lu, .int .i64 ti] 32) = w2 at *
  generalize w1.heap.size = ob at *
  refine (RP.out w2 (HR.out.keep HB2.out)).mono ?_
  rintro e w3 ⟨v3, rfl, -, hv3, hn3, hb3⟩
  have HW3 : Hid (PlV (planVal (newR l)) w3 v3) := hide (hv3 HP.out)
  obtain ⟨q1, q2, q3, ev, hov⟩ := HW3.out
  obtain ⟨pm, hpm⟩ : ∃ x, str (planVal (newR l)).1.1 = x := ⟨_, rfl⟩
  obtain ⟨pd, hpd⟩ : ∃ x, (planVal (newR l)).1.2 = x := ⟨_, rfl⟩
  rw [hpm, hpd] at ev
  subst ev
  clear hov hpm hpd
  have hba : Below w3.heap.size w3 (w3.alloc (.cells #[.string pm, .int .i64 pd, .slice q1 q2 q3] 30)) := (Below.refl _ _).alloc (Nat.le_refl _) _
  have HXP := hide (heap_alloc_new w3 (.cells #[.string pm, .int .i64 pd, .slice q1 q2 q3] 30))
  have hb34 := hb3.trans (hba.mono hb3.size)
  have HB4 := hide (HB2.out.trans (hb34.mono HB2.out.size))
  have HXO4 := hide (blkB HXO.out hb34)
  have HV4 := hide (HV2.out.bel hb34)
  have HW4 := hide (HW3.out.bel hba)
  clear hv3 hn3 hb3 hba hb34 HXO HB2 RP HV2 HW3
  go_upto_region 3 with fail
  generalize w3.alloc (.cells #[.string pm, .int .i64 pd, .slice q1 q2 q3] 30) = w4 at *
  generalize w3.heap.size = pb at *
  have OB := hide (opBytes_good HV4.out HOK.out)
  have HI : Hid ((Tryz.prog.info? 32).map (·.size) = some (#[.int .i64 ki, .string nm, .int .i64 dl, .slice x1 x2 x3, .string ky, .int .i64 la, .int .i64 wo, .int .i64 tk, .slice y1 y2 y3, .int .i64 ru, .int .u64 lu, .int .i64 ti] : Array Value).size) := sizeOp
  rw [HOB.out] at OB
  go_upto_region 5 with (first
    | (refine wpList_load_row rfl 32 _ rfl ob rfl 32 #[.int .i64 ki, .string nm, .int .i64 dl, .slice x1 x2 x3, .string ky, .int .i64 la, .int .i64 wo, .int .i64 tk, .slice y1 y2 y3, .int .i64 ru, .int .u64 lu, .int .i64 ti] (0, 0) _ HXO4.out Tryz.underlying32 rfl HI.out ?_)
    | (go_at_call 11; refine OB.out.mono ?_; rintro e w5 ⟨x5, rfl, ho5, hb5, hf5⟩))
  obtain ⟨a5, c5, rfl, hr5, -, -, -⟩ := ownsRow_rd ho5 hf5 (by have := HR.out.2.1; have := HR.out.1; omega)
  have HB5 := hide (HB4.out.trans (hb5.mono HB4.out.size))
  have HXO5 := hide (blkB HXO4.out hb5)
  have HXP5 := hide (blkB HXP.out hb5)
  have HV5 := hide (HV4.out.bel hb5)
  have HW5 := hide (HW4.out.bel hb5)
  have CK := hide (check_good HV5.out HOK.out)
  have k1 := conv_rd hr5 c5
  have k2 := conv_rd (HR.out.keep HB5.out) c
  clear ho5 hf5 hb5 hr5 HB4 HXO4 HXP HV4 OB HW4
  have d0 := cell_blk HXO5.out 0 (v := .int .i64 ki) rfl
  have d1 := cell_blk HXO5.out 1 (v := .string nm) rfl
  have d2 := cell_blk HXO5.out 2 (v := .int .i64 dl) rfl
  have d3 := cell_blk HXO5.out 3 (v := .slice x1 x2 x3) rfl
  have d4 := cell_blk HXO5.out 4 (v := .string ky) rfl
  have d5 := cell_blk HXO5.out 5 (v := .int .i64 la) rfl
  have d6 := cell_blk HXO5.out 6 (v := .int .i64 wo) rfl
  have d7 := cell_blk HXO5.out 7 (v := .int .i64 tk) rfl
  have d8 := cell_blk HXO5.out 8 (v := .slice y1 y2 y3) rfl
  have d9 := cell_blk HXO5.out 9 (v := .int .i64 ru) rfl
  have d10 := cell_blk HXO5.out 10 (v := .int .u64 lu) rfl
  have d11 := cell_blk HXO5.out 11 (v := .int .i64 ti) rfl
  go_upto_region 9 with (go_at_call 13; refine CK.out.mono ?_; rintro e w6 ⟨rfl, hb6⟩)
  clear d0 d1 d2 d3 d4 d5 d6 d7 d8 d9 d10 d11
  have HB6 := hide (HB5.out.trans (hb6.mono HB5.out.size))
  have HXP6 := hide (blkB HXP5.out hb6)
  have HW6 := hide (HW5.out.bel hb6)
  clear hb6 k1 k2 CK HB5 HXO5 HXP5 HV5 HW5
  have PB := hide (planBytes_good HW6.out HPK.out HPM.out)
  rw [HPB.out] at PB
  have d0 := cell_blk HXP6.out 0 (v := .string pm) rfl
  have d1 := cell_blk HXP6.out 1 (v := .int .i64 pd) rfl
  have d2 := cell_blk HXP6.out 2 (v := .slice q1 q2 q3) rfl
  go_upto_region 11 with (go_at_call 12; refine PB.out.mono ?_; rintro e w7 ⟨x7, rfl, ho7, hb7, hf7⟩)
  clear d0 d1 d2
  obtain ⟨a7, c7, rfl, hr7, -, -, -⟩ := ownsRow_rd ho7 hf7 (by have := HR.out.2.1; have := HR.out.1; omega)
  have HB7 := hide (HB6.out.trans (hb7.mono HB6.out.size))
  have k1 := conv_rd hr7 c7
  have k2 := conv_rd (HR.out.keep HB7.out) c
  clear ho7 hf7 hb7 hr7 HB6 HXP6 HW6 PB
  go_upto_region 15 with fail
  clear k1 k2
  go_wp2_with fail
  refine (known12_any _).mono ?_
  rintro e w8 ⟨rfl, hb8⟩
  have HB8 := hide (HB7.out.trans (hb8.mono HB7.out.size))
  clear hb8
  go_wp2_with fail
  go_ret
  exact ⟨rfl, HB8.out⟩
set_option maxRecDepth 10000 in
set_option maxHeartbeats 2000000 in
theorem one_yn (a : Option Addr) (n c : Nat) (l : List Nat) (w : World) (h : Rd w a n l) (h0 : a = none → c = 0) (he : opE l = 0) (hp : planE l ≠ 0) :
    Calls Tryz.prog 5 #[.slice a n c] w fun en w' => en = .returned (.bool true) ∧ Below w.heap.size w w' := by
  have hl := h.2.2.1
  obtain ⟨hok, hob⟩ := whole_opB hl he
  have HOK := hide hok
  have HOB := hide hob
  clear hok hob
  have HR := hide h
  have H0 := hide h0
  have HL := hide hl
  have RO := hide (codecReadOp_any a n c l w h h0)
  have RP := hide (fun W (hr : Rd W a n l) => ReadPlan_any a n c l W hr h0)
  rw [if_pos he] at RO
  simp only [if_neg hp] at RP
  have HE := hide he
  have HP := hide hp
  clear h h0 hl he hp
  go_enter Tryz.func5, Tryz.ntmps5
  go_wp2_with fail
  refine RO.out.mono ?_
  rintro e w1 ⟨v1, rfl, -, hv1, hn1, hb1⟩
  have HB1 := hide hb1
  have HV1 := hide (hv1 HE.out)
  obtain ⟨ki, nm, dl, x1, x2, x3, ky, la, wo, tk, y1, y2, y3, ru, lu, ti, ev, hov⟩ := HV1.out
  subst ev
  clear hov
  clear hv1 hn1 hb1 RO
  have hba : Below w1.heap.size w1 (w1.alloc (.cells #[.int .i64 ki, .string nm, .int .i64 dl, .slice x1 x2 x3, .string ky, .int .i64 la, .int .i64 wo, .int .i64 tk, .slice y1 y2 y3, .int .i64 ru, .int .u64 lu, .int .i64 ti] 32)) := (Below.refl _ _).alloc (Nat.le_refl _) _
  have HXO := hide (heap_alloc_new w1 (.cells #[.int .i64 ki, .string nm, .int .i64 dl, .slice x1 x2 x3, .string ky, .int .i64 la, .int .i64 wo, .int .i64 tk, .slice y1 y2 y3, .int .i64 ru, .int .u64 lu, .int .i64 ti] 32))
  have HB2 := hide (HB1.out.trans (hba.mono HB1.out.size))
  have HV2 := hide (HV1.out.bel hba)
  clear hba HB1 HV1
  go_wp2_with fail
  generalize w1.alloc (.cells #[.int .i64 ki, .string nm, .int .i64 dl, .slice x1 x2 x3, .string ky, .int .i64 la, .int .i64 wo, .int .i64 tk, .slice y1 y2 y3, .int .i64 ru, .int .u64 lu, .int .i64 ti] 32) = w2 at *
  generalize w1.heap.size = ob at *
  refine (RP.out w2 (HR.out.keep HB2.out)).mono ?_
  rintro e w3 ⟨v3, rfl, -, hv3, hn3, hb3⟩
  obtain rfl := hn3 HP.out
  have hba : Below w3.heap.size w3 (w3.alloc (.cells #[.string ⟨#[]⟩, .int .i64 0, .slice none 0 0] 30)) := (Below.refl _ _).alloc (Nat.le_refl _) _
  have HXP := hide (heap_alloc_new w3 (.cells #[.string ⟨#[]⟩, .int .i64 0, .slice none 0 0] 30))
  have hb34 := hb3.trans (hba.mono hb3.size)
  have HB4 := hide (HB2.out.trans (hb34.mono HB2.out.size))
  have HXO4 := hide (blkB HXO.out hb34)
  have HV4 := hide (HV2.out.bel hb34)
  clear hv3 hn3 hb3 hba hb34 HXO HB2 RP HV2
  go_upto_region 3 with fail
  generalize w3.alloc (.cells #[.string ⟨#[]⟩, .int .i64 0, .slice none 0 0] 30) = w4 at *
  generalize w3.heap.size = pb at *
  have OB := hide (opBytes_good HV4.out HOK.out)
  have HI : Hid ((Tryz.prog.info? 32).map (·.size) = some (#[.int .i64 ki, .string nm, .int .i64 dl, .slice x1 x2 x3, .string ky, .int .i64 la, .int .i64 wo, .int .i64 tk, .slice y1 y2 y3, .int .i64 ru, .int .u64 lu, .int .i64 ti] : Array Value).size) := sizeOp
  rw [HOB.out] at OB
  go_upto_region 5 with (first
    | (refine wpList_load_row rfl 32 _ rfl ob rfl 32 #[.int .i64 ki, .string nm, .int .i64 dl, .slice x1 x2 x3, .string ky, .int .i64 la, .int .i64 wo, .int .i64 tk, .slice y1 y2 y3, .int .i64 ru, .int .u64 lu, .int .i64 ti] (0, 0) _ HXO4.out Tryz.underlying32 rfl HI.out ?_)
    | (go_at_call 11; refine OB.out.mono ?_; rintro e w5 ⟨x5, rfl, ho5, hb5, hf5⟩))
  obtain ⟨a5, c5, rfl, hr5, -, -, -⟩ := ownsRow_rd ho5 hf5 (by have := HR.out.2.1; have := HR.out.1; omega)
  have HB5 := hide (HB4.out.trans (hb5.mono HB4.out.size))
  have HXO5 := hide (blkB HXO4.out hb5)
  have HXP5 := hide (blkB HXP.out hb5)
  have HV5 := hide (HV4.out.bel hb5)
  have CK := hide (check_good HV5.out HOK.out)
  have k1 := conv_rd hr5 c5
  have k2 := conv_rd (HR.out.keep HB5.out) c
  clear ho5 hf5 hb5 hr5 HB4 HXO4 HXP HV4 OB
  have d0 := cell_blk HXO5.out 0 (v := .int .i64 ki) rfl
  have d1 := cell_blk HXO5.out 1 (v := .string nm) rfl
  have d2 := cell_blk HXO5.out 2 (v := .int .i64 dl) rfl
  have d3 := cell_blk HXO5.out 3 (v := .slice x1 x2 x3) rfl
  have d4 := cell_blk HXO5.out 4 (v := .string ky) rfl
  have d5 := cell_blk HXO5.out 5 (v := .int .i64 la) rfl
  have d6 := cell_blk HXO5.out 6 (v := .int .i64 wo) rfl
  have d7 := cell_blk HXO5.out 7 (v := .int .i64 tk) rfl
  have d8 := cell_blk HXO5.out 8 (v := .slice y1 y2 y3) rfl
  have d9 := cell_blk HXO5.out 9 (v := .int .i64 ru) rfl
  have d10 := cell_blk HXO5.out 10 (v := .int .u64 lu) rfl
  have d11 := cell_blk HXO5.out 11 (v := .int .i64 ti) rfl
  go_upto_region 9 with (go_at_call 13; refine CK.out.mono ?_; rintro e w6 ⟨rfl, hb6⟩)
  clear d0 d1 d2 d3 d4 d5 d6 d7 d8 d9 d10 d11
  have HB6 := hide (HB5.out.trans (hb6.mono HB5.out.size))
  have HXP6 := hide (blkB HXP5.out hb6)
  clear hb6 k1 k2 CK HB5 HXO5 HXP5 HV5
  go_upto_region 15 with fail
  go_wp2_with fail
  refine (known12_any _).mono ?_
  rintro e w8 ⟨rfl, hb8⟩
  have HB8 := hide (HB6.out.trans (hb8.mono HB6.out.size))
  clear hb8
  go_wp2_with fail
  go_ret
  exact ⟨rfl, HB8.out⟩
set_option maxRecDepth 10000 in
set_option maxHeartbeats 2000000 in
theorem one_ny (a : Option Addr) (n c : Nat) (l : List Nat) (w : World) (h : Rd w a n l) (h0 : a = none → c = 0) (he : opE l ≠ 0) (hp : planE l = 0) :
    Calls Tryz.prog 5 #[.slice a n c] w fun en w' => en = .returned (.bool true) ∧ Below w.heap.size w w' := by
  have hl := h.2.2.1
  obtain ⟨hpk, hpm, hpb⟩ := whole_plB hl hp
  have HPK := hide hpk
  have HPM := hide hpm
  have HPB := hide hpb
  clear hpk hpm hpb
  have HR := hide h
  have H0 := hide h0
  have HL := hide hl
  have RO := hide (codecReadOp_any a n c l w h h0)
  have RP := hide (fun W (hr : Rd W a n l) => ReadPlan_any a n c l W hr h0)
  rw [if_neg he] at RO
  simp only [if_pos hp] at RP
  have HE := hide he
  have HP := hide hp
  clear h h0 hl he hp
  go_enter Tryz.func5, Tryz.ntmps5
  go_wp2_with fail
  refine RO.out.mono ?_
  rintro e w1 ⟨v1, rfl, -, hv1, hn1, hb1⟩
  have HB1 := hide hb1
  obtain rfl := hn1 HE.out
  clear hv1 hn1 hb1 RO
  have hba : Below w1.heap.size w1 (w1.alloc (.cells #[.int .i64 0, .string ⟨#[]⟩, .int .i64 0, .slice none 0 0, .string ⟨#[]⟩, .int .i64 0, .int .i64 0, .int .i64 0, .slice none 0 0, .int .i64 0, .int .u64 0, .int .i64 0] 32)) := (Below.refl _ _).alloc (Nat.le_refl _) _
  have HXO := hide (heap_alloc_new w1 (.cells #[.int .i64 0, .string ⟨#[]⟩, .int .i64 0, .slice none 0 0, .string ⟨#[]⟩, .int .i64 0, .int .i64 0, .int .i64 0, .slice none 0 0, .int .i64 0, .int .u64 0, .int .i64 0] 32))
  have HB2 := hide (HB1.out.trans (hba.mono HB1.out.size))
  clear hba HB1
  go_wp2_with fail
  generalize w1.alloc (.cells #[.int .i64 0, .string ⟨#[]⟩, .int .i64 0, .slice none 0 0, .string ⟨#[]⟩, .int .i64 0, .int .i64 0, .int .i64 0, .slice none 0 0, .int .i64 0, .int .u64 0, .int .i64 0] 32) = w2 at *
  generalize w1.heap.size = ob at *
  refine (RP.out w2 (HR.out.keep HB2.out)).mono ?_
  rintro e w3 ⟨v3, rfl, -, hv3, hn3, hb3⟩
  have HW3 : Hid (PlV (planVal (newR l)) w3 v3) := hide (hv3 HP.out)
  obtain ⟨q1, q2, q3, ev, hov⟩ := HW3.out
  obtain ⟨pm, hpm⟩ : ∃ x, str (planVal (newR l)).1.1 = x := ⟨_, rfl⟩
  obtain ⟨pd, hpd⟩ : ∃ x, (planVal (newR l)).1.2 = x := ⟨_, rfl⟩
  rw [hpm, hpd] at ev
  subst ev
  clear hov hpm hpd
  have hba : Below w3.heap.size w3 (w3.alloc (.cells #[.string pm, .int .i64 pd, .slice q1 q2 q3] 30)) := (Below.refl _ _).alloc (Nat.le_refl _) _
  have HXP := hide (heap_alloc_new w3 (.cells #[.string pm, .int .i64 pd, .slice q1 q2 q3] 30))
  have hb34 := hb3.trans (hba.mono hb3.size)
  have HB4 := hide (HB2.out.trans (hb34.mono HB2.out.size))
  have HXO4 := hide (blkB HXO.out hb34)
  have HW4 := hide (HW3.out.bel hba)
  clear hv3 hn3 hb3 hba hb34 HXO HB2 RP HW3
  go_upto_region 3 with fail
  generalize w3.alloc (.cells #[.string pm, .int .i64 pd, .slice q1 q2 q3] 30) = w4 at *
  generalize w3.heap.size = pb at *
  have HB6 := hide HB4.out
  have HXP6 := hide HXP.out
  have HW6 := hide HW4.out
  clear HB4 HXP HXO4 HW4
  obtain ⟨w6, hw6⟩ : ∃ x, x = w4 := ⟨_, rfl⟩
  rw [← hw6] at HB6 HXP6 HW6
  rw [← hw6]
  clear hw6
  go_upto_region 9 with fail
  have PB := hide (planBytes_good HW6.out HPK.out HPM.out)
  rw [HPB.out] at PB
  have d0 := cell_blk HXP6.out 0 (v := .string pm) rfl
  have d1 := cell_blk HXP6.out 1 (v := .int .i64 pd) rfl
  have d2 := cell_blk HXP6.out 2 (v := .slice q1 q2 q3) rfl
  go_upto_region 11 with (go_at_call 12; refine PB.out.mono ?_; rintro e w7 ⟨x7, rfl, ho7, hb7, hf7⟩)
  clear d0 d1 d2
  obtain ⟨a7, c7, rfl, hr7, -, -, -⟩ := ownsRow_rd ho7 hf7 (by have := HR.out.2.1; have := HR.out.1; omega)
  have HB7 := hide (HB6.out.trans (hb7.mono HB6.out.size))
  have k1 := conv_rd hr7 c7
  have k2 := conv_rd (HR.out.keep HB7.out) c
  clear ho7 hf7 hb7 hr7 HB6 HXP6 HW6 PB
  go_upto_region 15 with fail
  clear k1 k2
  go_wp2_with fail
  refine (known12_any _).mono ?_
  rintro e w8 ⟨rfl, hb8⟩
  have HB8 := hide (HB7.out.trans (hb8.mono HB7.out.size))
  clear hb8
  go_wp2_with fail
  go_ret
  exact ⟨rfl, HB8.out⟩
set_option maxRecDepth 10000 in
set_option maxHeartbeats 2000000 in
theorem one_nn (a : Option Addr) (n c : Nat) (l : List Nat) (w : World) (h : Rd w a n l) (h0 : a = none → c = 0) (he : opE l ≠ 0) (hp : planE l ≠ 0) :
    Calls Tryz.prog 5 #[.slice a n c] w fun en w' => en = .returned (.bool true) ∧ Below w.heap.size w w' := by
  have hl := h.2.2.1
  have HR := hide h
  have H0 := hide h0
  have HL := hide hl
  have RO := hide (codecReadOp_any a n c l w h h0)
  have RP := hide (fun W (hr : Rd W a n l) => ReadPlan_any a n c l W hr h0)
  rw [if_neg he] at RO
  simp only [if_neg hp] at RP
  have HE := hide he
  have HP := hide hp
  clear h h0 hl he hp
  go_enter Tryz.func5, Tryz.ntmps5
  go_wp2_with fail
  refine RO.out.mono ?_
  rintro e w1 ⟨v1, rfl, -, hv1, hn1, hb1⟩
  have HB1 := hide hb1
  obtain rfl := hn1 HE.out
  clear hv1 hn1 hb1 RO
  have hba : Below w1.heap.size w1 (w1.alloc (.cells #[.int .i64 0, .string ⟨#[]⟩, .int .i64 0, .slice none 0 0, .string ⟨#[]⟩, .int .i64 0, .int .i64 0, .int .i64 0, .slice none 0 0, .int .i64 0, .int .u64 0, .int .i64 0] 32)) := (Below.refl _ _).alloc (Nat.le_refl _) _
  have HXO := hide (heap_alloc_new w1 (.cells #[.int .i64 0, .string ⟨#[]⟩, .int .i64 0, .slice none 0 0, .string ⟨#[]⟩, .int .i64 0, .int .i64 0, .int .i64 0, .slice none 0 0, .int .i64 0, .int .u64 0, .int .i64 0] 32))
  have HB2 := hide (HB1.out.trans (hba.mono HB1.out.size))
  clear hba HB1
  go_wp2_with fail
  generalize w1.alloc (.cells #[.int .i64 0, .string ⟨#[]⟩, .int .i64 0, .slice none 0 0, .string ⟨#[]⟩, .int .i64 0, .int .i64 0, .int .i64 0, .slice none 0 0, .int .i64 0, .int .u64 0, .int .i64 0] 32) = w2 at *
  generalize w1.heap.size = ob at *
  refine (RP.out w2 (HR.out.keep HB2.out)).mono ?_
  rintro e w3 ⟨v3, rfl, -, hv3, hn3, hb3⟩
  obtain rfl := hn3 HP.out
  have hba : Below w3.heap.size w3 (w3.alloc (.cells #[.string ⟨#[]⟩, .int .i64 0, .slice none 0 0] 30)) := (Below.refl _ _).alloc (Nat.le_refl _) _
  have HXP := hide (heap_alloc_new w3 (.cells #[.string ⟨#[]⟩, .int .i64 0, .slice none 0 0] 30))
  have hb34 := hb3.trans (hba.mono hb3.size)
  have HB4 := hide (HB2.out.trans (hb34.mono HB2.out.size))
  have HXO4 := hide (blkB HXO.out hb34)
  clear hv3 hn3 hb3 hba hb34 HXO HB2 RP
  go_upto_region 3 with fail
  generalize w3.alloc (.cells #[.string ⟨#[]⟩, .int .i64 0, .slice none 0 0] 30) = w4 at *
  generalize w3.heap.size = pb at *
  have HB6 := hide HB4.out
  have HXP6 := hide HXP.out
  clear HB4 HXP HXO4
  obtain ⟨w6, hw6⟩ : ∃ x, x = w4 := ⟨_, rfl⟩
  rw [← hw6] at HB6 HXP6
  rw [← hw6]
  clear hw6
  go_upto_region 9 with fail
  go_upto_region 15 with fail
  go_wp2_with fail
  refine (known12_any _).mono ?_
  rintro e w8 ⟨rfl, hb8⟩
  have HB8 := hide (HB6.out.trans (hb8.mono HB6.out.size))
  clear hb8
  go_wp2_with fail
  go_ret
  exact ⟨rfl, HB8.out⟩
theorem one_walk (a : Option Addr) (n c : Nat) (l : List Nat) (w : World) (h : Rd w a n l) (h0 : a = none → c = 0) :
    Calls Tryz.prog 5 #[.slice a n c] w fun en w' => en = .returned (.bool true) ∧ Below w.heap.size w w' := by
  by_cases he : opE l = 0
  · by_cases hp : planE l = 0
    · exact one_yy a n c l w h h0 he hp
    · exact one_yn a n c l w h h0 he hp
  · by_cases hp : planE l = 0
    · exact one_ny a n c l w h h0 he hp
    · exact one_nn a n c l w h h0 he hp
end Cd
end Go.Proofs.YtbjcckfhfbjchaaGreat
