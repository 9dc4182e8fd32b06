/- Package source: a line of needs or after: the walk. -/
import Derived.Test.YtfoahfgehmghcaaGreatDoorUMen
namespace Go.Proofs.YtfoahfgehmghcaaGreatDoor
namespace U
open Go.RowKit

theorem LineAt.parts {w : World} {L pl : Nat} {s : Ln} (h : LineAt w L pl s) : ∃ a c, w.heap[L]? = some (.cells #[.int .i64 (pl : Int), .slice a s.1.length c, .bool s.2] 128 (0, 0)) ∧ s.1.length ≤ c ∧ RdS w a s.1 := by
  obtain ⟨a, c, hb, h1, _, h3, _⟩ := h
  exact ⟨a, c, hb, h1, h3⟩

set_option maxRecDepth 100000 in
set_option maxHeartbeats 4000000 in
theorem addMen0_any (B D L pl : Nat) (d : Dr) (ws : List (List UInt8)) (w : World) (hD : DrAt B w D d) (hL : LineAt w L pl (ws, false)) (hnd : d.nds.length < 1000000) (hms : d.ms.length < 1000000) (hwl : ws.length ≤ 1000000) :
    Calls Tryz.prog 86 #[.pointer (some ⟨D, 0, none⟩), .pointer (some ⟨L, 0, none⟩), .int .i64 0] w (DoEnd B D L pl (addMen 0 d pl ws) w) := by
  have HR : Hid (addMen 0 d pl ws = if d.nds ≠ [] ∧ d.hn = false ∧ ws ≠ [] ∧ ws.all nmL = true then some { d with hn := true, ms := d.ms ++ [⟨pl, d.nds.length - 1, 0, ws⟩] } else none) := rfl
  generalize addMen 0 d pl ws = R at *
  obtain ⟨vn, vp, vm, X⟩ := hD
  obtain ⟨vna, vnc, rfl⟩ := own_shape X.2.2.1
  have X1 := hide X
  obtain ⟨a, c, hb, hc, hrd⟩ := hL.parts
  simp only at hb hc hrd
  have HC := hide (containsStr_any 105 (fun x => !nmL x) a ws c w hrd hwl enter_none (fun x W _ _ => isNone_any x W))
  rw [any_none] at HC
  have l0 := cell_blk hb 0 (v := .int .i64 (pl : Int)) rfl
  have l1 := cell_blk hb 1 (v := .slice a ws.length c) rfl
  have HB := hide hb
  have HRD := hide hrd
  have HCC := hide hc
  have d2 := cell_blk X.2.1 2 (v := .slice vna d.nds.length vnc) rfl
  have dk := cell_blk X.2.1 5 (v := .bool d.hn) rfl
  have dkf := frozen_blk X.2.1 5
  clear X hL hb hrd hc
  by_cases h0 : d.nds = []
  · obtain rfl : R = none := by rw [HR.out, if_neg (fun h => h.1 h0)]
    rw [h0] at d2
    simp only [List.length_nil] at d2
    go_enter Tryz.func86, Tryz.ntmps86
    go_wp2_with fail
    go_ret
    exact ⟨rfl, (fun d' h => by cases h), Fr.refl _ _, fun _ => l0⟩
  · obtain ⟨last, hla⟩ : ∃ last, d.nds.length = last + 1 := ⟨d.nds.length - 1, by have : d.nds.length ≠ 0 := fun e => h0 (List.eq_nil_of_length_eq_zero e); omega⟩
    have HLA := hide hla
    have hw : IntKind.i64.wrap ((d.nds.length : Int) - 1) = (last : Int) := by rw [IntKind.wrap_i64]; omega
    have hl0 : ¬ (last : Int) < 0 := by omega
    generalize hdl : d.nds.length = nl at *
    have HDL := hide hdl
    clear hla hdl
    cases hh : d.hn with
    | true =>
      obtain rfl : R = none := by rw [HR.out, if_neg (fun h => by rw [hh] at h; exact absurd h.2.1 (by simp))]
      rw [hh] at dk
      go_enter Tryz.func86, Tryz.ntmps86
      go_wp2_with fail
      go_ret
      exact ⟨rfl, (fun d' h => by cases h), Fr.refl _ _, fun _ => l0⟩
    | false =>
      rw [hh] at dk
      by_cases hw0 : ws = []
      · obtain rfl : R = none := by rw [HR.out, if_neg (fun h => h.2.2.1 hw0)]
        subst hw0
        simp only [List.length_nil] at l1
        go_enter Tryz.func86, Tryz.ntmps86
        go_wp2_with fail
        go_ret
        exact ⟨rfl, (fun d' h => by cases h), Fr.refl _ _, fun _ => l0⟩
      · have hwn : ((ws.length : Int) == 0) = false := by
          have : ws.length ≠ 0 := fun e => hw0 (List.eq_nil_of_length_eq_zero e)
          simp
          exact hw0
        cases ha : ws.all nmL with
        | false =>
          obtain rfl : R = none := by rw [HR.out, if_neg (fun h => by rw [ha] at h; exact absurd h.2.2.2 (by simp))]
          rw [ha] at HC
          clear ha HR hw0
          go_enter Tryz.func86, Tryz.ntmps86
          go_wp2_with (go_at_call 107; refine HC.out.mono ?_; rintro e w1 ⟨rfl, hb1⟩)
          go_ret
          exact ⟨rfl, (fun d' h => by cases h), Fr.ofBelow hb1, fun _ => (hb1.cell (p := ⟨L, 0, none⟩) (World.block_lt_of_cell? _ _ l0)).trans l0⟩
        | true =>
          have hr := HR.out
          rw [if_pos ⟨h0, hh, hw0, ha⟩] at hr
          subst hr
          rw [ha] at HC
          have HW0 := hide hw0
          clear ha HR hw0 h0
          go_enter Tryz.func86, Tryz.ntmps86
          go_wp2_with fail
          go_at_call 107
          refine HC.out.mono ?_
          rintro e w1 ⟨rfl, hb1⟩
          have X2 : Hid (DrX B w1 D d (.slice vna nl vnc) vp vm) := by
            obtain ⟨y0, y1, y2, y3, y4⟩ := X1.out
            exact ⟨y0, (hb1.block D (Array.getElem?_eq_some_iff.1 y1).1).trans y1, own_below y2 hb1, own_below y3 hb1, y4.keep (Keep.ofBelow (S := fun _ => False) hb1 (Nat.le_refl _)) (fun _ _ f => f) (fun _ f => f.elim)⟩
          have F1 := hide (Fr.ofBelow (B := B) hb1)
          have HB1 := hide ((hb1.block L (Array.getElem?_eq_some_iff.1 HB.out).1).trans HB.out)
          have HR1 := hide (HRD.out.below hb1)
          clear hb1 HC l0 l1 d2 dk dkf X1 HB HRD
          have dk := cell_blk X2.out.2.1 5 (v := .bool d.hn) rfl
          have dkf := frozen_blk X2.out.2.1 5
          go_upto_region 6 with fail
          have kk := keep_cell w1 D 5 (.bool true)
          have bD := X2.out.2.1
          have X3 : Hid (DrX B (w1.setCell ⟨D, 5, none⟩ (.bool true)) D { d with hn := true } (.slice vna nl vnc) vp vm) := by
            obtain ⟨y0, y1, y2, y3, y4⟩ := X2.out
            exact ⟨y0, (set_blk y1 5 _).trans rfl, own_put y2 y1 (by decide), own_put y3 y1 (by decide), y4.put y1 (by decide) (by decide)⟩
          have F3 := hide (F1.out.trans (Fr.ofKeep (B := B) kk fun i e => by subst e; exact ⟨X2.out.1, _, _, bD, .inl rfl⟩))
          have HLD : Hid (L ≠ D) := fun e => by
            have h := HB1.out
            rw [e, bD] at h
            injection h with h
            injection h with _ h
            exact absurd h (by decide)
          have HB3 := hide (kk.blk HB1.out HLD.out)
          have HR3 := hide (HR1.out.keep kk fun g e => by subst e; exact not_strB bD (by decide))
          clear kk bD dk dkf X2 F1 HB1 HR1
          generalize w1.setCell ⟨D, 5, none⟩ (.bool true) = w2 at *
          obtain ⟨v', w4, hap, b4, X4, F4, hln⟩ := X3.out.addMs hms ⟨pl, last, 0, ws⟩ a c HR3.out HCC.out 1 85
          obtain ⟨l4, _, ho4, _⟩ := X4.2.2.2.2
          obtain ⟨va, vc, rfl⟩ := own_shape ho4
          clear ho4
          have l0 := cell_blk HB3.out 0 (v := .int .i64 (pl : Int)) rfl
          have l1 := cell_blk HB3.out 1 (v := .slice a ws.length c) rfl
          have d7 := cell_blk X3.out.2.1 7 (v := vm) rfl
          have HT := hide (((Below.refl w2.heap.size w2).alloc (Nat.le_refl _) (.cells #[.int .i64 (pl : Int), .int .i64 (last : Int), .int .i64 0, .slice a ws.length c] 131)).drew)
          have d7' := (HT.out.cell (p := ⟨D, 7, none⟩) (World.block_lt_of_cell? _ _ d7)).trans d7
          have l0' := (HT.out.cell (p := ⟨L, 0, none⟩) (World.block_lt_of_cell? _ _ l0)).trans l0
          have l1' := (HT.out.cell (p := ⟨L, 1, none⟩) (World.block_lt_of_cell? _ _ l1)).trans l1
          have e7 := cell_blk b4 7 (v := vm) rfl
          have e7f := frozen_blk b4 7
          have HAP := hide hap
          have X4H := hide X4
          have F4H := hide (F3.out.trans F4)
          clear hap X4 F4 hln b4 X3 F3 HB3 HR3 HT
          go_cut [] from 9 (fun wx => wx = w4.setCell ⟨D, 7, none⟩ (.slice va l4.length vc))
          case first =>
            go_region_law (refine step_append_run (by rfl) _ _ 85 (by rfl) _ _ (by rfl) (by rfl) HAP.out ?_)
            all_goals go_wp2_with fail
            all_goals go_meet
            all_goals rfl
          case rest =>
          rw [← hcut] at X4H F4H
          clear hcut HAP
          go_wp2_with fail
          go_ret
          refine ⟨rfl, fun d' h => ?_, F4H.out, fun h => by cases h⟩
          injection h with h
          subst h
          have e : nl - 1 = last := by rw [HLA.out]; rfl
          rw [e]
          exact ⟨_, _, _, X4H.out⟩

set_option maxRecDepth 100000 in
set_option maxHeartbeats 4000000 in
theorem addMen1_any (B D L pl : Nat) (d : Dr) (ws : List (List UInt8)) (w : World) (hD : DrAt B w D d) (hL : LineAt w L pl (ws, false)) (hnd : d.nds.length < 1000000) (hms : d.ms.length < 1000000) (hwl : ws.length ≤ 1000000) :
    Calls Tryz.prog 86 #[.pointer (some ⟨D, 0, none⟩), .pointer (some ⟨L, 0, none⟩), .int .i64 1] w (DoEnd B D L pl (addMen 1 d pl ws) w) := by
  have HR : Hid (addMen 1 d pl ws = if d.nds ≠ [] ∧ d.ha = false ∧ ws ≠ [] ∧ ws.all nmL = true then some { d with ha := true, ms := d.ms ++ [⟨pl, d.nds.length - 1, 1, ws⟩] } else none) := rfl
  generalize addMen 1 d pl ws = R at *
  obtain ⟨vn, vp, vm, X⟩ := hD
  obtain ⟨vna, vnc, rfl⟩ := own_shape X.2.2.1
  have X1 := hide X
  obtain ⟨a, c, hb, hc, hrd⟩ := hL.parts
  simp only at hb hc hrd
  have HC := hide (containsStr_any 105 (fun x => !nmL x) a ws c w hrd hwl enter_none (fun x W _ _ => isNone_any x W))
  rw [any_none] at HC
  have l0 := cell_blk hb 0 (v := .int .i64 (pl : Int)) rfl
  have l1 := cell_blk hb 1 (v := .slice a ws.length c) rfl
  have HB := hide hb
  have HRD := hide hrd
  have HCC := hide hc
  have d2 := cell_blk X.2.1 2 (v := .slice vna d.nds.length vnc) rfl
  have dk := cell_blk X.2.1 6 (v := .bool d.ha) rfl
  have dkf := frozen_blk X.2.1 6
  clear X hL hb hrd hc
  by_cases h0 : d.nds = []
  · obtain rfl : R = none := by rw [HR.out, if_neg (fun h => h.1 h0)]
    rw [h0] at d2
    simp only [List.length_nil] at d2
    go_enter Tryz.func86, Tryz.ntmps86
    go_wp2_with fail
    go_ret
    exact ⟨rfl, (fun d' h => by cases h), Fr.refl _ _, fun _ => l0⟩
  · obtain ⟨last, hla⟩ : ∃ last, d.nds.length = last + 1 := ⟨d.nds.length - 1, by have : d.nds.length ≠ 0 := fun e => h0 (List.eq_nil_of_length_eq_zero e); omega⟩
    have HLA := hide hla
    have hw : IntKind.i64.wrap ((d.nds.length : Int) - 1) = (last : Int) := by rw [IntKind.wrap_i64]; omega
    have hl0 : ¬ (last : Int) < 0 := by omega
    generalize hdl : d.nds.length = nl at *
    have HDL := hide hdl
    clear hla hdl
    cases hh : d.ha with
    | true =>
      obtain rfl : R = none := by rw [HR.out, if_neg (fun h => by rw [hh] at h; exact absurd h.2.1 (by simp))]
      rw [hh] at dk
      go_enter Tryz.func86, Tryz.ntmps86
      go_wp2_with fail
      go_ret
      exact ⟨rfl, (fun d' h => by cases h), Fr.refl _ _, fun _ => l0⟩
    | false =>
      rw [hh] at dk
      by_cases hw0 : ws = []
      · obtain rfl : R = none := by rw [HR.out, if_neg (fun h => h.2.2.1 hw0)]
        subst hw0
        simp only [List.length_nil] at l1
        go_enter Tryz.func86, Tryz.ntmps86
        go_wp2_with fail
        go_ret
        exact ⟨rfl, (fun d' h => by cases h), Fr.refl _ _, fun _ => l0⟩
      · have hwn : ((ws.length : Int) == 0) = false := by
          have : ws.length ≠ 0 := fun e => hw0 (List.eq_nil_of_length_eq_zero e)
          simp
          exact hw0
        cases ha : ws.all nmL with
        | false =>
          obtain rfl : R = none := by rw [HR.out, if_neg (fun h => by rw [ha] at h; exact absurd h.2.2.2 (by simp))]
          rw [ha] at HC
          clear ha HR hw0
          go_enter Tryz.func86, Tryz.ntmps86
          go_wp2_with (go_at_call 107; refine HC.out.mono ?_; rintro e w1 ⟨rfl, hb1⟩)
          go_ret
          exact ⟨rfl, (fun d' h => by cases h), Fr.ofBelow hb1, fun _ => (hb1.cell (p := ⟨L, 0, none⟩) (World.block_lt_of_cell? _ _ l0)).trans l0⟩
        | true =>
          have hr := HR.out
          rw [if_pos ⟨h0, hh, hw0, ha⟩] at hr
          subst hr
          rw [ha] at HC
          have HW0 := hide hw0
          clear ha HR hw0 h0
          go_enter Tryz.func86, Tryz.ntmps86
          go_wp2_with fail
          go_at_call 107
          refine HC.out.mono ?_
          rintro e w1 ⟨rfl, hb1⟩
          have X2 : Hid (DrX B w1 D d (.slice vna nl vnc) vp vm) := by
            obtain ⟨y0, y1, y2, y3, y4⟩ := X1.out
            exact ⟨y0, (hb1.block D (Array.getElem?_eq_some_iff.1 y1).1).trans y1, own_below y2 hb1, own_below y3 hb1, y4.keep (Keep.ofBelow (S := fun _ => False) hb1 (Nat.le_refl _)) (fun _ _ f => f) (fun _ f => f.elim)⟩
          have F1 := hide (Fr.ofBelow (B := B) hb1)
          have HB1 := hide ((hb1.block L (Array.getElem?_eq_some_iff.1 HB.out).1).trans HB.out)
          have HR1 := hide (HRD.out.below hb1)
          clear hb1 HC l0 l1 d2 dk dkf X1 HB HRD
          have dk := cell_blk X2.out.2.1 6 (v := .bool d.ha) rfl
          have dkf := frozen_blk X2.out.2.1 6
          go_upto_region 6 with fail
          have kk := keep_cell w1 D 6 (.bool true)
          have bD := X2.out.2.1
          have X3 : Hid (DrX B (w1.setCell ⟨D, 6, none⟩ (.bool true)) D { d with ha := true } (.slice vna nl vnc) vp vm) := by
            obtain ⟨y0, y1, y2, y3, y4⟩ := X2.out
            exact ⟨y0, (set_blk y1 6 _).trans rfl, own_put y2 y1 (by decide), own_put y3 y1 (by decide), y4.put y1 (by decide) (by decide)⟩
          have F3 := hide (F1.out.trans (Fr.ofKeep (B := B) kk fun i e => by subst e; exact ⟨X2.out.1, _, _, bD, .inl rfl⟩))
          have HLD : Hid (L ≠ D) := fun e => by
            have h := HB1.out
            rw [e, bD] at h
            injection h with h
            injection h with _ h
            exact absurd h (by decide)
          have HB3 := hide (kk.blk HB1.out HLD.out)
          have HR3 := hide (HR1.out.keep kk fun g e => by subst e; exact not_strB bD (by decide))
          clear kk bD dk dkf X2 F1 HB1 HR1
          generalize w1.setCell ⟨D, 6, none⟩ (.bool true) = w2 at *
          obtain ⟨v', w4, hap, b4, X4, F4, hln⟩ := X3.out.addMs hms ⟨pl, last, 1, ws⟩ a c HR3.out HCC.out 1 85
          obtain ⟨l4, _, ho4, _⟩ := X4.2.2.2.2
          obtain ⟨va, vc, rfl⟩ := own_shape ho4
          clear ho4
          have l0 := cell_blk HB3.out 0 (v := .int .i64 (pl : Int)) rfl
          have l1 := cell_blk HB3.out 1 (v := .slice a ws.length c) rfl
          have d7 := cell_blk X3.out.2.1 7 (v := vm) rfl
          have HT := hide (((Below.refl w2.heap.size w2).alloc (Nat.le_refl _) (.cells #[.int .i64 (pl : Int), .int .i64 (last : Int), .int .i64 1, .slice a ws.length c] 131)).drew)
          have d7' := (HT.out.cell (p := ⟨D, 7, none⟩) (World.block_lt_of_cell? _ _ d7)).trans d7
          have l0' := (HT.out.cell (p := ⟨L, 0, none⟩) (World.block_lt_of_cell? _ _ l0)).trans l0
          have l1' := (HT.out.cell (p := ⟨L, 1, none⟩) (World.block_lt_of_cell? _ _ l1)).trans l1
          have e7 := cell_blk b4 7 (v := vm) rfl
          have e7f := frozen_blk b4 7
          have HAP := hide hap
          have X4H := hide X4
          have F4H := hide (F3.out.trans F4)
          clear hap X4 F4 hln b4 X3 F3 HB3 HR3 HT
          go_cut [] from 9 (fun wx => wx = w4.setCell ⟨D, 7, none⟩ (.slice va l4.length vc))
          case first =>
            go_region_law (refine step_append_run (by rfl) _ _ 85 (by rfl) _ _ (by rfl) (by rfl) HAP.out ?_)
            all_goals go_wp2_with fail
            all_goals go_meet
            all_goals rfl
          case rest =>
          rw [← hcut] at X4H F4H
          clear hcut HAP
          go_wp2_with fail
          go_ret
          refine ⟨rfl, fun d' h => ?_, F4H.out, fun h => by cases h⟩
          injection h with h
          subst h
          have e : nl - 1 = last := by rw [HLA.out]; rfl
          rw [e]
          exact ⟨_, _, _, X4H.out⟩
end U
end Go.Proofs.YtfoahfgehmghcaaGreatDoor
