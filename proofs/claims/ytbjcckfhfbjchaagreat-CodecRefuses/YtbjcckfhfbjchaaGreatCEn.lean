/- Codec: partsHold (written by cen_gen.py). -/
import Derived.Test.YtbjcckfhfbjchaaGreatCEm
import Derived.Deep.RegionHeld3
namespace Go.Proofs.YtbjcckfhfbjchaaGreat
namespace Cd
open Go.RowKit Go.Deep

/-- the parts put one behind the other, but for a plan -/
def hldW (d : Ov) : List Nat → K.WS → K.WS
  | [], s => s
  | j :: r, s => hldW d r (if j = 0 then s else putW (partW d j) s)
theorem hldW_app (d : Ov) : ∀ (a b : List Nat) (s : K.WS), hldW d (a ++ b) s = hldW d b (hldW d a s)
  | [], _, _ => rfl
  | _ :: r, b, _ => hldW_app d r b _
theorem hldW_succ (d : Ov) {ps : List Nat} {k j : Nat} (h : ps[k]? = some j) (s : K.WS) : hldW d (ps.take (k + 1)) s = if j = 0 then hldW d (ps.take k) s else putW (partW d j) (hldW d (ps.take k) s) := by
  rw [List.take_add_one, h, hldW_app]
  rfl
def hldB (d : Ov) (ps : List Nat) : Bool := (((hldW d ps ⟨[], room 8192, 0⟩).fault : Nat) : Int) == 0
set_option maxRecDepth 10000 in
set_option maxHeartbeats 4000000 in
theorem partsHold_any (ki : Int) (nm : ByteArray) (dl : Int) (x1 : Option Addr) (x2 x3 : Nat) (ky : ByteArray) (la : Int) (wo : Int) (tk : Int) (y1 : Option Addr) (y2 y3 : Nat) (ru : Int) (lu : Int) (ti : Int) (d : Ov) (xs : List Gr.No) (a : Option Addr) (ps : List Nat) (w : World) (hd : OpD w.heap.size w ki nm dl x1 x2 x3 ky la wo tk y1 y2 y3 ru lu ti d xs) (h : PsM w a ps) (hn : ps.length ≤ 2) (hp9 : ∀ j ∈ ps, j < 9) :
    Calls Tryz.prog 32 #[.agg #[.int .i64 ki, .string nm, .int .i64 dl, .slice x1 x2 x3, .string ky, .int .i64 la, .int .i64 wo, .int .i64 tk, .slice y1 y2 y3, .int .i64 ru, .int .u64 lu, .int .i64 ti], .slice a ps.length ps.length] w fun en w' => en = .returned (.bool (hldB d ps)) ∧ Below w.heap.size w w' := by
  have hbw : Below w.heap.size w (w.alloc (.cells #[.int .i64 ki, .string nm, .int .i64 dl, .slice x1 x2 x3, .string ky, .int .i64 la, .int .i64 wo, .int .i64 tk, .slice y1 y2 y3, .int .i64 ru, .int .u64 lu, .int .i64 ti] 32)) := (Below.refl _ _).alloc (Nat.le_refl _) _
  have HX := hide (heap_alloc_new w (.cells #[.int .i64 ki, .string nm, .int .i64 dl, .slice x1 x2 x3, .string ky, .int .i64 la, .int .i64 wo, .int .i64 tk, .slice y1 y2 y3, .int .i64 ru, .int .u64 lu, .int .i64 ti] 32))
  have HB := hide hbw
  have HP := hide (h.keep (Keep.alloc (fun _ => False) w (.cells #[.int .i64 ki, .string nm, .int .i64 dl, .slice x1 x2 x3, .string ky, .int .i64 la, .int .i64 wo, .int .i64 tk, .slice y1 y2 y3, .int .i64 ru, .int .u64 lu, .int .i64 ti] 32)) (fun _ f => f.elim))
  have HOD := hide (hd.keep (Keep.alloc (fun _ => False) w (.cells #[.int .i64 ki, .string nm, .int .i64 dl, .slice x1 x2 x3, .string ky, .int .i64 la, .int .i64 wo, .int .i64 tk, .slice y1 y2 y3, .int .i64 ru, .int .u64 lu, .int .i64 ti] 32)) (fun _ _ f => f))
  have HP9 := hide hp9
  obtain ⟨n, hnn⟩ : ∃ n, ps.length = n := ⟨_, rfl⟩
  have HNN := hide hnn
  have hn2 : n ≤ 2 := by omega
  have HH : Hid (hldB d ps = ((((hldW d ps ⟨[], room 8192, 0⟩).fault : Nat) : Int) == 0)) := rfl
  rw [hnn]
  clear hnn h hn hp9 hd hbw
  go_enter Tryz.func32, Tryz.ntmps32
  go_upto_region 1 with fail
  generalize w.alloc (.cells #[.int .i64 ki, .string nm, .int .i64 dl, .slice x1 x2 x3, .string ky, .int .i64 la, .int .i64 wo, .int .i64 tk, .slice y1 y2 y3, .int .i64 ru, .int .u64 lu, .int .i64 ti] 32) = w1 at *
  go_wp2_with fail
  refine (allWays_any _).mono ?_
  rintro e w2 ⟨rfl, hb2⟩
  have HX2 := hide (blkB HX.out hb2)
  have HB2 := hide (HB.out.trans (hb2.mono HB.out.size))
  have HP2 := hide (HP.out.keep (Keep.ofBelow (S := fun _ => False) hb2 (Nat.le_refl _)) (fun _ f => f.elim))
  have HOD2 := hide (HOD.out.keep (Keep.ofBelow (S := fun _ => False) hb2 (Nat.le_refl _)) (fun _ _ f => f))
  clear hb2 HX HB HP HOD
  go_wp2_with fail
  refine (NewWriter_any 8192 _).mono ?_
  rintro e w3 ⟨rfl, hw3⟩
  have HX3 := hide (hw3.keep.blk HX2.out (fun h => by have := blk_lt HX2.out; have : w2.heap.size ≤ _ := h; omega))
  have HW3 := hide hw3
  have HA := hide (heap_alloc_new w3 (.cells nilsC 96))
  have hO2 := hide onesWy
  clear hw3
  go_upto_region 2 with (refine wpList_store_row rfl 96 _ _ rfl w3.heap.size waysC rfl rfl 96 _ HA.out sizeWy rfl hO2.out ?_)
  have HY := hide (setRow_heap (w3.alloc (.cells nilsC 96)) w3.heap.size _ waysC _ _ HA.out)
  have hb4 : Below w3.heap.size w3 ((w3.alloc (.cells nilsC 96)).setRow w3.heap.size waysC) := ((Below.refl _ _).alloc (Nat.le_refl _) _).trans ((keep_row _ _ _).below (by simp) fun k e => by rw [e]; exact Nat.le_refl _)
  have HX4 := hide (blkB HX3.out hb4)
  have HW4 := hide (HW3.out.below hb4)
  clear hb4 HX3 HW3 HA hO2
  change Code.wp _ _ _ _ ((w3.alloc (.cells nilsC 96)).setRow w3.heap.size waysC)
  generalize (w3.alloc (.cells nilsC 96)).setRow w3.heap.size waysC = w4 at *
  generalize w3.heap.size = eb at *
  obtain ⟨p, hp⟩ : ∃ p, w2.heap.size = p := ⟨_, rfl⟩
  have HPP := hide hp
  generalize hs0 : (⟨[], room 8192, 0⟩ : K.WS) = s0 at *
  clear hs0
  rw [hp] at HW4 ⊢
  clear hp
  go_upto_region 3 with fail
  go_loopw [15] (fun i wx => ∃ k : Nat, k ≤ n ∧ i = .int .i64 (k : Nat) ∧ WAt (fun k => p ≤ k) w2 p (hldW d (ps.take k) s0) wx ∧ wx.heap[w.heap.size]? = some (.cells #[.int .i64 ki, .string nm, .int .i64 dl, .slice x1 x2 x3, .string ky, .int .i64 la, .int .i64 wo, .int .i64 tk, .slice y1 y2 y3, .int .i64 ru, .int .u64 lu, .int .i64 ti] 32 (0, 0)) ∧ wx.heap[eb]? = some (.cells waysC 96 (0, 0))) (fun i _ => n - (intOf i).toNat)
  case atStart => exact ⟨0, Nat.zero_le _, rfl, HW4.out, HX4.out, HY.out⟩
  case round =>
    obtain ⟨k, hk, rfl, hw, hbx, hby⟩ := hrel
    have HW := hide hw
    have HBX := hide hbx
    have HBY := hide hby
    clear hw hbx hby HW4 HX4 HY
    by_cases hlt : k < n
    · obtain ⟨j, hj⟩ : ∃ j, ps[k]? = some j := ⟨_, List.getElem?_eq_getElem (by have := HNN.out; omega)⟩
      have hj9 : j < 9 := HP9.out j (List.mem_of_getElem? hj)
      have hpm : PsM wr a ps := HP2.out.keep HW.out.keep fun k h cs e => by
        have := blk_lt e
        have h : p ≤ k := h
        have := HPP.out
        omega
      obtain ⟨bp, rfl, hbp⟩ := hpm (by intro e; rw [e] at hj; simp at hj)
      have ec := cell_blk hbp k (v := .int .i64 (j : Nat)) (by simp [hj])
      have HSC := hide (hldW_succ d hj s0)
      clear hbp hpm
      by_cases hj0 : j = 0
      · subst hj0
        clear hj
        go_wp2
        refine ⟨⟨k + 1, by omega, by go_num, ?_, HBX.out, HBY.out⟩, by simp [intOf]; omega⟩
        rw [HSC.out, if_pos rfl]
        exact HW.out
      · have hjb : ((((j : Nat) : Int) != 0)) = true := by simp [hj0]
        have ew := cell_blk HBY.out (j * 2) (Nat.mul_comm 2 j ▸ waysPut j hj9)
        have HWP := hide (Nat.mul_comm 2 j ▸ waysPut j hj9 : waysC[j * 2]? = _)
        have hent := ent_ptF j hj9
        have HPT := hide (putP2_any ki nm dl x1 x2 x3 ky la wo tk y1 y2 y3 ru lu ti d xs (fun k => p ≤ k) w2 wr.drew p w.heap.size _ HW.out.drew (HB2.out.size) (fun k hk h => by have := HPP.out; have := HB2.out.size; have h : p ≤ k := h; omega) HOD2.out j hj9 fun e => absurd e hj0)
        have d0 := cell_blk HBX.out 0 (v := .int .i64 ki) rfl
        have d1 := cell_blk HBX.out 1 (v := .string nm) rfl
        have d2 := cell_blk HBX.out 2 (v := .int .i64 dl) rfl
        have d3 := cell_blk HBX.out 3 (v := .slice x1 x2 x3) rfl
        have d4 := cell_blk HBX.out 4 (v := .string ky) rfl
        have d5 := cell_blk HBX.out 5 (v := .int .i64 la) rfl
        have d6 := cell_blk HBX.out 6 (v := .int .i64 wo) rfl
        have d7 := cell_blk HBX.out 7 (v := .int .i64 tk) rfl
        have d8 := cell_blk HBX.out 8 (v := .slice y1 y2 y3) rfl
        have d9 := cell_blk HBX.out 9 (v := .int .i64 ru) rfl
        have d10 := cell_blk HBX.out 10 (v := .int .u64 lu) rfl
        have d11 := cell_blk HBX.out 11 (v := .int .i64 ti) rfl
        have i0 : (0 : Int) ≤ ((j : Nat) : Int) := by omega
        have i1 : ((j : Nat) : Int) < 9 := by omega
        rw [if_neg hj0] at HSC
        clear hj hj0
        generalize ptF j = fp at *
        go_upto_region 6 with fail
        go_region_held3 (fun wx => wx.cell? ⟨eb, j * 2, none⟩ = some (.func (.func fp) #[] #[]) ∧ wx.cell? ⟨w.heap.size, 0, none⟩ = some (.int .i64 ki) ∧ wx.cell? ⟨w.heap.size, 1, none⟩ = some (.string nm) ∧ wx.cell? ⟨w.heap.size, 2, none⟩ = some (.int .i64 dl) ∧ wx.cell? ⟨w.heap.size, 3, none⟩ = some (.slice x1 x2 x3) ∧ wx.cell? ⟨w.heap.size, 4, none⟩ = some (.string ky) ∧ wx.cell? ⟨w.heap.size, 5, none⟩ = some (.int .i64 la) ∧ wx.cell? ⟨w.heap.size, 6, none⟩ = some (.int .i64 wo) ∧ wx.cell? ⟨w.heap.size, 7, none⟩ = some (.int .i64 tk) ∧ wx.cell? ⟨w.heap.size, 8, none⟩ = some (.slice y1 y2 y3) ∧ wx.cell? ⟨w.heap.size, 9, none⟩ = some (.int .i64 ru) ∧ wx.cell? ⟨w.heap.size, 10, none⟩ = some (.int .u64 lu) ∧ wx.cell? ⟨w.heap.size, 11, none⟩ = some (.int .i64 ti)) (first | (exact ⟨ew, d0, d1, d2, d3, d4, d5, d6, d7, d8, d9, d10, d11⟩) | (exact HS3.out) | go_keep) (first
          | (refine HPT.out.mono ?_; rintro e w6 ⟨rfl, h3, hst⟩; have H3 := hide h3; have hx3 := hst w.heap.size _ _ HBX.out (by decide) (by decide); have hy3 := hst eb _ _ HBY.out (by decide) (by decide); have HS3 : Hid (w6.cell? ⟨eb, j * 2, none⟩ = some (.func (.func fp) #[] #[]) ∧ w6.cell? ⟨w.heap.size, 0, none⟩ = some (.int .i64 ki) ∧ w6.cell? ⟨w.heap.size, 1, none⟩ = some (.string nm) ∧ w6.cell? ⟨w.heap.size, 2, none⟩ = some (.int .i64 dl) ∧ w6.cell? ⟨w.heap.size, 3, none⟩ = some (.slice x1 x2 x3) ∧ w6.cell? ⟨w.heap.size, 4, none⟩ = some (.string ky) ∧ w6.cell? ⟨w.heap.size, 5, none⟩ = some (.int .i64 la) ∧ w6.cell? ⟨w.heap.size, 6, none⟩ = some (.int .i64 wo) ∧ w6.cell? ⟨w.heap.size, 7, none⟩ = some (.int .i64 tk) ∧ w6.cell? ⟨w.heap.size, 8, none⟩ = some (.slice y1 y2 y3) ∧ w6.cell? ⟨w.heap.size, 9, none⟩ = some (.int .i64 ru) ∧ w6.cell? ⟨w.heap.size, 10, none⟩ = some (.int .u64 lu) ∧ w6.cell? ⟨w.heap.size, 11, none⟩ = some (.int .i64 ti)) := ⟨cell_blk hy3 (j * 2) HWP.out, cell_blk hx3 0 rfl, cell_blk hx3 1 rfl, cell_blk hx3 2 rfl, cell_blk hx3 3 rfl, cell_blk hx3 4 rfl, cell_blk hx3 5 rfl, cell_blk hx3 6 rfl, cell_blk hx3 7 rfl, cell_blk hx3 8 rfl, cell_blk hx3 9 rfl, cell_blk hx3 10 rfl, cell_blk hx3 11 rfl⟩; have HX3 := hide hx3; have HY3 := hide hy3; clear h3 hst hx3 hy3 HPT))
        all_goals go_wp2
        all_goals refine ⟨⟨k + 1, by omega, by go_num, ?_, HX3.out, HY3.out⟩, by simp [intOf]; omega⟩
        all_goals rw [HSC.out]
        all_goals exact H3.out
    · have hWW := HW.out
      rw [List.take_of_length_le (by have := HNN.out; omega)] at hWW
      have HF := hide hWW
      clear hWW HW
      go_wp2_with fail
      refine (Done_any _ w2 p _ _ HF.out).mono ?_
      rintro e w7 ⟨v, rfl, ho, hb7, hfn⟩
      have hb8 : Below w.heap.size w wr := HB2.out.trans (HF.out.keep.below HB2.out.size (fun i h => by have h : p ≤ i := h; have := HPP.out; have := HB2.out.size; omega))
      have HB8 := hide (hb8.trans (hb7.mono hb8.size))
      clear ho hb7 hfn hb8
      go_wp2
      refine bodyPost_ret (results_tmp rfl _ _ _) rfl ?_
      refine ⟨?_, HB8.out⟩
      rw [HH.out]
      rfl
end Cd
end Go.Proofs.YtbjcckfhfbjchaaGreat
