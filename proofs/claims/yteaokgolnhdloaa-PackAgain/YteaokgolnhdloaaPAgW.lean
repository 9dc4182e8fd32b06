/- PackAgain: the walk. -/
import Derived.Test.YteaokgolnhdloaaPAg3
import Derived.Test.YteaokgolnhdloaaPRbW
import Derived.Test.YteaokgolnhdloaaPApR
import Derived.Test.YteaokgolnhdloaaPWoR
import Derived.Test.YteaokgolnhdloaaPRefWb
import Derived.Test.YteaokgolnhdloaaPRefWh
import Derived.Test.YteaokgolnhdloaaPRefE
import Derived.Deep.CutBlock
import Derived.Deep.CutRange
namespace Go.Proofs.Yteaokgolnhdloaa
namespace Wm
open Go.RowKit Go.Deep
open Ow (room_any)

def szL (Ls : List (List Nat)) : Nat := (Ls.map fun l => l.length + 1).sum
theorem szL_succ (Ls : List (List Nat)) (k : Nat) (l : List Nat) (h : Ls[k]? = some l) : szL (Ls.take (k + 1)) = szL (Ls.take k) + 1 + l.length := by
  unfold szL
  rw [List.take_add_one, h, List.map_append, List.sum_append]
  simp
  omega
theorem szL_mem : ∀ (Ls : List (List Nat)), Ls.length ≤ szL Ls ∧ ∀ l ∈ Ls, l.length ≤ szL Ls
  | [] => ⟨Nat.zero_le _, fun l hl => by cases hl⟩
  | x :: Ls => by
    have ⟨h1, h2⟩ := szL_mem Ls
    have e : szL (x :: Ls) = x.length + 1 + szL Ls := by unfold szL; simp
    refine ⟨by rw [e, List.length_cons]; omega, fun l hl => ?_⟩
    rcases List.mem_cons.1 hl with rfl | hl
    · rw [e]; omega
    · have := h2 l hl
      rw [e]; omega
set_option maxRecDepth 100000 in
set_option maxHeartbeats 40000000 in
theorem ag_walk (aL : Option Addr) (nL cL : Nat) (Ls : List (List Nat)) (aR : Option Addr) (nR cR : Nat) (lR : List Nat) (aO : Option Addr) (nO cO : Nat) (lO : List Nat) (w : World) (hl : RdC w aL nL Ls) (hr : Rd w aR nR lR) (hz : aR = none → cR = 0) (hn : nR ≤ 140737488351232) (ho : Rd w aO nO lO) :
    Calls Try.prog 4 #[.slice aL nL cL, .slice aR nR cR, .slice aO nO cO] w fun en w' => en = .returned (.bool true) ∧ Below w.heap.size w w' := by
  have HLs := hide hl
  have HRd := hide hr
  have HZ := hide hz
  have HOd := hide ho
  have hnL := hl.2.1
  have HnL : Hid (nL = Ls.length) := hl.1
  have HIL : Hid (∀ m o : Nat, (Try.prog.info? 28).map (·.size) = some (bL m o).size) := fun m o => by kernel_rfl
  have HOL : Hid (∀ m o : Nat, (bL m o).all (·.oneCell') = true) := fun m o => by simp [bL, Value.oneCell']
  clear hl hr hz ho
  go_enter Try.func4, Try.ntmps4
  go_wp2_with fail
  refine (known_any _).mono ?_
  rintro e w1 ⟨rfl, hb1⟩
  have HB1 := hide hb1
  have HL1 := hide (HLs.out.keep hb1)
  clear hb1
  go_upto_block 0 with fail
  go_cut [8, 9] from 33 to 50 (fun sz _ wx => ∃ z : Nat, sz = .int .i64 (z : Nat) ∧ wx = w1 ∧ z ≤ 562949953421312 ∧ Hid (16777216 < z ∨ szL Ls ≤ 16777216))
  case first => as_aux_lemma =>
    go_wp2_with fail
    go_loopw [8, 9] (fun sz iv wx => ∃ k z : Nat, sz = .int .i64 (z : Nat) ∧ iv = .int .i64 (k : Nat) ∧ k ≤ nL ∧ wx = w1 ∧ z ≤ 562949953421312 ∧ Hid (z = szL (Ls.take k))) (fun _ iv _ => nL - (intOf iv).toNat)
    case atStart => exact ⟨0, 0, rfl, rfl, Nat.zero_le _, rfl, Nat.zero_le _, rfl⟩
    case round =>
      obtain ⟨k, z, rfl, rfl, hk, hw, hz, HD⟩ := hrel
      subst hw
      by_cases hlt : k < nL
      · have hlt' : (k : Int) < (nL : Int) := by omega
        by_cases hzl : z ≤ 16777216
        · have hzl' : (z : Int) ≤ 16777216 := by omega
          obtain ⟨x, hx⟩ : ∃ x, Ls[k]? = some x := ⟨_, List.getElem?_eq_getElem (by have h := HnL.out; omega)⟩
          obtain ⟨b1, o1, a1, c1, rfl, e1, r1⟩ : ∃ b1 o1 a1 c1, aL = some ⟨b1, o1, none⟩ ∧ wr.cell? ⟨b1, o1 + k, none⟩ = some (.slice a1 x.length c1) ∧ Rd wr a1 x.length x := by
            rcases HL1.out.2.2 with h0 | ⟨b1, o1, rfl, hr⟩
            · omega
            · obtain ⟨a1, c1, h1, h2, _⟩ := hr k x hx; exact ⟨b1, o1, a1, c1, rfl, h1, h2⟩
          have hxl := r1.2.1
          have HN : Hid (z + 1 + x.length = szL (Ls.take (k + 1))) := by rw [szL_succ Ls k x hx, ← HD.out]; rfl
          clear r1 hx HD
          generalize x.length = xl at *
          go_wp2_with fail
          go_roundw
          case rel => exact ⟨k + 1, z + 1 + xl, by go_num, by go_num, by omega, by simp, by omega, HN.out⟩
          case measure => simp [intOf]; omega
        · have hzl' : ¬ (z : Int) ≤ 16777216 := by omega
          go_wp2_with fail
          go_meet
          exact ⟨z, rfl, rfl, hz, .inl (by omega)⟩
      · have hlt' : ¬ (k : Int) < (nL : Int) := by omega
        have HE : Hid (z = szL Ls) := by
          have := HD.out
          rw [List.take_of_length_le (by have := HnL.out; omega)] at this
          exact this
        clear HD
        go_wp2_with fail
        go_meet
        refine ⟨z, rfl, rfl, hz, ?_⟩
        show _ ∨ _
        have := HE.out
        omega
  case rest =>
    obtain ⟨z, rfl, hw, hz, HD⟩ := hcut
    subst hw
    by_cases hzl : 16777216 < z
    · have hzl' : (16777216 : Int) < (z : Int) := by omega
      clear HD
      go_wp2_with fail
      go_ret
      exact ⟨rfl, HB1.out⟩
    · have hzl' : ¬ (16777216 : Int) < (z : Int) := by omega
      have HSz : Hid (Ls.length ≤ 16777216 ∧ ∀ l ∈ Ls, l.length ≤ 16777216) := by
        have h0 : szL Ls ≤ 16777216 := HD.out.resolve_left hzl
        have ⟨h1, h2⟩ := szL_mem Ls
        exact ⟨by omega, fun l hl => by have := h2 l hl; omega⟩
      clear HD
      go_wp2_with fail
      refine (Blobs_any 9223372036854775807 _).mono ?_
      rintro e w3 ⟨m8, rfl, hm3, hg3, hb3⟩
      have HM3 := hide hm3
      have HB3 := hide (HB1.out.trans (hb3.mono HB1.out.size))
      clear hm3 hg3 hb3 HB1 HL1
      have HLi := hide (listsBX m8 9223372036854775807 w3)
      go_wp2_with fail
      refine (HLi.out).mono ?_
      rintro e w4 ⟨mb, fb, rfl, hmb4, hfb4, gmb, gfb, hb4⟩
      obtain ⟨hx5, hb5⟩ := alloc_setB (w := w4) #[.nilFunc, .nilFunc] 28 (bL mb fb)
      have hb35 := hb4.trans (hb5.mono hb4.size)
      have HBo : Hid (Bo ((w4.alloc (.cells #[.nilFunc, .nilFunc] 28)).setRow w4.heap.size (bL mb fb)).heap.size ((w4.alloc (.cells #[.nilFunc, .nilFunc] 28)).setRow w4.heap.size (bL mb fb)) m8 mb fb w4.heap.size 9223372036854775807) := by
        have hc : ((w4.alloc (.cells #[.nilFunc, .nilFunc] 28)).setRow w4.heap.size (bL mb fb)).cell? ⟨m8, 0, none⟩ = some (.int .i64 9223372036854775807) := by rw [hb35.cell (p := ⟨m8, 0, none⟩) (block_lt_of_cell HM3.out)]; exact HM3.out
        exact ⟨hc, blkBX hmb4 hb5, blkBX hfb4 hb5, hx5, block_lt_of_cell hc, (Array.getElem?_eq_some_iff.1 (blkBX hmb4 hb5)).1, (Array.getElem?_eq_some_iff.1 (blkBX hfb4 hb5)).1, (Array.getElem?_eq_some_iff.1 hx5).1⟩
      have HB5 := hide (HB3.out.trans (hb35.mono HB3.out.size))
      clear hmb4 hfb4 gmb gfb hb4 hb5 hx5 hb35 HB3 HM3 HLi
      go_upto_region 12 with (refine wpList_store_row rfl 28 _ _ rfl w4.heap.size (bL mb fb) rfl rfl 28 _ (heap_alloc_new _ _) (HIL.out _ _) rfl (HOL.out _ _) ?_)
      change Code.wp _ _ _ _ ((w4.alloc (.cells #[.nilFunc, .nilFunc] 28)).setRow w4.heap.size (bL mb fb))
      generalize (w4.alloc (.cells #[.nilFunc, .nilFunc] 28)).setRow w4.heap.size (bL mb fb) = w5 at *
      generalize w4.heap.size = lb at *
      obtain ⟨L, hL⟩ : ∃ L : Nat → Nat, ∀ i l, Ls[i]? = some l → L i = l.length := ⟨fun i => (Ls[i]?.getD []).length, fun i l h => by simp only [h, Option.getD_some]⟩
      obtain ⟨c0, hc0⟩ : ∃ c : Nat → List Nat, ∀ i l, Ls[i]? = some l → c i = l ++ [201, 202, 203] := ⟨fun i => Ls[i]?.getD [] ++ [201, 202, 203], fun i l h => by simp only [h, Option.getD_some]⟩
      have HLe := hide hL
      have HCe := hide hc0
      clear hL hc0
      go_wp2_with fail
      go_loopw [11, 12] (fun v iv wr => ∃ k : Nat, iv = .int .i64 (k : Nat) ∧ k ≤ nL ∧ Hid (∃ G C, Ns w5.heap.size k G C L c0 wr ∧ wr.ownsRow w5.heap.size 22 1 v k (nsV k G C L) ∧ Below w5.heap.size w5 wr)) (fun _ iv _ => nL - (intOf iv).toNat)
      case atStart => exact ⟨0, rfl, Nat.zero_le _, fun _ => 0, fun _ => 0, Ns.nil _ _ _ _ _ _, World.ownsRow_nil _ _ _ _, Below.refl _ _⟩
      case round =>
        obtain ⟨k, rfl, hk, HD⟩ := hrel
        by_cases hlt : k < nL
        · have hlt' : (k : Int) < (nL : Int) := by omega
          obtain ⟨x, hx⟩ : ∃ x, Ls[k]? = some x := ⟨_, List.getElem?_eq_getElem (by have h := HnL.out; omega)⟩
          obtain ⟨G, C, hns, hrow, hbw⟩ := HD.out
          obtain ⟨b1, o1, a1, c1, rfl, e1, r1, z1⟩ : ∃ b1 o1 a1 c1, aL = some ⟨b1, o1, none⟩ ∧ wr.cell? ⟨b1, o1 + k, none⟩ = some (.slice a1 x.length c1) ∧ Rd wr a1 x.length x ∧ (a1 = none → c1 = 0) := by
            rcases (HLs.out.keep (HB5.out.trans (hbw.mono HB5.out.size))).2.2 with h0 | ⟨b1, o1, rfl, hr⟩
            · omega
            · obtain ⟨a1, c1, h1, h2, h3⟩ := hr k x hx; exact ⟨b1, o1, a1, c1, rfl, h1, h2, h3⟩
          have HSb : Hid (∀ W, Below wr.heap.size wr W → (fun W' : World => W'.cell? ⟨b1, o1 + k, none⟩ = some (.slice a1 x.length c1)) W) := fun W hb => by show _ = _; rw [hb.cell (p := ⟨b1, o1 + k, none⟩) (block_lt_of_cell e1)]; exact e1
          have HR1 : Hid (Rd wr.drew a1 x.length x) := r1.keep (Below.refl _ _).drew
          have HZ1 := hide z1
          have hxl : x.length ≤ 16777216 := HSz.out.2 x (List.mem_of_getElem? hx)
          have HLk : Hid (L k = x.length) := HLe.out k x hx
          have HCk : Hid (c0 k = x ++ [201, 202, 203]) := HCe.out k x hx
          have HNs := hide hns
          have HRo := hide hrow
          have HBw := hide hbw
          have HX8 : Hid (∀ d ∈ x, d < 256) := r1.2.2.1
          have hHl : Hid (w.cell? ⟨b1, o1 + k, none⟩ = some (.slice a1 x.length c1)) := by
            rcases HLs.out.2.2 with h0 | ⟨b', o', e', hr'⟩
            · omega
            · injection e' with e'
              injection e' with e2 e3
              subst e2 e3
              obtain ⟨a', c', h1, _⟩ := hr' k x hx
              have h2 := (HB5.out.trans (hbw.mono HB5.out.size)).cell (p := ⟨b1, o1 + k, none⟩) (block_lt_of_cell h1)
              exact h2.symm.trans e1
          clear hx r1 z1 hns hrow hbw HD
          have HXn : Hid (∃ xl, xl = x.length) := ⟨_, rfl⟩
          obtain ⟨xl, hxe⟩ := HXn.out
          have HXe := hide hxe
          rw [← hxe] at e1 hxl
          have HSb' : Hid (∀ W, Below wr.heap.size wr W → (fun W' : World => W'.cell? ⟨b1, o1 + k, none⟩ = some (.slice a1 xl c1)) W) := by rw [hxe]; exact HSb.out
          have HR1' : Hid (Rd wr.drew a1 xl x) := by rw [hxe]; exact HR1.out
          clear hxe HXn HSb HR1
          go_upto_region 16 with fail
          refine wp_region_held_drew (S := fun W' : World => W'.cell? ⟨b1, o1 + k, none⟩ = some (.slice a1 xl c1)) (by kernel_rfl) (HSb'.out _ (Below.refl _ _).drew) (fun hHeld => ?_)
          refine wpAnyH_take (i := 0) (oi := _) (v := ?_) rfl (by kernel_rfl) (by kernel_rfl) (by kernel_rfl) (fun _ _ _ h => h) (Or.inl ⟨by rfl, ?_⟩) (by assumption) ?_
          rotate_left
          · (intro w hSw; (try dsimp only at hSw); go_simp)
            all_goals with_reducible rfl
          go_simp
          refine wpAnyH_take (i := 1) (oi := _) (v := ?_) rfl (by kernel_rfl) (by kernel_rfl) (by kernel_rfl) (fun _ _ _ h => h) (Or.inl ⟨by rfl, ?_⟩) (by assumption) ?_
          rotate_left
          · (intro w hSw; (try dsimp only at hSw); go_simp)
            all_goals with_reducible rfl
          go_simp
          refine wpAnyH_take (i := 2) (oi := _) (v := ?_) rfl (by kernel_rfl) (by kernel_rfl) (by kernel_rfl) (fun _ _ _ h => h) (Or.inl ⟨by rfl, ?_⟩) (by assumption) ?_
          rotate_left
          · (intro w hSw; (try dsimp only at hSw); go_simp)
            all_goals with_reducible rfl
          go_simp
          refine wpAnyH_take (i := 3) (oi := _) (v := ?_) rfl (by kernel_rfl) (by kernel_rfl) (by kernel_rfl) (fun _ _ _ h => h) (Or.inl ⟨by rfl, ?_⟩) (by assumption) ?_
          rotate_left
          · (intro w hSw; (try dsimp only at hSw); go_simp)
            all_goals with_reducible rfl
          go_simp
          refine wpAnyH_take (i := 4) (oi := _) (v := ?_) rfl (by kernel_rfl) (by kernel_rfl) (by kernel_rfl) (fun _ _ _ h => h) (Or.inl ⟨by rfl, ?_⟩) (by assumption) ?_
          rotate_left
          · (intro w hSw; (try dsimp only at hSw); go_simp)
            all_goals with_reducible rfl
          go_simp
          refine wpAnyH_take (i := 6) (oi := _) (v := ?_) rfl (by kernel_rfl) (by kernel_rfl) (by kernel_rfl) (fun _ _ _ h => h) (Or.inl ⟨by rfl, ?_⟩) (by assumption) ?_
          rotate_left
          · (intro w hSw; (try dsimp only at hSw); go_simp)
            all_goals with_reducible rfl
          go_simp
          refine wpAnyH_take (i := 7) (oi := _) (v := ?_) rfl (by kernel_rfl) (by kernel_rfl) (by kernel_rfl) (fun _ _ _ h => h) (Or.inl ⟨by rfl, ?_⟩) (by assumption) ?_
          rotate_left
          · (intro w hSw; (try dsimp only at hSw); go_simp)
            all_goals with_reducible rfl
          go_simp
          refine wpAnyH_take (i := 8) (oi := _) (v := ?_) rfl (by kernel_rfl) (by kernel_rfl) (by kernel_rfl) (fun _ _ _ h => h) (Or.inl ⟨by rfl, ?_⟩) (by assumption) ?_
          rotate_left
          · (intro w hSw; (try dsimp only at hSw); go_simp)
            all_goals with_reducible rfl
          go_simp
          refine wpAnyH_take (i := 9) (oi := _) (v := ?_) rfl (by kernel_rfl) (by kernel_rfl) (by kernel_rfl) (fun _ _ _ h => h) (Or.inl ⟨by rfl, ?_⟩) (by assumption) ?_
          rotate_left
          · (intro w hSw; (try dsimp only at hSw); go_simp)
            all_goals with_reducible rfl
          go_simp
          refine wpAnyH_take (i := 10) (oi := _) (v := ?_) rfl (by kernel_rfl) (by kernel_rfl) (by kernel_rfl) (fun _ _ _ h => h) (Or.inl ⟨by rfl, ?_⟩) (by assumption) ?_
          rotate_left
          · (intro w hSw; (try dsimp only at hSw); go_simp)
            all_goals with_reducible rfl
          go_simp
          refine wpAnyH_ready (rs := [5]) (by kernel_rfl) (by simp) ?_
          refine AllReadyH.cons (o := _) rfl (fun K hK => ?_) AllReadyH.nil
          rw [if_pos (by rfl)]
          go_simp
          go_at_call 6
          refine (room_any a1 xl c1 x _ HR1'.out HZ1.out (by omega)).mono ?_
          rintro e w8 ⟨f8, cap8, rfl, h8, hb8⟩
          have hcap8 : xl + 3 ≤ cap8 := by
            rcases h8.2 with ⟨e, _⟩ | ⟨g', cap', cur, e, _, _, h4, _⟩
            · cases e
            · injection e with _ _ e3; omega
          have hbd : Below wr.heap.size wr wr.drew := (Below.refl _ _).drew
          have hb8w : Below wr.heap.size wr w8 := hbd.trans (hb8.mono hbd.size)
          have HB8 := hide hb8w
          have HO8 := hide h8
          have hsl := slice_hi_run' (some ⟨f8, 0, none⟩) (xl + 3) cap8 xl (by omega)
          clear h8 hb8 hb8w hbd
          go_simp
          refine hK.out _ _ (HSb'.out _ HB8.out) (fun hHeld => ?_)
          clear hK K
          refine wpAnyH_take (i := 11) (oi := _) (v := ?_) rfl (by kernel_rfl) (by kernel_rfl) (by kernel_rfl) (fun _ _ _ h => h) (Or.inl ⟨by rfl, ?_⟩) (by assumption) ?_
          rotate_left
          · (intro w hSw; (try dsimp only at hSw); go_simp)
            all_goals with_reducible rfl
          go_simp
          have hb9 : Below w8.heap.size w8 (w8.alloc (.cells #[.slice (some ⟨f8, 0, none⟩) xl cap8] 22)) := (Below.refl _ _).alloc (Nat.le_refl _) _
          have HB9 := hide (HB8.out.trans (hb9.mono HB8.out.size))
          obtain ⟨av, cv, w10, hap, ho10, hg10⟩ := append_oneB Try.underlying41 Ow.info_bytes rfl (by decide) (Ow.ownsRow_new HRo.out (Keep.ofBelow HB9.out (Nat.le_refl _))) (Nat.le_trans HBw.out.size HB9.out.size) (by have h1 := HSz.out.1; have h2 := HnL.out; omega) (B := w8.heap.size) (y := .slice (some ⟨f8, 0, none⟩) xl cap8) rfl (Ow.cell_one _ _ _) 41
          have hk10 : Keep (fun j => u11.ownBlock = some j) (w8.alloc (.cells #[.slice (some ⟨f8, 0, none⟩) xl cap8] 22)) w10 := Keep.grown hg10 fun j e => e
          have hu11 : ∀ j, u11.ownBlock = some j → w5.heap.size ≤ j ∧ j < wr.heap.size := fun j e => HRo.out.lt j e
          have HS10 : Hid ((fun W' : World => W'.cell? ⟨b1, o1 + k, none⟩ = some (.slice a1 xl c1)) w10) := by
            have h1 := HSb'.out _ HB9.out
            refine hk10.cell h1 fun e => ?_
            have h2 := (hu11 _ e).1
            have h3 := block_lt_of_cell hHl.out
            have h4 := HB5.out.size
            simp only at h3 h2
            omega
          have HAP := hide hap
          have N1 : Hid (∃ G C, Ns w5.heap.size (k + 1) G C L c0 w10 ∧ w10.ownsRow w5.heap.size 22 1 (.slice av (k + 1) cv) (k + 1) (nsV (k + 1) G C L) ∧ Below w5.heap.size w5 w10) := by
            refine ⟨_, _, ((HNs.out.new HB9.out).push (g := f8) (cap := cap8) (W := wr.heap.size) ?_ ?_ HBw.out.size fun i hi => (HNs.out.lt hi).2).keep hk10 fun i hi e => ?_, ?_, ?_⟩
            · rw [HLk.out, HCk.out, ← HXe.out]
              exact Ow.ownsRow_new HO8.out (Keep.ofBelow hb9 (Nat.le_refl _))
            · rw [HCk.out]
              intro d hd
              rcases List.mem_append.1 hd with h | h
              · exact HX8.out d h
              · simp at h; omega
            · have h1 := (hu11 _ e).2
              by_cases ei : i = k
              · have h2 := (HO8.out.lt f8 rfl).1
                simp only [if_pos ei] at h1
                have h3 : wr.heap.size ≤ f8 := h2
                omega
              · have h2 := Ow.typ_ne (HNs.out.blk i (by omega)).1 HRo.out (by decide) (g := G i) rfl
                simp only [if_neg ei] at e
                exact h2 e
            · rw [nsV_push, HLk.out, ← HXe.out]
              exact ho10
            · exact HBw.out.trans ((HB9.out.mono HBw.out.size).trans (hk10.below (Nat.le_trans HBw.out.size HB9.out.size) fun j e => (hu11 j e).1))
          clear hap ho10 hg10 hk10 hu11 hb9
          refine wpAnyH_ready (rs := [12]) (by kernel_rfl) (by simp) ?_
          refine AllReadyH.cons (o := _) rfl (fun K hK => ?_) AllReadyH.nil
          rw [if_pos (by rfl)]
          unfold Oper.wp
          go_simp
          refine hK.out _ _ (HSb'.out _ HB9.out) (fun hHeld => ?_)
          clear hK K
          try simp only [Act.put, List.setIfInBounds_toArray, List.set_cons_zero, List.set_cons_succ]
          refine wpAnyH_ready (rs := [13]) (by kernel_rfl) (by simp) ?_
          refine AllReadyH.cons (o := _) rfl (fun K hK => ?_) AllReadyH.nil
          refine step_append_runB (by rfl) _ _ 41 (by rfl) _ _ (by rfl) (by rfl) HAP.out ?_
          refine hK.out _ _ HS10.out (fun hHeld => ?_)
          clear hK K
          go_simp
          refine wpAnyH_take (i := 14) (oi := _) (v := ?_) rfl (by kernel_rfl) (by kernel_rfl) (by kernel_rfl) (fun _ _ _ h => h) (Or.inl ⟨by rfl, ?_⟩) (by assumption) ?_
          rotate_left
          · (intro w hSw; (try dsimp only at hSw); go_simp)
            all_goals with_reducible rfl
          go_simp
          refine wpAnyH_done (by kernel_rfl) ?_ _
          go_wp2_with fail
          go_roundw
          case rel => exact ⟨k + 1, by go_num, by omega, N1.out⟩
          case measure => simp [intOf]; omega
        · have hke : k = nL := by omega
          have hlt' : ¬ (k : Int) < (nL : Int) := by omega
          obtain ⟨G, C, hns, hrow, hbw⟩ := HD.out
          rw [hke] at hns hrow
          obtain ⟨w6, hw6⟩ : ∃ x, x = wr := ⟨_, rfl⟩
          subst hw6
          have hb2 : Below w6.heap.size w6 ((w6.alloc (.cells #[.int .u8 9] 5)).alloc (.cells #[.slice (some ⟨w6.heap.size, 0, none⟩) 1 1] 22)) := ((Below.refl _ _).alloc (Nat.le_refl _) _).alloc (by simp) _
          have HO2 := hide ((hrow.alloc (.cells #[.int .u8 9] 5)).alloc (.cells #[.slice (some ⟨w6.heap.size, 0, none⟩) 1 1] 22))
          have hc2 := Ow.cell_one (w6.alloc (.cells #[.int .u8 9] 5)) (.slice (some ⟨w6.heap.size, 0, none⟩) 1 1) 22
          rw [show (w6.alloc (.cells #[.int .u8 9] 5)).heap.size = w6.heap.size + 1 by simp] at hc2
          have HC2 := hide hc2
          have HN2 := hide (hns.new hb2)
          have HG2 : Hid (∀ i, i < nL → G i < w6.heap.size) := fun i hi => (hns.lt hi).2
          have H92 : Hid (((w6.alloc (.cells #[.int .u8 9] 5)).alloc (.cells #[.slice (some ⟨w6.heap.size, 0, none⟩) 1 1] 22)).cell? ⟨w6.heap.size, 0, none⟩ = some (.int .u8 9)) := by
            have h1 := Ow.cell_one w6 (.int .u8 9) 5
            have h2 : Below (w6.alloc (.cells #[.int .u8 9] 5)).heap.size (w6.alloc (.cells #[.int .u8 9] 5)) ((w6.alloc (.cells #[.int .u8 9] 5)).alloc (.cells #[.slice (some ⟨w6.heap.size, 0, none⟩) 1 1] 22)) := (Below.refl _ _).alloc (Nat.le_refl _) _
            exact (h2.cell (p := ⟨w6.heap.size, 0, none⟩) (block_lt_of_cell h1)).trans h1
          have HU : Hid (∀ j, u11.ownBlock = some j → w5.heap.size ≤ j ∧ j < w6.heap.size) := fun j e => hrow.lt j e
          have HB2 : Hid (Below w5.heap.size w5 ((w6.alloc (.cells #[.int .u8 9] 5)).alloc (.cells #[.slice (some ⟨w6.heap.size, 0, none⟩) 1 1] 22))) := hbw.trans (hb2.mono hbw.size)
          have HS2 : Hid (w5.heap.size ≤ ((w6.alloc (.cells #[.int .u8 9] 5)).alloc (.cells #[.slice (some ⟨w6.heap.size, 0, none⟩) 1 1] 22)).heap.size) := HB2.out.size
          have HL2 : Hid (nL + 1 ≤ 200000000) := by have h1 := HSz.out.1; have h2 := HnL.out; show _ ≤ _; omega
          clear hns hrow hbw HD hb2 hc2 hke hlt hk
          go_upto_region 18 with (at_builtin; refine Ow.wp_appendL rfl _ _ rfl w5.heap.size u11 nL (nsV nL G C L) rfl HO2.out _ (some ⟨w6.heap.size, 0, none⟩) 1 1 rfl HC2.out HL2.out HS2.out ?_; intro vI w8 ho hk hnb; have HO8 := hide ho; have HK8 := hide hk; clear ho hk hnb)
          have HIm : Hid (Im w5.heap.size nL w6.heap.size G C L c0 vI w8) := ⟨HN2.out.keep HK8.out fun i hi e => (Ow.typ_ne (HN2.out.blk i hi).1 HO2.out (by decide) (g := G i) rfl) e, HO8.out, HK8.out.cell H92.out fun e => by have := (HU.out _ e).2; simp only at this; omega, HG2.out⟩
          have HB8 : Hid (Below w.heap.size w w8) := HB5.out.trans ((HB2.out.trans (HK8.out.below HS2.out fun j e => (HU.out j e).1)).mono HB5.out.size)
          have HBo8 := hide (HBo.out.stay ((Keep.ofBelow (S := fun j => w5.heap.size ≤ j) HB2.out (Nat.le_refl _)).trans HK8.out fun j e => .inl (HU.out j e).1) fun i h => h)
          have HB58 : Hid (w5.heap.size ≤ w8.heap.size) := Nat.le_trans HS2.out HK8.out.size
          clear HO2 HC2 HN2 H92 HU HB2 HS2 HL2 HO8 HK8 HG2 HBo hlt'
          go_wp2_with fail
          refine (RNewWriter_any 16777216 _).mono ?_
          rintro e w9 ⟨rfl, hv9⟩
          have HV9 := hide hv9
          clear hv9
          go_wp2_with fail
          refine (RHead_any _ _ _ 9223372036854775807 nL hnL _ _ HV9.out).mono ?_
          rintro e w10 ⟨rfl, hv10⟩
          obtain ⟨s0, hs0⟩ : ∃ s0, putW (headW 9223372036854775807 nL) ⟨[], room 16777216, 0⟩ = s0 := ⟨_, rfl⟩
          rw [hs0] at hv10
          have HV10 := hide hv10
          have HS0 := hide hs0
          clear hv10 hs0 HV9
          go_wp2_with fail
          go_loopw [14] (fun iv wr => ∃ k : Nat, iv = .int .i64 (k : Nat) ∧ k ≤ nL ∧ Hid (VAt (fun k => w8.heap.size ≤ k) w8 w8.heap.size (putsW ((Ls.map (textW 9223372036854775807)).take k) s0) wr)) (fun iv _ => nL - (intOf iv).toNat)
          case atStart => exact ⟨0, rfl, Nat.zero_le _, HV10.out⟩
          case round =>
            clear HV10
            obtain ⟨k2, rfl, hk, HD⟩ := hrel
            by_cases hlt : k2 < nL
            · have hlt' : (k2 : Int) < (nL : Int) := by omega
              obtain ⟨x, hx⟩ : ∃ x, Ls[k2]? = some x := ⟨_, List.getElem?_eq_getElem (by have h := HnL.out; omega)⟩
              obtain ⟨b1, o1, a1, c1, rfl, e1, r1, z1⟩ : ∃ b1 o1 a1 c1, aL = some ⟨b1, o1, none⟩ ∧ wr.cell? ⟨b1, o1 + k2, none⟩ = some (.slice a1 x.length c1) ∧ Rd wr a1 x.length x ∧ (a1 = none → c1 = 0) := by
                rcases (HLs.out.keep (HB8.out.trans (HD.out.keep.below HB8.out.size fun i h => Nat.le_trans HB8.out.size h))).2.2 with h0 | ⟨b1, o1, rfl, hr⟩
                · omega
                · obtain ⟨a1, c1, h1, h2, h3⟩ := hr k2 x hx; exact ⟨b1, o1, a1, c1, rfl, h1, h2, h3⟩
              have hxl : x.length ≤ 16777216 := HSz.out.2 x (List.mem_of_getElem? hx)
              have HF : Hid (putsW ((Ls.map (textW 9223372036854775807)).take (k2 + 1)) s0 = putW (textW 9223372036854775807 x) (putsW ((Ls.map (textW 9223372036854775807)).take k2) s0)) := puts_succ _ k2 _ (by rw [List.getElem?_map, hx]; rfl) s0
              have HCB := hide (RBlob_any (fun k => w8.heap.size ≤ k) w8 w8.heap.size 9223372036854775807 a1 x.length c1 x _ wr HD.out r1 z1 (by omega))
              clear hx r1 z1 HD
              generalize x.length = xl at *
              go_wp2_with fail
              refine (HCB.out).mono ?_
              rintro e w11 ⟨rfl, hv11⟩
              rw [← HF.out] at hv11
              have HV11 := hide hv11
              clear hv11 HCB
              go_wp2_with fail
              go_roundw
              case rel => exact ⟨k2 + 1, by go_num, by omega, HV11.out⟩
              case measure => simp [intOf]; omega
            · have hlt' : ¬ (k2 : Int) < (nL : Int) := by omega
              have HV11 : Hid (VAt (fun k => w8.heap.size ≤ k) w8 w8.heap.size (bsW 9223372036854775807 Ls) wr) := by
                have h1 := HD.out
                rw [List.take_of_length_le (by rw [List.length_map]; have := HnL.out; omega), ← HS0.out, HnL.out, ← bs_puts] at h1
                exact h1
              clear HD hlt hk
              go_wp2_with fail
              clear hlt'
              refine (RDone_any _ _ _ _ _ HV11.out).mono ?_
              rintro e w12 ⟨vW, rfl, hoW, hb12, hfW⟩
              obtain ⟨sB, hsB⟩ : ∃ sB, bsW 9223372036854775807 Ls = sB := ⟨_, rfl⟩
              rw [hsB] at hoW hfW ⊢
              have HsB := hide hsB
              have HK12 : Hid (Keep (fun k => w8.heap.size ≤ k) w8 w12) := HV11.out.keep.trans (Keep.ofBelow (S := fun k => w8.heap.size ≤ k) hb12 (Nat.le_refl _)) fun i h => .inl h
              have HIm12 := hide (HIm.out.keep HK12.out fun i h1 h2 => by omega)
              have HBo12 := hide (HBo8.out.stay HK12.out fun i h => Nat.le_trans HB58.out h)
              have HB12 := hide (HB8.out.trans (HK12.out.below HB8.out.size fun i h => Nat.le_trans HB8.out.size h))
              have HoW := hide hoW
              have HfW := hide hfW
              clear hoW hb12 hfW hsB HV11 HIm HBo8
              go_upto_region 25 with fail
              obtain ⟨gI, capI, hvI, hcI, _, _⟩ := HIm12.out.form
              subst hvI
              have HnLs : Hid (nsL nL L c0 = Ls) := by
                apply List.ext_getElem?
                intro i
                by_cases hi : i < nL
                · obtain ⟨x, hx⟩ : ∃ x, Ls[i]? = some x := ⟨_, List.getElem?_eq_getElem (by have h := HnL.out; omega)⟩
                  rw [hx]
                  unfold nsL
                  rw [List.getElem?_map, List.getElem?_range hi, Option.map_some, HLe.out i x hx, HCe.out i x hx, List.take_left']
                  rfl
                · rw [List.getElem?_eq_none (by rw [nsL_len]; omega), List.getElem?_eq_none (by have h := HnL.out; omega)]
              have HLl : Hid (∀ i, i < nL → L i ≤ 16777216) := fun i hi => by
                obtain ⟨x, hx⟩ : ∃ x, Ls[i]? = some x := ⟨_, List.getElem?_eq_getElem (by have h := HnL.out; omega)⟩
                show L i ≤ _
                rw [HLe.out i x hx]
                exact HSz.out.2 x (List.mem_of_getElem? hx)
              have HnB : Hid (nL ≤ 16777216) := by have h1 := HSz.out.1; have h2 := HnL.out; show _ ≤ _; omega
              have HRC : Hid (∀ (W : World) (c : Nat → List Nat), Im w5.heap.size nL w6.heap.size G C L c (.slice (some ⟨gI, 0, none⟩) (nL + 1) capI) W → RdC W (some ⟨gI, 0, none⟩) nL (nsL nL L c)) := fun W c hI => by
                obtain ⟨g', cap', e, _, hc, _⟩ := hI.form
                injection e with e1 _ _
                injection e1 with e1
                injection e1 with e1
                subst e1
                exact hI.ns.rdC HLl.out HnB.out hc
              have HSf : Hid (∀ W, Bo w5.heap.size W m8 mb fb lb 9223372036854775807 → (fun W' : World => W'.cell? ⟨lb, 0, none⟩ = some (.func (.func 38) #[] #[.pointer (some ⟨mb, 0, none⟩), .pointer (some ⟨fb, 0, none⟩)]) ∧ W'.cell? ⟨lb, 1, none⟩ = some (.func (.func 43) #[] #[.pointer (some ⟨mb, 0, none⟩), .pointer (some ⟨fb, 0, none⟩)])) W) := fun W hB => ⟨by rw [cell_of_row _ _ _ _ _ _ hB.l]; rfl, by rw [cell_of_row _ _ _ _ _ _ hB.l]; rfl⟩
              have hcI' : (nL : Int) ≤ (capI : Int) := by omega
              have hcI0 : (0 : Int) ≤ (nL : Int) := by omega
              have HBod := hide (HBo12.out.stay (Keep.drew (fun _ => False) w12) fun _ h => h.elim)
              have HCA := hide (bytesB m8 mb fb 9223372036854775807 (some ⟨gI, 0, none⟩) nL capI Ls w12.drew (by have := HRC.out _ _ (HIm12.out.new (Below.refl _ _).drew); rw [HnLs.out] at this; exact this) (fun l hl => by have := HSz.out.2 l hl; omega) HBod.out.c HBod.out.b HBod.out.f)
              rw [HsB.out] at HCA
              unfold bL at HCA
              go_region_held3 (fun W' : World => W'.cell? ⟨lb, 0, none⟩ = some (.func (.func 38) #[] #[.pointer (some ⟨mb, 0, none⟩), .pointer (some ⟨fb, 0, none⟩)]) ∧ W'.cell? ⟨lb, 1, none⟩ = some (.func (.func 43) #[] #[.pointer (some ⟨mb, 0, none⟩), .pointer (some ⟨fb, 0, none⟩)])) (first | (exact HSf.out _ HBo13.out) | (exact HSf.out _ HBod.out) | (exact HSf.out _ HBo12.out) | go_keep) (first
                | (go_at_call 25; refine (HCA.out).mono ?_; rintro e w13 ⟨vA, rfl, hoA, hb13, hfA⟩; have HoA := hide hoA; have HfA := hide hfA; have HBo13 := hide (HBod.out.stay (Keep.ofBelow (S := fun _ => False) hb13 (Nat.le_refl _)) fun _ h => h.elim); have HBl13 : Hid (Below w12.heap.size w12 w13) := ((Below.refl _ _).drew).trans (hb13.mono (Nat.le_refl _)); clear hoA hb13 hfA))
              have H612 : Hid (w6.heap.size < w12.heap.size) := block_lt_of_cell (a := ⟨w6.heap.size, 0, none⟩) HIm12.out.nine
              go_upto_region 26 with fail
              have HIm13 := hide (HIm12.out.new HBl13.out)
              have HoW13 := hide (ownsRow_keepB HoW.out HBl13.out)
              have HB13 := hide (HB12.out.trans (HBl13.out.mono HB12.out.size))
              have HoA13 : Hid (w13.ownsRow w12.heap.size 5 1 vA (told sB).length (B8 (told sB))) := HoA.out
              have HAlt : Hid (∀ j, vA.ownBlock = some j → j < w13.heap.size) := fun j e => (HoA13.out.lt j e).2
              clear HBod HCA HIm12 HoW HoA HBo12 HB12
              have HBod := hide (HBo13.out.stay (Keep.drew (fun _ => False) w13) fun _ h => h.elim)
              have HCA := hide (bytesB m8 mb fb 9223372036854775807 (some ⟨gI, 0, none⟩) nL capI Ls w13.drew (by have := HRC.out _ _ (HIm13.out.new (Below.refl _ _).drew); rw [HnLs.out] at this; exact this) (fun l hl => by have := HSz.out.2 l hl; omega) HBod.out.c HBod.out.b HBod.out.f)
              rw [HsB.out] at HCA
              unfold bL at HCA
              go_region_held3 (fun W' : World => W'.cell? ⟨lb, 0, none⟩ = some (.func (.func 38) #[] #[.pointer (some ⟨mb, 0, none⟩), .pointer (some ⟨fb, 0, none⟩)]) ∧ W'.cell? ⟨lb, 1, none⟩ = some (.func (.func 43) #[] #[.pointer (some ⟨mb, 0, none⟩), .pointer (some ⟨fb, 0, none⟩)])) (first | (exact HSf.out _ HBo14.out) | (exact HSf.out _ HBod.out) | (exact HSf.out _ HBo13.out) | go_keep) (first
                | (go_at_call 25; refine (HCA.out).mono ?_; rintro e w14 ⟨vB, rfl, hoB, hb14, hfB⟩; have HoB := hide hoB; have HfB := hide hfB; have HBo14 := hide (HBod.out.stay (Keep.ofBelow (S := fun _ => False) hb14 (Nat.le_refl _)) fun _ h => h.elim); have HBl14 : Hid (Below w13.heap.size w13 w14) := ((Below.refl _ _).drew).trans (hb14.mono (Nat.le_refl _)); clear hoB hb14 hfB))
              have HIm14 := hide (HIm13.out.new HBl14.out)
              have HoW14 := hide (ownsRow_keepB HoW13.out HBl14.out)
              have HoA14 := hide (ownsRow_keepB HoA13.out HBl14.out)
              have HB14 := hide (HB13.out.trans (HBl14.out.mono HB13.out.size))
              have HoB14 : Hid (w14.ownsRow w13.heap.size 5 1 vB (told sB).length (B8 (told sB))) := HoB.out
              have HBlt : Hid (∀ j, vB.ownBlock = some j → j < w14.heap.size) := fun j e => (HoB14.out.lt j e).2
              clear HBod HCA HIm13 HoW13 HoA13 HoB HBo13 HB13
              obtain ⟨aW, cW, hvW⟩ := ownsRow_shape HoW14.out
              obtain ⟨aA, cA, hvA⟩ := ownsRow_shape HoA14.out
              obtain ⟨aB, cB, hvB⟩ := ownsRow_shape HoB14.out
              subst hvW hvA hvB
              have hrd : ∀ {b : Nat} {a : Option Addr} {c : Nat}, w14.ownsRow b 5 1 (.slice a (told sB).length c) (told sB).length (B8 (told sB)) → Rd w14 a (told sB).length (told sB) := fun h => (Ow.rd_of (ownsRow_base h (Nat.zero_le _)) HfW.out.1 (by have := HfW.out.2; omega)).1
              have HA1 := hide (Ow.alike_same aA aW (told sB).length cA (told sB).length cW (sB.fault : Nat) (told sB) w14 (hrd HoA14.out) (hrd HoW14.out))
              have HA2 := hide (Ow.alike_same aB aW (told sB).length cB (told sB).length cW (sB.fault : Nat) (told sB) w14 (hrd HoB14.out) (hrd HoW14.out))
              have HA3 := hide (blobs_same (some ⟨gI, 0, none⟩) aL nL capI cL Ls w14 (by have := (HRC.out _ _ HIm14.out).rdL; rw [HnLs.out] at this; exact this) (HLs.out.keep HB14.out).rdL)
              have H9 : Hid (∀ W, Below w14.heap.size w14 W → W.cell? ⟨gI, nL, none⟩ = some (.slice (some ⟨w6.heap.size, 0, none⟩) 1 1) ∧ (convert 22 9 (.slice (some ⟨w6.heap.size, 0, none⟩) 1 1)).run Try.prog W = .ok (.string ⟨#[9]⟩) W) := fun W hb => by
                have hI := HIm14.out.new hb
                refine ⟨?_, conv_rd hI.rd9 1⟩
                obtain ⟨g', cap', e, _, _, hc⟩ := hI.form
                injection e with e1 _ _
                injection e1 with e1
                injection e1 with e1
                subst e1
                exact hc
              clear hrd
              generalize (told sB).length = tn at *
              generalize (sB.fault : Int) = tf at *
              go_upto_region 27 with fail
              go_wp2_with (first
                | (go_at_call 15; refine (HA3.out).mono ?_; rintro e w15 ⟨rfl, hm15⟩; have HBl15 : Hid (Below w14.heap.size w14 w15) := (by obtain ⟨j, rfl⟩ := hm15; exact drewN_belowB _ _); obtain ⟨c9, k9⟩ := H9.out _ HBl15.out; clear hm15)
                | (go_at_call 26; have hh := HQ1.out; refine (HA2.out).mono ?_; rintro e wq2 ⟨rfl, hw⟩; have hw' := hw.symm; clear hw; subst hw')
                | (go_at_call 26; refine (HA1.out).mono ?_; rintro e wq1 ⟨rfl, hw⟩; have hw' := hw.symm; clear hw; subst hw'; have HQ1 : Hid True := trivial))
              have HIm15 := hide (HIm14.out.new HBl15.out)
              have HoA15 := hide (ownsRow_keepB HoA14.out HBl15.out)
              have HoB15 := hide (ownsRow_keepB HoB14.out HBl15.out)
              have HBo15 := hide (HBo14.out.stay (Keep.ofBelow (S := fun _ => False) HBl15.out (Nat.le_refl _)) fun _ h => h.elim)
              have HB15 := hide (HB14.out.trans (HBl15.out.mono HB14.out.size))
              have H515 : Hid (w5.heap.size ≤ w15.heap.size ∧ w12.heap.size ≤ w13.heap.size ∧ w.heap.size ≤ w5.heap.size) := ⟨Nat.le_trans HB58.out (Nat.le_trans HK12.out.size (Nat.le_trans HBl13.out.size (Nat.le_trans HBl14.out.size HBl15.out.size))), HBl13.out.size, HB5.out.size⟩
              have H512 : Hid (w5.heap.size ≤ w12.heap.size) := Nat.le_trans HB58.out HK12.out.size
              have H1415 : Hid (w14.heap.size ≤ w15.heap.size) := HBl15.out.size
              have H1314 : Hid (w13.heap.size ≤ w14.heap.size) := HBl14.out.size
              clear HIm14 HoA14 HoB14 HoW14 HBo14 HB14 HA1 HA2 HA3 H9 c9 k9 HQ1 hh HBl13 HBl14 HBl15 HK12 HB8
              go_loopw [21] (fun iv wr => ∃ k : Nat, iv = .int .i64 (k : Nat) ∧ k ≤ nL ∧ Hid (∃ c, Im w5.heap.size nL w6.heap.size G C L c (.slice (some ⟨gI, 0, none⟩) (nL + 1) capI) wr ∧ (∀ i, k ≤ i → c i = c0 i) ∧ Keep (fun j => w5.heap.size ≤ j ∧ j < w6.heap.size) w15 wr)) (fun iv _ => nL - (intOf iv).toNat)
              case atStart => exact ⟨0, rfl, Nat.zero_le _, c0, HIm15.out, fun _ _ => rfl, Keep.refl _ _⟩
              case round =>
                clear HIm15
                obtain ⟨k4, rfl, hk4, HD⟩ := hrel
                by_cases hlt : k4 < nL
                · have hlt' : (k4 : Int) < (nL : Int) := by omega
                  obtain ⟨c4, hI, hc4, hkp⟩ := HD.out
                  obtain ⟨x, hx⟩ : ∃ x, Ls[k4]? = some x := ⟨_, List.getElem?_eq_getElem (by have h := HnL.out; omega)⟩
                  obtain ⟨xl, hxe⟩ : ∃ xl, xl = x.length := ⟨_, rfl⟩
                  have hLk : L k4 = xl := (HLe.out k4 x hx).trans hxe.symm
                  have hCk : c4 k4 = x ++ [201, 202, 203] := (hc4 k4 (Nat.le_refl _)).trans (HCe.out k4 x hx)
                  have hbw : Below w.heap.size w wr := HB15.out.trans (hkp.below HB15.out.size fun j h => Nat.le_trans H515.out.2.2 h.1)
                  obtain ⟨b1, o1, a1, c1, rfl, e1, r1, z1⟩ : ∃ b1 o1 a1 c1, aL = some ⟨b1, o1, none⟩ ∧ wr.cell? ⟨b1, o1 + k4, none⟩ = some (.slice a1 xl c1) ∧ Rd wr a1 xl x ∧ (a1 = none → c1 = 0) := by
                    rcases (HLs.out.keep hbw).2.2 with h0 | ⟨b1, o1, rfl, hr⟩
                    · omega
                    · obtain ⟨a1, c1, h1, h2, h3⟩ := hr k4 x hx; rw [hxe]; exact ⟨b1, o1, a1, c1, rfl, h1, h2, h3⟩
                  have hxl : xl ≤ 16777216 := by rw [hxe]; exact HSz.out.2 x (List.mem_of_getElem? hx)
                  obtain ⟨gI', capI', eI, _, hcI4, _⟩ := hI.form
                  injection eI with eI1 eI2 eI3
                  injection eI1 with eI1
                  injection eI1 with eI1
                  subst eI1 eI3
                  clear eI2
                  have e2 : wr.cell? ⟨gI, k4, none⟩ = some (.slice (some ⟨G k4, 0, none⟩) xl (C k4)) := by rw [hcI4 k4 hlt, hLk]
                  have hCap : xl + 3 ≤ C k4 := by
                    rcases (hI.ns.blk k4 hlt).1.2 with ⟨e, _⟩ | ⟨g', cap', cur, e, _, _, h4, _⟩
                    · cases e
                    · injection e with _ _ e3; omega
                  have hRF : Rd wr (some ⟨G k4, 0, none⟩) (xl + 3) (x ++ [201, 202, 203]) := by
                    have := hI.ns.rd (n := xl + 3) hlt (by rw [hLk]; exact hxl) (by omega)
                    rw [List.take_of_length_le (by rw [hI.ns.len hlt]; omega), hCk] at this
                    exact this
                  have HBy : Hid (∀ d ∈ x ++ [201, 202, 203], d < 256) := by rw [← hCk]; exact (hI.ns.blk k4 hlt).2
                  have HXe := hide hxe
                  have HLk := hide hLk
                  have HCk := hide hCk
                  have HI4 := hide hI
                  have HC4 := hide hc4
                  have HKp := hide hkp
                  have HR1 := hide r1
                  have HZ1 := hide z1
                  obtain ⟨x3, hx3⟩ : ∃ x3, x3 = xl + 3 := ⟨_, rfl⟩
                  have HF8 : Hid (∀ W : World, Below wr.heap.size wr W → (convert 22 9 (.slice (some ⟨G k4, 0, none⟩) x3 (C k4))).run Try.prog W = .ok (.string (str (x ++ [201, 202, 203]))) W) := fun W b => by rw [hx3]; exact conv_rd (hRF.keep b) (C k4)
                  have HN : Hid (∀ (W w8 : World) (f8 cap8 : Nat), w8.ownsRow W.heap.size 5 1 (.slice (some ⟨f8, 0, none⟩) (xl + 3) cap8) (xl + 3) (B8 (x ++ [201, 202, 203])) → (convert 22 9 (.slice (some ⟨f8, 0, none⟩) (xl + 3) cap8)).run Try.prog w8 = .ok (.string (str (x ++ [201, 202, 203]))) w8) := fun W w8 f8 cap8 h8 => by
                    have hl3 : (x ++ [201, 202, 203]).length = xl + 3 := by have := HXe.out; simp; omega
                    have ho' : w8.ownsRow W.heap.size 5 1 (.slice (some ⟨f8, 0, none⟩) (xl + 3) cap8) (x ++ [201, 202, 203]).length (B8 (x ++ [201, 202, 203])) := by rw [hl3]; exact h8
                    obtain ⟨a', c', e, hrd, _⟩ := ownsRow_rd ho' HBy.out (by omega)
                    injection e with e1 e2 e3
                    subst e1
                    rw [hl3] at hrd
                    exact conv_rd hrd cap8
                  have HS : Hid (∀ W, Below wr.heap.size wr W → (fun W' : World => W'.cell? ⟨gI, k4, none⟩ = some (.slice (some ⟨G k4, 0, none⟩) xl (C k4)) ∧ W'.cell? ⟨b1, o1 + k4, none⟩ = some (.slice a1 xl c1) ∧ (convert 22 9 (.slice (some ⟨G k4, 0, none⟩) x3 (C k4))).run Try.prog W' = .ok (.string (str (x ++ [201, 202, 203]))) W' ∧ Below wr.heap.size wr W') W) := fun W hb => ⟨by rw [hb.cell (p := ⟨gI, k4, none⟩) (block_lt_of_cell e2)]; exact e2, by rw [hb.cell (p := ⟨b1, o1 + k4, none⟩) (block_lt_of_cell e1)]; exact e1, HF8.out W hb, hb⟩
                  have hsl := slice_hi_run' (some ⟨G k4, 0, none⟩) xl (C k4) x3 (by omega)
                  have hadd : ((xl : Int) + 3) = (x3 : Int) := by omega
                  have HX3 := hide hx3
                  have hwr : IntKind.i64.wrap (x3 : Int) = (x3 : Int) := by rw [IntKind.wrap_i64]; omega
                  have hlt2 : (k4 : Int) < (nL : Int) + 1 := by omega
                  have hlt3 : k4 < nL + 1 := by omega
                  clear hx hLk hCk hI hc4 hkp r1 z1 hcI4 hRF hxe hx3 HF8 HD hbw
                  have HStr : Hid (∃ F, str (x ++ [201, 202, 203]) = F) := ⟨_, rfl⟩
                  obtain ⟨F, hF⟩ := HStr.out
                  rw [hF] at HN HS
                  clear hF HStr
                  go_upto_region 32 with fail
                  go_cut [180] from 162 to 180 (fun t wx => t = .bool false ∧ Hid (Below wr.heap.size wr wx))
                  case first => as_aux_lemma =>
                    refine wp_region_held_drew (S := fun W' : World => W'.cell? ⟨gI, k4, none⟩ = some (.slice (some ⟨G k4, 0, none⟩) xl (C k4)) ∧ W'.cell? ⟨b1, o1 + k4, none⟩ = some (.slice a1 xl c1) ∧ (convert 22 9 (.slice (some ⟨G k4, 0, none⟩) x3 (C k4))).run Try.prog W' = .ok (.string F) W' ∧ Below wr.heap.size wr W') (by kernel_rfl) (HS.out _ (Below.refl _ _).drew) (fun hHeld => ?_)
                    refine wpAnyH_take (i := 0) (oi := _) (v := ?_) rfl (by kernel_rfl) (by kernel_rfl) (by kernel_rfl) (fun _ _ _ h => h) (Or.inl ⟨by rfl, ?_⟩) (by assumption) ?_
                    rotate_left
                    · (intro w hSw; (try dsimp only at hSw); go_simp)
                      all_goals with_reducible rfl
                    go_simp
                    refine wpAnyH_take (i := 1) (oi := _) (v := ?_) rfl (by kernel_rfl) (by kernel_rfl) (by kernel_rfl) (fun _ _ _ h => h) (Or.inl ⟨by rfl, ?_⟩) (by assumption) ?_
                    rotate_left
                    · (intro w hSw; (try dsimp only at hSw); go_simp)
                      all_goals with_reducible rfl
                    go_simp
                    refine wpAnyH_take (i := 2) (oi := _) (v := ?_) rfl (by kernel_rfl) (by kernel_rfl) (by kernel_rfl) (fun _ _ _ h => h) (Or.inl ⟨by rfl, ?_⟩) (by assumption) ?_
                    rotate_left
                    · (intro w hSw; (try dsimp only at hSw); go_simp)
                      all_goals with_reducible rfl
                    go_simp
                    refine wpAnyH_take (i := 3) (oi := _) (v := ?_) rfl (by kernel_rfl) (by kernel_rfl) (by kernel_rfl) (fun _ _ _ h => h) (Or.inl ⟨by rfl, ?_⟩) (by assumption) ?_
                    rotate_left
                    · (intro w hSw; (try dsimp only at hSw); go_simp)
                      all_goals with_reducible rfl
                    go_simp
                    refine wpAnyH_take (i := 4) (oi := _) (v := ?_) rfl (by kernel_rfl) (by kernel_rfl) (by kernel_rfl) (fun _ _ _ h => h) (Or.inl ⟨by rfl, ?_⟩) (by assumption) ?_
                    rotate_left
                    · (intro w hSw; (try dsimp only at hSw); go_simp)
                      all_goals with_reducible rfl
                    go_simp
                    refine wpAnyH_take (i := 5) (oi := _) (v := ?_) rfl (by kernel_rfl) (by kernel_rfl) (by kernel_rfl) (fun _ _ _ h => h) (Or.inl ⟨by rfl, ?_⟩) (by assumption) ?_
                    rotate_left
                    · (intro w hSw; (try dsimp only at hSw); go_simp)
                      all_goals with_reducible rfl
                    go_simp
                    refine wpAnyH_take (i := 6) (oi := _) (v := ?_) rfl (by kernel_rfl) (by kernel_rfl) (by kernel_rfl) (fun _ _ _ h => h) (Or.inl ⟨by rfl, ?_⟩) (by assumption) ?_
                    rotate_left
                    · (intro w hSw; (try dsimp only at hSw); go_simp)
                      all_goals with_reducible rfl
                    go_simp
                    refine wpAnyH_take (i := 7) (oi := _) (v := ?_) rfl (by kernel_rfl) (by kernel_rfl) (by kernel_rfl) (fun _ _ _ h => h) (Or.inl ⟨by rfl, ?_⟩) (by assumption) ?_
                    rotate_left
                    · (intro w hSw; (try dsimp only at hSw); go_simp)
                      all_goals with_reducible rfl
                    go_simp
                    refine wpAnyH_take (i := 8) (oi := _) (v := ?_) rfl (by kernel_rfl) (by kernel_rfl) (by kernel_rfl) (fun _ _ _ h => h) (Or.inl ⟨by rfl, ?_⟩) (by assumption) ?_
                    rotate_left
                    · (intro w hSw; (try dsimp only at hSw); go_simp)
                      all_goals with_reducible rfl
                    go_simp
                    refine wpAnyH_take (i := 9) (oi := _) (v := ?_) rfl (by kernel_rfl) (by kernel_rfl) (by kernel_rfl) (fun _ _ _ h => h) (Or.inl ⟨by rfl, ?_⟩) (by assumption) ?_
                    rotate_left
                    · (intro w hSw; (try dsimp only at hSw); go_simp)
                      all_goals with_reducible rfl
                    go_simp
                    refine wpAnyH_take (i := 10) (oi := _) (v := ?_) rfl (by kernel_rfl) (by kernel_rfl) (by kernel_rfl) (fun _ _ _ h => h) (Or.inl ⟨by rfl, ?_⟩) (by assumption) ?_
                    rotate_left
                    · (intro w hSw; (try dsimp only at hSw); go_simp)
                      all_goals with_reducible rfl
                    go_simp
                    refine wpAnyH_take (i := 11) (oi := _) (v := ?_) rfl (by kernel_rfl) (by kernel_rfl) (by kernel_rfl) (fun _ _ _ h => h) (Or.inl ⟨by rfl, ?_⟩) (by assumption) ?_
                    rotate_left
                    · (intro w hSw; (try dsimp only at hSw); go_simp)
                      all_goals with_reducible rfl
                    go_simp
                    refine wpAnyH_take (i := 12) (oi := _) (v := ?_) rfl (by kernel_rfl) (by kernel_rfl) (by kernel_rfl) (fun _ _ _ h => h) (Or.inl ⟨by rfl, ?_⟩) (by assumption) ?_
                    rotate_left
                    · (intro w hSw; (try dsimp only at hSw); go_simp)
                      all_goals with_reducible rfl
                    go_simp
                    refine wpAnyH_take (i := 13) (oi := _) (v := ?_) rfl (by kernel_rfl) (by kernel_rfl) (by kernel_rfl) (fun _ _ _ h => h) (Or.inl ⟨by rfl, ?_⟩) (by assumption) ?_
                    rotate_left
                    · (intro w hSw; (try dsimp only at hSw); go_simp)
                      all_goals with_reducible rfl
                    go_simp
                    refine wpAnyH_take (i := 14) (oi := _) (v := ?_) rfl (by kernel_rfl) (by kernel_rfl) (by kernel_rfl) (fun _ _ _ h => h) (Or.inl ⟨by rfl, ?_⟩) (by assumption) ?_
                    rotate_left
                    · (intro w hSw; (try dsimp only at hSw); go_simp)
                      all_goals with_reducible rfl
                    go_simp
                    refine wpAnyH_take (i := 15) (oi := _) (v := ?_) rfl (by kernel_rfl) (by kernel_rfl) (by kernel_rfl) (fun _ _ _ h => h) (Or.inl ⟨by rfl, ?_⟩) (by assumption) ?_
                    rotate_left
                    · (intro w hSw; (try dsimp only at hSw); go_simp)
                      all_goals with_reducible rfl
                    go_simp
                    refine wpAnyH_ready (rs := [16]) (by kernel_rfl) (by simp) ?_
                    refine AllReadyH.cons (o := _) rfl (fun K hK => ?_) AllReadyH.nil
                    rw [if_pos (by rfl)]
                    go_simp
                    go_at_call 6
                    refine (room_any a1 xl c1 x _ (HR1.out.keep hHeld.2.2.2) HZ1.out (by omega)).mono ?_
                    rintro e w8' ⟨f8, cap8, rfl, h8, hb8⟩
                    have HB8' : Hid (Below wr.heap.size wr w8') := hHeld.2.2.2.trans (hb8.mono hHeld.2.2.2.size)
                    have k9 := HN.out _ _ _ _ h8
                    clear h8 hb8
                    go_simp
                    refine hK.out _ _ (HS.out _ HB8'.out) (fun hHeld => ?_)
                    clear hK K
                    try simp only [Act.put, List.setIfInBounds_toArray, List.set_cons_zero, List.set_cons_succ]
                    refine wpAnyH_ready (rs := [17]) (by kernel_rfl) (by simp) ?_
                    refine AllReadyH.cons (o := _) rfl (fun K hK => ?_) AllReadyH.nil
                    go_simp
                    refine hK.out _ _ (HS.out _ HB8'.out) (fun hHeld => ?_)
                    clear hK K
                    try simp only [Act.put, List.setIfInBounds_toArray, List.set_cons_zero, List.set_cons_succ]
                    refine wpAnyH_take (i := 18) (oi := _) (v := ?_) rfl (by kernel_rfl) (by kernel_rfl) (by kernel_rfl) (fun _ _ _ h => h) (Or.inl ⟨by rfl, ?_⟩) (by assumption) ?_
                    rotate_left
                    · (intro w hSw; (try dsimp only at hSw); go_simp)
                      all_goals with_reducible rfl
                    go_simp
                    refine wpAnyH_done (by kernel_rfl) ?_ _
                    go_wp2_with fail
                    go_meet
                    exact ⟨rfl, HB8'.out⟩
                  case rest =>
                    obtain ⟨rfl, HBc⟩ := hcut
                    obtain ⟨c1', _, _, _⟩ := HS.out _ HBc.out
                    have HO4 : Hid (wc.ownsRow 0 5 1 (.slice (some ⟨G k4, 0, none⟩) (xl + 3) (C k4)) (xl + 3) (B8 (c4 k4))) := by
                      have h := ownsRow_keepB (HI4.out.ns.blk k4 hlt).1 HBc.out
                      rw [HLk.out] at h
                      exact ownsRow_base h (Nat.zero_le _)
                    have HIc := hide (HI4.out.new HBc.out)
                    have HKc := hide (HKp.out.trans (Keep.ofBelow (S := fun j => w5.heap.size ≤ j ∧ j < w6.heap.size) HBc.out (Nat.le_refl _)) fun i h => .inl h)
                    have HOc : Hid (Rd wc aO nO lO) := HOd.out.keep (HB15.out.trans (HKc.out.below HB15.out.size fun j h => Nat.le_trans H515.out.2.2 h.1))
                    have HGk : Hid (w5.heap.size ≤ G k4 ∧ G k4 < w6.heap.size) := ⟨(HI4.out.ns.lt hlt).1, HI4.out.lt k4 hlt⟩
                    have hl3 : xl ≤ xl + 3 := by omega
                    clear HN HS HI4 hsl hCap
                    go_wp2_with (refine Ow.wp_copyF rfl _ _ rfl (G k4) xl (xl + 3) (C k4) (c4 k4) hl3 HO4.out aO nO cO lO HOc.out rfl rfl ?_; intro w11 x11 hr11 hk11; have HR11 := hide hr11; have HK11 := hide hk11; clear hr11 hk11)
                    go_roundw
                    case rel =>
                      refine ⟨k4 + 1, by go_num, by omega, _, HIc.out.put hlt HK11.out (l := lO.take xl ++ (c4 k4).drop (min nO xl)) (by rw [HLk.out]; exact HR11.out) ?_, fun i hi => ?_, HKc.out.trans HK11.out fun i h => ?_⟩
                      · intro d hd
                        rcases List.mem_append.1 hd with h | h
                        · exact HOc.out.2.2.1 d (List.mem_of_mem_take h)
                        · exact (HIc.out.ns.blk k4 hlt).2 d (List.mem_of_mem_drop h)
                      · rw [if_neg (by omega)]
                        exact HC4.out i (by omega)
                      · have h' : i = G k4 := h
                        rw [h']
                        exact .inl HGk.out
                    case measure => simp [intOf]; omega
                · have hlt' : ¬ (k4 : Int) < (nL : Int) := by omega
                  obtain ⟨c5, hI, _, hkp⟩ := HD.out
                  obtain ⟨w16, hw16⟩ : ∃ x, x = wr := ⟨_, rfl⟩
                  subst hw16
                  have HIm16 := hide hI
                  have HoA16 := hide (ownsRow_keepQ HoA15.out hkp fun j e h => by have h1 := (HoA15.out.lt j e).1; have h2 := H612.out; omega)
                  have HoB16 := hide (ownsRow_keepQ HoB15.out hkp fun j e h => by have h1 := (HoB15.out.lt j e).1; have h2 := H612.out; have h3 := H515.out.2.1; omega)
                  have HBo16 := hide (HBo15.out.stay hkp fun j h => h.1)
                  have HB16 := hide (HB15.out.trans (hkp.below HB15.out.size fun j h => Nat.le_trans H515.out.2.2 h.1))
                  have H516 : Hid (w5.heap.size ≤ w16.heap.size ∧ w15.heap.size ≤ w16.heap.size) := ⟨Nat.le_trans H515.out.1 hkp.size, hkp.size⟩
                  obtain ⟨Ms, hMs⟩ : ∃ Ms, nsL nL L c5 = Ms := ⟨_, rfl⟩
                  have HMs := hide hMs
                  have HRC16 : Hid (∀ W, Below w16.heap.size w16 W → RdC W (some ⟨gI, 0, none⟩) nL Ms) := fun W b => by rw [← hMs]; exact HRC.out W c5 (hI.new b)
                  have HnM : Hid (nL = Ms.length) := by rw [← hMs]; exact (nsL_len _ _ _).symm
                  have HMl : Hid (∀ l ∈ Ms, l.length ≤ 16777216) := by
                    rw [← hMs]
                    intro l hl
                    obtain ⟨i, hi⟩ := List.mem_iff_getElem?.1 hl
                    obtain ⟨h1, rfl⟩ := nsL_at hi
                    rw [List.length_take]
                    exact Nat.le_trans (Nat.min_le_left _ _) (HLl.out i h1)
                  clear hI hkp hMs HD hlt HoA15 HoB15 HBo15 HB15 hk4
                  go_wp2_with fail
                  clear hlt'
                  refine (RNewWriter_any 16777216 _).mono ?_
                  rintro e w17 ⟨rfl, hv17⟩
                  have HV17 := hide hv17
                  clear hv17
                  go_wp2_with fail
                  refine (RHead_any _ _ _ 9223372036854775807 nL hnL _ _ HV17.out).mono ?_
                  rintro e w18 ⟨rfl, hv18⟩
                  rw [HS0.out] at hv18
                  have HV18 := hide hv18
                  clear hv18 HV17
                  go_wp2_with fail
                  go_loopw [22] (fun iv wr => ∃ k : Nat, iv = .int .i64 (k : Nat) ∧ k ≤ nL ∧ Hid (VAt (fun k => w16.heap.size ≤ k) w16 w16.heap.size (putsW ((Ms.map (textW 9223372036854775807)).take k) s0) wr)) (fun iv _ => nL - (intOf iv).toNat)
                  case atStart => exact ⟨0, rfl, Nat.zero_le _, HV18.out⟩
                  case round =>
                    clear HV18
                    obtain ⟨k5, rfl, hk5, HD⟩ := hrel
                    by_cases hlt : k5 < nL
                    · have hlt' : (k5 : Int) < (nL : Int) + 1 := by omega
                      have hlt2 : (k5 : Int) < (nL : Int) := by omega
                      obtain ⟨x, hx⟩ : ∃ x, Ms[k5]? = some x := ⟨_, List.getElem?_eq_getElem (by have h := HnM.out; omega)⟩
                      obtain ⟨a1, c1, e1, r1, z1⟩ : ∃ a1 c1, wr.cell? ⟨gI, k5, none⟩ = some (.slice a1 x.length c1) ∧ Rd wr a1 x.length x ∧ (a1 = none → c1 = 0) := by
                        rcases (HRC16.out _ (HD.out.keep.below (Nat.le_refl _) fun i h => h)).2.2 with h0 | ⟨b1, o1, eb, hr⟩
                        · omega
                        · injection eb with eb
                          injection eb with eb1 eb2
                          subst eb1 eb2
                          obtain ⟨a1, c1, h1, h2, h3⟩ := hr k5 x hx
                          rw [Nat.zero_add] at h1
                          exact ⟨a1, c1, h1, h2, h3⟩
                      have hxl : x.length ≤ 16777216 := HMl.out x (List.mem_of_getElem? hx)
                      have HF : Hid (putsW ((Ms.map (textW 9223372036854775807)).take (k5 + 1)) s0 = putW (textW 9223372036854775807 x) (putsW ((Ms.map (textW 9223372036854775807)).take k5) s0)) := puts_succ _ k5 _ (by rw [List.getElem?_map, hx]; rfl) s0
                      have HCB := hide (RBlob_any (fun k => w16.heap.size ≤ k) w16 w16.heap.size 9223372036854775807 a1 x.length c1 x _ wr HD.out r1 z1 (by omega))
                      clear hx r1 z1 HD
                      generalize x.length = xl at *
                      go_wp2_with fail
                      refine (HCB.out).mono ?_
                      rintro e w19 ⟨rfl, hv19⟩
                      rw [← HF.out] at hv19
                      have HV19 := hide hv19
                      clear hv19 HCB
                      go_wp2_with fail
                      go_roundw
                      case rel => exact ⟨k5 + 1, by go_num, by omega, HV19.out⟩
                      case measure => simp [intOf]; omega
                    · have hlt' : ¬ (k5 : Int) < (nL : Int) := by omega
                      have HV19 : Hid (VAt (fun k => w16.heap.size ≤ k) w16 w16.heap.size (bsW 9223372036854775807 Ms) wr) := by
                        have h1 := HD.out
                        rw [List.take_of_length_le (by rw [List.length_map]; have := HnM.out; omega), ← HS0.out, HnM.out, ← bs_puts] at h1
                        exact h1
                      clear HD hlt hk5
                      go_wp2_with fail
                      clear hlt'
                      refine (RDone_any _ _ _ _ _ HV19.out).mono ?_
                      rintro e w20 ⟨vN, rfl, hoN, hb20, hfN⟩
                      obtain ⟨sC, hsC⟩ : ∃ sC, bsW 9223372036854775807 Ms = sC := ⟨_, rfl⟩
                      rw [hsC] at hoN hfN ⊢
                      have HsC := hide hsC
                      have HK20 : Hid (Below w16.heap.size w16 w20) := (HV19.out.keep.below (Nat.le_refl _) fun i h => h).trans (hb20.mono (HV19.out.keep.size))
                      have HoA20 := hide (ownsRow_keepB HoA16.out HK20.out)
                      have HoB20 := hide (ownsRow_keepB HoB16.out HK20.out)
                      have HBo20 := hide (HBo16.out.stay (Keep.ofBelow (S := fun _ => False) HK20.out (Nat.le_refl _)) fun _ h => h.elim)
                      have HB20 := hide (HB16.out.trans (HK20.out.mono HB16.out.size))
                      have HoN := hide hoN
                      have HfN := hide hfN
                      clear hoN hb20 hfN hsC HV19 HoA16 HoB16 HBo16 HB16
                      go_upto_region 42 with fail
                      have HBod := hide (HBo20.out.stay (Keep.drew (fun _ => False) w20) fun _ h => h.elim)
                      have HCA := hide (bytesB m8 mb fb 9223372036854775807 (some ⟨gI, 0, none⟩) nL capI Ms w20.drew (HRC16.out _ (HK20.out.trans ((Below.refl _ _).drew.mono HK20.out.size))) (fun l hl => by have := HMl.out l hl; omega) HBod.out.c HBod.out.b HBod.out.f)
                      rw [HsC.out] at HCA
                      unfold bL at HCA
                      go_region_held3 (fun W' : World => W'.cell? ⟨lb, 0, none⟩ = some (.func (.func 38) #[] #[.pointer (some ⟨mb, 0, none⟩), .pointer (some ⟨fb, 0, none⟩)]) ∧ W'.cell? ⟨lb, 1, none⟩ = some (.func (.func 43) #[] #[.pointer (some ⟨mb, 0, none⟩), .pointer (some ⟨fb, 0, none⟩)])) (first | (exact HSf.out _ HBo21.out) | (exact HSf.out _ HBod.out) | (exact HSf.out _ HBo20.out) | go_keep) (first
                        | (go_at_call 25; refine (HCA.out).mono ?_; rintro e w21 ⟨vC, rfl, hoC, hb21, hfC⟩; have HoC := hide hoC; have HfC := hide hfC; have HBo21 := hide (HBod.out.stay (Keep.ofBelow (S := fun _ => False) hb21 (Nat.le_refl _)) fun _ h => h.elim); have HBl21 : Hid (Below w20.heap.size w20 w21) := ((Below.refl _ _).drew).trans (hb21.mono (Nat.le_refl _)); clear hoC hb21 hfC))
                      have HAN : Hid (∃ aN cN, vN = .slice aN (told sC).length cN) := ownsRow_shape HoN.out
                      obtain ⟨aN, cN, hvN⟩ := HAN.out
                      obtain ⟨aC, cC, hvC⟩ := ownsRow_shape HoC.out
                      subst hvN hvC
                      have HoN21 := hide (ownsRow_keepB HoN.out HBl21.out)
                      have HoA21 := hide (ownsRow_keepB HoA20.out HBl21.out)
                      have HoB21 := hide (ownsRow_keepB HoB20.out HBl21.out)
                      have HoC21 : Hid (w21.ownsRow w20.heap.size 5 1 (.slice aC (told sC).length cC) (told sC).length (B8 (told sC))) := HoC.out
                      have HB21 := hide (HB20.out.trans (HBl21.out.mono HB20.out.size))
                      have hrd : ∀ {b : Nat} {a : Option Addr} {c : Nat}, w21.ownsRow b 5 1 (.slice a (told sC).length c) (told sC).length (B8 (told sC)) → Rd w21 a (told sC).length (told sC) := fun h => (Ow.rd_of (ownsRow_base h (Nat.zero_le _)) HfN.out.1 (by have := HfN.out.2; omega)).1
                      have HA4 := hide (Ow.alike_same aC aN (told sC).length cC (told sC).length cN (sC.fault : Nat) (told sC) w21 (hrd HoC21.out) (hrd HoN21.out))
                      have htn : tn = (told sB).length := by have h := HoA21.out.1; rw [B8_length] at h; omega
                      have HSz21 : Hid (w14.heap.size ≤ w20.heap.size ∧ w12.heap.size ≤ w13.heap.size ∧ w12.heap.size ≤ w20.heap.size ∧ w.heap.size ≤ w12.heap.size) := by
                        have h1 := H515.out
                        have h2 := H516.out
                        have h3 := HK20.out.size
                        have h4 := H1415.out
                        have h5 := H612.out
                        have h6 := H1314.out
                        have h7 := H512.out
                        refine ⟨by omega, h1.2.1, by omega, by omega⟩
                      have HBl : Hid (Bl w12.heap.size (w21.alloc (.cells #[.slice aA tn cA, .slice aB tn cB, .slice aC (told sC).length cC] 22)) [.slice aA tn cA, .slice aB tn cB, .slice aC (told sC).length cC] [told sB, told sB, told sC]) := by
                        have hs := HSz21.out
                        refine Bl.three ?_ ?_ ?_ ?_ ?_ ?_
                        · rw [← htn]; exact HoA21.out.alloc _
                        · rw [← htn]; exact ownsRow_base (HoB21.out.alloc _) hs.2.1
                        · exact ownsRow_base (HoC21.out.alloc _) hs.2.2.1
                        · intro b h1 h2
                          have h3 := HAlt.out b h1
                          have h4 := (HoB21.out.lt b h2).1
                          omega
                        · intro b h1 h2
                          have h3 := HAlt.out b h1
                          have h4 := (HoC21.out.lt b h2).1
                          have h5 := H1314.out
                          omega
                        · intro b h1 h2
                          have h3 := HBlt.out b h1
                          have h4 := (HoC21.out.lt b h2).1
                          omega
                      have HOw := hide (own_list (w21.alloc (.cells #[.slice aA tn cA, .slice aB tn cB, .slice aC (told sC).length cC] 22)) (row_three w21 _ _ _) HBl.out (fun l hl => by
                        have h1 := HfW.out.2
                        have h2 := HfN.out.2
                        simp only [List.mem_cons, List.not_mem_nil, or_false] at hl
                        rcases hl with rfl | rfl | rfl <;> omega) (by simp))
                      clear hrd htn HoA20 HoB20 HoC HoN HCA HBod HBo20 HBo21
                      generalize (told sC).length = cn at *
                      generalize (sC.fault : Int) = cf at *
                      go_wp2_with (first
                        | (go_at_call 18; refine (HOw.out).mono ?_; rintro e w22 ⟨rfl, hk22⟩; have HK22 := hide hk22; clear hk22)
                        | (go_at_call 26; refine (HA4.out).mono ?_; rintro e wq4 ⟨rfl, hw⟩; have hw' := hw.symm; clear hw; subst hw'))
                      have HB22 : Hid (Below w.heap.size w w22) := by
                        have hb : Below w21.heap.size w21 (w21.alloc (.cells #[.slice aA tn cA, .slice aB tn cB, .slice aC cn cC] 22)) := (Below.refl _ _).alloc (Nat.le_refl _) _
                        have hb' := HB21.out.trans (hb.mono HB21.out.size)
                        exact hb'.trans (HK22.out.below hb'.size fun i h => by have h1 := HBl.out.ge h; have h2 := HSz21.out; omega)
                      clear HOw HA4 HBl HK22 HoA21 HoB21 HoC21 HoN21 HB21
                      refine (room_any aR nR cR lR _ (HRd.out.keep HB22.out) HZ.out hn).mono ?_
                      rintro e w23 ⟨fF, capF, rfl, hF, hb23⟩
                      have HF23 := hide hF
                      have HB23 := hide (HB22.out.trans (hb23.mono HB22.out.size))
                      have HFge : Hid (w.heap.size ≤ fF ∧ fF < w23.heap.size) := ⟨Nat.le_trans HB22.out.size (hF.lt fF rfl).1, (hF.lt fF rfl).2⟩
                      have hcapF : nR + 3 ≤ capF := by
                        rcases hF.2 with ⟨e, _⟩ | ⟨g', cap', cur, e, _, _, h4, _⟩
                        · cases e
                        · injection e with _ _ e3; omega
                      have HBy3 : Hid (∀ d ∈ lR ++ [201, 202, 203], d < 256) := fun d hd => by
                        rcases List.mem_append.1 hd with h | h
                        · exact HRd.out.2.2.1 d h
                        · simp at h; omega
                      have HlR : Hid (lR.length = nR) := HRd.out.1.symm
                      have HRF : Hid (∀ W, Below w23.heap.size w23 W → Rd W (some ⟨fF, 0, none⟩) nR lR) := fun W b => by
                        have h := Ow.rd_pre (n := nR) (ownsRow_base (ownsRow_keepB hF b) (Nat.zero_le _)) HBy3.out (by omega) (by omega)
                        rw [List.take_left' HlR.out] at h
                        exact h
                      have hsl := slice_hi_run' (some ⟨fF, 0, none⟩) (nR + 3) capF nR (by omega)
                      clear hF hb23 HB22
                      go_wp2_with fail
                      refine (RNewReader_any aR nR cR lR _ (HRd.out.keep HB23.out) HZ.out).mono ?_
                      rintro e w24 ⟨qa, rfl, hq24, hg24, hb24⟩
                      have HQ24 := hide hq24
                      have HB24 := hide (HB23.out.trans (hb24.mono HB23.out.size))
                      have HK24 := hide hb24
                      have HGq : Hid (w23.heap.size ≤ qa) := hg24
                      clear hq24 hb24 hg24
                      have HQ25 := hide HQ24.out
                      have HRF24 : Hid (∀ W, Below w24.heap.size w24 W → Rd W (some ⟨fF, 0, none⟩) nR lR) := fun W b => HRF.out W (HK24.out.trans (b.mono HK24.out.size))
                      go_upto_region 47 with fail
                      go_region_held3 (fun W' : World => Below w24.heap.size w24 W') (first | (exact HK25b.out) | (exact HK25a.out) | (exact (Below.refl _ _).drew) | (exact Below.refl _ _) | go_keep) (first
                        | (go_at_call 27; refine (readT mT25 (some ⟨fF, 0, none⟩) nR capF lR _ (HRF24.out _ HK25a.out) (fun h => by cases h) HM25.out).mono ?_; rintro e w25b ⟨rfl, hb⟩; have HK25b : Hid (Below w24.heap.size w24 w25b) := HK25a.out.trans (hb.mono HK25a.out.size); clear hb)
                        | (go_at_call 28; have hh := ‹Below w24.heap.size w24 _›; refine (Texts_any 9223372036854775807 _).mono ?_; rintro e w25a ⟨mT25, rfl, hm, _, hb⟩; have HK25a : Hid (Below w24.heap.size w24 w25a) := hh.trans (hb.mono hh.size); have HM25 := hide hm; clear hm hb hh))
                      have HT25 := hide (RTextZ qa 9223372036854775807 (newR lR) w25b (HQ25.out.below HK25b.out))
                      obtain ⟨y25, hy25⟩ : ∃ y, str (okR (rowR 9223372036854775807) (newR lR) (rowV 9223372036854775807 (newR lR)) []) = y := ⟨_, rfl⟩
                      rw [hy25] at HT25
                      go_wp2_with fail
                      refine (HT25.out).mono ?_
                      rintro e w25c ⟨rfl, hq, hk⟩
                      have HE25 := hide (REnd_any qa _ w25c hq)
                      have HKc25 := hide hk
                      clear hq hk
                      go_wp2_with fail
                      refine (HE25.out).mono ?_
                      rintro e w25d ⟨rfl, hb⟩
                      have HKd25 := hide hb
                      clear hb
                      obtain ⟨z25, hz25⟩ : ∃ z, txE lR = z := ⟨_, rfl⟩
                      rw [show endR (takeR (rowR 9223372036854775807) (newR lR)) = z25 from hz25]
                      try rw [hz25]
                      obtain ⟨v25, hv25⟩ : ∃ v, str (txV lR) = v := ⟨_, rfl⟩
                      try rw [hv25]
                      have HY25 : Hid ((z25 = 0 → y25 = v25) ∧ (¬ z25 = 0 → v25 = ⟨#[]⟩)) := ⟨fun h => by rw [← hy25, ← hv25, tx_yes (hz25.trans h)], fun h => by rw [← hv25, tx_no (fun e => h (hz25.symm.trans e))]; rfl⟩
                      clear hy25 hz25 hv25 HT25 HE25
                      go_upto_if 250 with fail
                      go_cut [28] from 250 to 250 (fun y wx => wx = w25d ∧ y = .string v25)
                      case first => as_aux_lemma =>
                        by_cases hzz : z25 = 0
                        · have hzb : (((z25 : Nat) : Int) != 0) = false := by rw [hzz]; rfl
                          have hzc : (((z25 : Nat) : Int) == 0) = true := by rw [hzz]; rfl
                          have HE := hide (HY25.out.1 hzz)
                          clear hzz
                          go_wp2_with fail
                          go_meet
                          exact ⟨rfl, by rw [HE.out]⟩
                        · have hzb : (((z25 : Nat) : Int) != 0) = true := by simpa using hzz
                          have hzc : (((z25 : Nat) : Int) == 0) = false := by simpa using hzz
                          have HE := hide (HY25.out.2 hzz)
                          clear hzz
                          go_wp2_with fail
                          go_meet
                          exact ⟨rfl, by rw [HE.out]⟩
                      case rest =>
                      obtain ⟨hwc, rfl⟩ := hcut
                      subst hwc
                      obtain ⟨w25, hw25⟩ : ∃ x, x = wc := ⟨_, rfl⟩
                      subst hw25
                      have HKx : Hid (Keep (fun k => k = qa) w24 w25) := ((Keep.ofBelow HK25b.out (Nat.le_refl _)).more HKc25.out).more (Keep.ofBelow HKd25.out (Nat.le_refl _))
                      have HF25 := hide (ownsRow_keepQ (ownsRow_keepB HF23.out HK24.out) HKx.out fun j e h => by
                        have h1 : fF = j := by injection e
                        have h2 : j = qa := h
                        have h3 := HFge.out
                        have h4 := HGq.out
                        omega)
                      have HB25 := hide (HB24.out.trans (HKx.out.below HB24.out.size fun i h => by have h1 : i = qa := h; have h2 := HGq.out; have h3 := HFge.out; have h4 := HB23.out.size; omega))
                      clear HKx HQ24 HQ25 HK25a HK25b HKc25 HKd25 HM25 HRF HRF24 HF23 HB23 HB24 HK24 HY25
                      have hl3 : (lR ++ [201, 202, 203]).length = nR + 3 := by have := HlR.out; simp; omega
                      have HN : Hid (∀ (B : Nat) (w8 : World) (f8 cap8 : Nat), w8.ownsRow B 5 1 (.slice (some ⟨f8, 0, none⟩) (nR + 3) cap8) (nR + 3) (B8 (lR ++ [201, 202, 203])) → (convert 22 9 (.slice (some ⟨f8, 0, none⟩) (nR + 3) cap8)).run Try.prog w8 = .ok (.string (str (lR ++ [201, 202, 203]))) w8) := fun B w8 f8 cap8 h8 => by
                        have ho' : w8.ownsRow B 5 1 (.slice (some ⟨f8, 0, none⟩) (nR + 3) cap8) (lR ++ [201, 202, 203]).length (B8 (lR ++ [201, 202, 203])) := by rw [hl3]; exact h8
                        obtain ⟨a', c', e, hrd, _⟩ := ownsRow_rd ho' HBy3.out (by omega)
                        injection e with e1 e2 e3
                        subst e1
                        rw [hl3] at hrd
                        exact conv_rd hrd cap8
                      have HS : Hid (∀ W, Below w25.heap.size w25 W → (fun W' : World => (convert 22 9 (.slice (some ⟨fF, 0, none⟩) (nR + 3) capF)).run Try.prog W' = .ok (.string (str (lR ++ [201, 202, 203]))) W' ∧ Below w25.heap.size w25 W') W) := fun W b => ⟨HN.out _ _ _ _ (ownsRow_keepB HF25.out b), b⟩
                      have HRR : Hid (∀ W, Below w25.heap.size w25 W → Rd W aR nR lR) := fun W b => (HRd.out.keep HB25.out).keep b
                      obtain ⟨F, hFs⟩ : ∃ F, str (lR ++ [201, 202, 203]) = F := ⟨_, rfl⟩
                      rw [hFs] at HN HS
                      have HL3 := hide hl3
                      clear hFs hl3
                      go_upto_region 52 with fail
                      go_cut [266] from 251 to 266 (fun t wx => t = .bool false ∧ Hid (Below w25.heap.size w25 wx))
                      case first => as_aux_lemma =>
                        refine wp_region_held_drew (S := fun W' : World => (convert 22 9 (.slice (some ⟨fF, 0, none⟩) (nR + 3) capF)).run Try.prog W' = .ok (.string F) W' ∧ Below w25.heap.size w25 W') (by kernel_rfl) (HS.out _ (Below.refl _ _).drew) (fun hHeld => ?_)
                        refine wpAnyH_take (i := 0) (oi := _) (v := ?_) rfl (by kernel_rfl) (by kernel_rfl) (by kernel_rfl) (fun _ _ _ h => h) (Or.inl ⟨by rfl, ?_⟩) (by assumption) ?_
                        rotate_left
                        · (intro w hSw; (try dsimp only at hSw); go_simp)
                          all_goals with_reducible rfl
                        go_simp
                        refine wpAnyH_take (i := 1) (oi := _) (v := ?_) rfl (by kernel_rfl) (by kernel_rfl) (by kernel_rfl) (fun _ _ _ h => h) (Or.inl ⟨by rfl, ?_⟩) (by assumption) ?_
                        rotate_left
                        · (intro w hSw; (try dsimp only at hSw); go_simp)
                          all_goals with_reducible rfl
                        go_simp
                        refine wpAnyH_take (i := 2) (oi := _) (v := ?_) rfl (by kernel_rfl) (by kernel_rfl) (by kernel_rfl) (fun _ _ _ h => h) (Or.inl ⟨by rfl, ?_⟩) (by assumption) ?_
                        rotate_left
                        · (intro w hSw; (try dsimp only at hSw); go_simp)
                          all_goals with_reducible rfl
                        go_simp
                        refine wpAnyH_take (i := 3) (oi := _) (v := ?_) rfl (by kernel_rfl) (by kernel_rfl) (by kernel_rfl) (fun _ _ _ h => h) (Or.inl ⟨by rfl, ?_⟩) (by assumption) ?_
                        rotate_left
                        · (intro w hSw; (try dsimp only at hSw); go_simp)
                          all_goals with_reducible rfl
                        go_simp
                        refine wpAnyH_take (i := 4) (oi := _) (v := ?_) rfl (by kernel_rfl) (by kernel_rfl) (by kernel_rfl) (fun _ _ _ h => h) (Or.inl ⟨by rfl, ?_⟩) (by assumption) ?_
                        rotate_left
                        · (intro w hSw; (try dsimp only at hSw); go_simp)
                          all_goals with_reducible rfl
                        go_simp
                        refine wpAnyH_take (i := 5) (oi := _) (v := ?_) rfl (by kernel_rfl) (by kernel_rfl) (by kernel_rfl) (fun _ _ _ h => h) (Or.inl ⟨by rfl, ?_⟩) (by assumption) ?_
                        rotate_left
                        · (intro w hSw; (try dsimp only at hSw); go_simp)
                          all_goals with_reducible rfl
                        go_simp
                        refine wpAnyH_take (i := 6) (oi := _) (v := ?_) rfl (by kernel_rfl) (by kernel_rfl) (by kernel_rfl) (fun _ _ _ h => h) (Or.inl ⟨by rfl, ?_⟩) (by assumption) ?_
                        rotate_left
                        · (intro w hSw; (try dsimp only at hSw); go_simp)
                          all_goals with_reducible rfl
                        go_simp
                        refine wpAnyH_take (i := 7) (oi := _) (v := ?_) rfl (by kernel_rfl) (by kernel_rfl) (by kernel_rfl) (fun _ _ _ h => h) (Or.inl ⟨by rfl, ?_⟩) (by assumption) ?_
                        rotate_left
                        · (intro w hSw; (try dsimp only at hSw); go_simp)
                          all_goals with_reducible rfl
                        go_simp
                        refine wpAnyH_take (i := 8) (oi := _) (v := ?_) rfl (by kernel_rfl) (by kernel_rfl) (by kernel_rfl) (fun _ _ _ h => h) (Or.inl ⟨by rfl, ?_⟩) (by assumption) ?_
                        rotate_left
                        · (intro w hSw; (try dsimp only at hSw); go_simp)
                          all_goals with_reducible rfl
                        go_simp
                        refine wpAnyH_take (i := 9) (oi := _) (v := ?_) rfl (by kernel_rfl) (by kernel_rfl) (by kernel_rfl) (fun _ _ _ h => h) (Or.inl ⟨by rfl, ?_⟩) (by assumption) ?_
                        rotate_left
                        · (intro w hSw; (try dsimp only at hSw); go_simp)
                          all_goals with_reducible rfl
                        go_simp
                        refine wpAnyH_take (i := 10) (oi := _) (v := ?_) rfl (by kernel_rfl) (by kernel_rfl) (by kernel_rfl) (fun _ _ _ h => h) (Or.inl ⟨by rfl, ?_⟩) (by assumption) ?_
                        rotate_left
                        · (intro w hSw; (try dsimp only at hSw); go_simp)
                          all_goals with_reducible rfl
                        go_simp
                        refine wpAnyH_take (i := 11) (oi := _) (v := ?_) rfl (by kernel_rfl) (by kernel_rfl) (by kernel_rfl) (fun _ _ _ h => h) (Or.inl ⟨by rfl, ?_⟩) (by assumption) ?_
                        rotate_left
                        · (intro w hSw; (try dsimp only at hSw); go_simp)
                          all_goals with_reducible rfl
                        go_simp
                        refine wpAnyH_ready (rs := [12]) (by kernel_rfl) (by simp) ?_
                        refine AllReadyH.cons (o := _) rfl (fun K hK => ?_) AllReadyH.nil
                        rw [if_pos (by rfl)]
                        go_simp
                        go_at_call 6
                        refine (room_any aR nR cR lR _ (HRR.out _ hHeld.2) HZ.out hn).mono ?_
                        rintro e w8' ⟨f8, cap8, rfl, h8, hb8⟩
                        have HB8' : Hid (Below w25.heap.size w25 w8') := hHeld.2.trans (hb8.mono hHeld.2.size)
                        have k9 := HN.out _ _ _ _ h8
                        clear h8 hb8
                        go_simp
                        refine hK.out _ _ (HS.out _ HB8'.out) (fun hHeld => ?_)
                        clear hK K
                        try simp only [Act.put, List.setIfInBounds_toArray, List.set_cons_zero, List.set_cons_succ]
                        refine wpAnyH_ready (rs := [13]) (by kernel_rfl) (by simp) ?_
                        refine AllReadyH.cons (o := _) rfl (fun K hK => ?_) AllReadyH.nil
                        go_simp
                        refine hK.out _ _ (HS.out _ HB8'.out) (fun hHeld => ?_)
                        clear hK K
                        try simp only [Act.put, List.setIfInBounds_toArray, List.set_cons_zero, List.set_cons_succ]
                        refine wpAnyH_take (i := 14) (oi := _) (v := ?_) rfl (by kernel_rfl) (by kernel_rfl) (by kernel_rfl) (fun _ _ _ h => h) (Or.inl ⟨by rfl, ?_⟩) (by assumption) ?_
                        rotate_left
                        · (intro w hSw; (try dsimp only at hSw); go_simp)
                          all_goals with_reducible rfl
                        go_simp
                        refine wpAnyH_take (i := 15) (oi := _) (v := ?_) rfl (by kernel_rfl) (by kernel_rfl) (by kernel_rfl) (fun _ _ _ h => h) (Or.inl ⟨by rfl, ?_⟩) (by assumption) ?_
                        rotate_left
                        · (intro w hSw; (try dsimp only at hSw); go_simp)
                          all_goals with_reducible rfl
                        go_simp
                        refine wpAnyH_done (by kernel_rfl) ?_ _
                        go_wp2_with fail
                        go_meet
                        exact ⟨rfl, HB8'.out⟩
                      case rest =>
                      obtain ⟨rfl, HBc⟩ := hcut
                      obtain ⟨w26, hw26⟩ : ∃ x, x = wc := ⟨_, rfl⟩
                      subst hw26
                      have HF26 := hide (ownsRow_keepB HF25.out HBc.out)
                      have HB26 := hide (HB25.out.trans (HBc.out.mono HB25.out.size))
                      have HO26 : Hid (Rd w26 aO nO lO) := HOd.out.keep HB26.out
                      have HFB : Hid (w26.ownsRow 0 5 1 (.slice (some ⟨fF, 0, none⟩) (nR + 3) capF) (nR + 3) (B8 (lR ++ [201, 202, 203]))) := ownsRow_base HF26.out (Nat.zero_le _)
                      have hle3 : nR ≤ nR + 3 := by omega
                      clear HN HS HRR HF25 HB25 HBc
                      go_upto_region 55 with (refine Ow.wp_copyF rfl _ _ rfl fF nR (nR + 3) capF (lR ++ [201, 202, 203]) hle3 HFB.out aO nO cO lO HO26.out rfl rfl ?_; intro w27 x27 hr27 hk27; have HR27 := hide hr27; have HK27 := hide hk27; clear hr27 hk27)
                      obtain ⟨l2, hl2⟩ : ∃ l2, lO.take nR ++ (lR ++ [201, 202, 203]).drop (min nO nR) = l2 := ⟨_, rfl⟩
                      have HBy2 : Hid (∀ d ∈ l2, d < 256) := fun d hd => by
                        rw [← hl2] at hd
                        rcases List.mem_append.1 hd with h | h
                        · exact HO26.out.2.2.1 d (List.mem_of_mem_take h)
                        · exact HBy3.out d (List.mem_of_mem_drop h)
                      rw [hl2] at HR27
                      have HB27 := hide (HB26.out.trans (HK27.out.below HB26.out.size fun i h => by have h1 : i = fF := h; have h2 := HFge.out; omega))
                      have HRF2 : Hid (∀ W, Below w27.heap.size w27 W → Rd W (some ⟨fF, 0, none⟩) nR (l2.take nR)) := fun W b => Ow.rd_pre (n := nR) (ownsRow_keepB HR27.out b) HBy2.out (by omega) (by omega)
                      clear hl2 HF26 HB26 HO26 HFB HK27 hle3
                      obtain ⟨l4, hl4⟩ : ∃ l4, l2.take nR = l4 := ⟨_, rfl⟩
                      rw [hl4] at HRF2
                      clear hl4 HR27 HBy2
                      go_wp2_with fail
                      refine (RNewReader_any (some ⟨fF, 0, none⟩) nR capF l4 _ (HRF2.out _ (Below.refl _ _)) (fun h => by cases h)).mono ?_
                      rintro e w28 ⟨qb, rfl, hq28, hg28, hb28⟩
                      have HQ29 := hide hq28
                      have HB28 := hide (HB27.out.trans (hb28.mono HB27.out.size))
                      have HRF28 : Hid (∀ W, Below w28.heap.size w28 W → Rd W (some ⟨fF, 0, none⟩) nR l4) := fun W b => HRF2.out W (hb28.trans (b.mono hb28.size))
                      have HGq2 : Hid (w.heap.size ≤ qb) := Nat.le_trans HB27.out.size hg28
                      clear hq28 hb28 hg28 HRF2
                      go_upto_region 56 with fail
                      go_region_held3 (fun W' : World => Below w28.heap.size w28 W') (first | (exact HK29b.out) | (exact HK29a.out) | (exact (Below.refl _ _).drew) | (exact Below.refl _ _) | go_keep) (first
                        | (go_at_call 27; refine (readT mT29 (some ⟨fF, 0, none⟩) nR capF l4 _ (HRF28.out _ HK29a.out) (fun h => by cases h) HM29.out).mono ?_; rintro e w29b ⟨rfl, hb⟩; have HK29b : Hid (Below w28.heap.size w28 w29b) := HK29a.out.trans (hb.mono HK29a.out.size); clear hb)
                        | (go_at_call 28; have hh := ‹Below w28.heap.size w28 _›; refine (Texts_any 9223372036854775807 _).mono ?_; rintro e w29a ⟨mT29, rfl, hm, _, hb⟩; have HK29a : Hid (Below w28.heap.size w28 w29a) := hh.trans (hb.mono hh.size); have HM29 := hide hm; clear hm hb hh))
                      have HT29 := hide (RTextZ qb 9223372036854775807 (newR l4) w29b (HQ29.out.below HK29b.out))
                      obtain ⟨y29, hy29⟩ : ∃ y, str (okR (rowR 9223372036854775807) (newR l4) (rowV 9223372036854775807 (newR l4)) []) = y := ⟨_, rfl⟩
                      rw [hy29] at HT29
                      go_wp2_with fail
                      refine (HT29.out).mono ?_
                      rintro e w29c ⟨rfl, hq, hk⟩
                      have HE29 := hide (REnd_any qb _ w29c hq)
                      have HKc29 := hide hk
                      clear hq hk
                      go_wp2_with fail
                      refine (HE29.out).mono ?_
                      rintro e w29d ⟨rfl, hb⟩
                      have HKd29 := hide hb
                      clear hb
                      obtain ⟨z29, hz29⟩ : ∃ z, txE l4 = z := ⟨_, rfl⟩
                      rw [show endR (takeR (rowR 9223372036854775807) (newR l4)) = z29 from hz29]
                      try rw [hz29]
                      obtain ⟨v29, hv29⟩ : ∃ v, str (txV l4) = v := ⟨_, rfl⟩
                      try rw [hv29]
                      have HY29 : Hid ((z29 = 0 → y29 = v29) ∧ (¬ z29 = 0 → v29 = ⟨#[]⟩)) := ⟨fun h => by rw [← hy29, ← hv29, tx_yes (hz29.trans h)], fun h => by rw [← hv29, tx_no (fun e => h (hz29.symm.trans e))]; rfl⟩
                      clear hy29 hz29 hv29 HT29 HE29
                      go_upto_if 292 with fail
                      go_cut [28] from 292 to 292 (fun y wx => wx = w29d ∧ y = .string v29)
                      case first => as_aux_lemma =>
                        by_cases hzz : z29 = 0
                        · have hzb : (((z29 : Nat) : Int) != 0) = false := by rw [hzz]; rfl
                          have hzc : (((z29 : Nat) : Int) == 0) = true := by rw [hzz]; rfl
                          have HE := hide (HY29.out.1 hzz)
                          clear hzz
                          go_wp2_with fail
                          go_meet
                          exact ⟨rfl, by rw [HE.out]⟩
                        · have hzb : (((z29 : Nat) : Int) != 0) = true := by simpa using hzz
                          have hzc : (((z29 : Nat) : Int) == 0) = false := by simpa using hzz
                          have HE := hide (HY29.out.2 hzz)
                          clear hzz
                          go_wp2_with fail
                          go_meet
                          exact ⟨rfl, by rw [HE.out]⟩
                      case rest =>
                      obtain ⟨hwc, rfl⟩ := hcut
                      subst hwc
                      have HBe : Hid (Below w.heap.size w wc) := HB28.out.trans (((((Keep.ofBelow (S := fun k => k = qb) HK29b.out (Nat.le_refl _)).more HKc29.out).more (Keep.ofBelow HKd29.out (Nat.le_refl _))).below HB28.out.size fun i h => by have h1 : i = qb := h; have h2 := HGq2.out; omega))
                      have heq : (((z29 : Nat) : Int) == ((z29 : Nat) : Int)) = true := by simp
                      go_wp2_with fail
                      go_ret
                      exact ⟨rfl, HBe.out⟩
end Wm
end Go.Proofs.Yteaokgolnhdloaa
