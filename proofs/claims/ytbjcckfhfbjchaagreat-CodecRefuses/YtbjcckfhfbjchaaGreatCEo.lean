/- Codec: Check (written by ceo_gen.py). -/
import Derived.Test.YtbjcckfhfbjchaaGreatCEn
namespace Go.Proofs.YtbjcckfhfbjchaaGreat
namespace Cd
open Go.RowKit Go.Deep

/-- what Check tells -/
noncomputable def opChk (nm : ByteArray) (dl : Int) (x2 : Nat) (ky : ByteArray) (la wo tk : Int) (y2 : Nat) (ru lu ti : Int) (d : Ov) (xs : List Gr.No) : Nat :=
  if (prts d.ki).length = 0 ∨ oE (emps nm dl x2 ky la wo tk y2 ru lu ti) (prts d.ki) = false ∨ hldB d (prts d.ki) = false then 121 else if d.ki = 1 then (Gr.chk nm dl xs).2 else 0
theorem prts_mem {k : Int} : ∀ j ∈ prts k, j < 9 := fun j h => by
  obtain ⟨i, hi⟩ := List.mem_iff_getElem?.1 h
  exact prts_lt hi
theorem Prts.psm {w w' : World} {k : Int} {en : Ending} (h : Prts w k en w') : ∃ a, en = .returned (.slice a (prts k).length (prts k).length) ∧ Below w.heap.size w w' ∧ PsM w' a (prts k) := by
  obtain ⟨a, e, hb, hc⟩ := h
  exact ⟨a, e, hb, fun hn => ⟨_, (hc hn).1, (hc hn).2⟩⟩
theorem PsM.bel {w w' : World} {a : Option Addr} {ps : List Nat} (h : PsM w a ps) (hb : Below w.heap.size w w') : PsM w' a ps := h.keep (Keep.ofBelow (S := fun _ => False) hb (Nat.le_refl _)) (fun _ f => f.elim)
theorem opD_up {w w' : World} {ki : Int} {nm : ByteArray} {dl : Int} {x1 : Option Addr} {x2 x3 : Nat} {ky : ByteArray} {la wo tk : Int} {y1 : Option Addr} {y2 y3 : Nat} {ru lu ti : Int} {d : Ov} {xs : List Gr.No} (h : OpD w.heap.size w ki nm dl x1 x2 x3 ky la wo tk y1 y2 y3 ru lu ti d xs) (hb : Below w.heap.size w w') : OpD w'.heap.size w' ki nm dl x1 x2 x3 ky la wo tk y1 y2 y3 ru lu ti d xs := by
  have h2 := h.keep (Keep.ofBelow (S := fun _ => False) hb (Nat.le_refl _)) (fun _ _ f => f)
  exact ⟨h2.eki, h2.epl, h2.erdp.mono hb.size, h2.eky, h2.ekyn, h2.ela, h2.ewo, h2.etk, h2.ery, h2.eryn, h2.ery0, fun hn b off e => Nat.lt_of_lt_of_le (h2.eryD hn b off e) hb.size, h2.eru, h2.elu, h2.eti⟩
set_option maxRecDepth 10000 in
set_option maxHeartbeats 4000000 in
theorem Check_any (ki : Int) (nm : ByteArray) (dl : Int) (x1 : Option Addr) (x2 x3 : Nat) (ky : ByteArray) (la : Int) (wo : Int) (tk : Int) (y1 : Option Addr) (y2 y3 : Nat) (ru : Int) (lu : Int) (ti : Int) (d : Ov) (xs : List Gr.No) (w : World) (hd : OpD w.heap.size w ki nm dl x1 x2 x3 ky la wo tk y1 y2 y3 ru lu ti d xs) (hs : Gr.Sz nm xs) :
    Calls Tryz.prog 13 #[.agg #[.int .i64 ki, .string nm, .int .i64 dl, .slice x1 x2 x3, .string ky, .int .i64 la, .int .i64 wo, .int .i64 tk, .slice y1 y2 y3, .int .i64 ru, .int .u64 lu, .int .i64 ti]] w fun en w' => en = .returned (.int .i64 (opChk nm dl x2 ky la wo tk y2 ru lu ti d xs : Nat)) ∧ Below w.heap.size w w' := by
  have HB := hide ((Below.refl w.heap.size w).alloc (Nat.le_refl _) (.cells #[.int .i64 ki, .string nm, .int .i64 dl, .slice x1 x2 x3, .string ky, .int .i64 la, .int .i64 wo, .int .i64 tk, .slice y1 y2 y3, .int .i64 ru, .int .u64 lu, .int .i64 ti] 32))
  have HX := hide (heap_alloc_new w (.cells #[.int .i64 ki, .string nm, .int .i64 dl, .slice x1 x2 x3, .string ky, .int .i64 la, .int .i64 wo, .int .i64 tk, .slice y1 y2 y3, .int .i64 ru, .int .u64 lu, .int .i64 ti] 32))
  have HIO : Hid ((Tryz.prog.info? 32).map (·.size) = some (#[.int .i64 ki, .string nm, .int .i64 dl, .slice x1 x2 x3, .string ky, .int .i64 la, .int .i64 wo, .int .i64 tk, .slice y1 y2 y3, .int .i64 ru, .int .u64 lu, .int .i64 ti] : Array Value).size) := sizeOp
  have HOD := hide hd
  have HS := hide hs
  obtain ⟨r, hr⟩ : ∃ r, opChk nm dl x2 ky la wo tk y2 ru lu ti d xs = r := ⟨_, rfl⟩
  rw [hr]
  unfold opChk at hr
  rw [hd.eki] at hr
  have HRR := hide hr
  have d0 := cell_blk HX.out 0 (v := .int .i64 ki) rfl
  clear hd hs hr
  have HNL := hide (prts_len ki)
  have HPM := hide (@prts_mem ki)
  obtain ⟨ps, hps⟩ : ∃ ps, prts ki = ps := ⟨_, rfl⟩
  have HPS := hide hps
  clear hps
  rw [HPS.out] at HRR HNL HPM
  obtain ⟨n, hnn⟩ : ∃ n, ps.length = n := ⟨_, rfl⟩
  have HNN := hide hnn
  rw [hnn] at HRR
  clear hnn
  obtain ⟨bo, hbo⟩ : ∃ b, oE (emps nm dl x2 ky la wo tk y2 ru lu ti) ps = b := ⟨_, rfl⟩
  have HBO := hide hbo
  rw [hbo] at HRR
  clear hbo
  obtain ⟨bh, hbh⟩ : ∃ b, hldB d ps = b := ⟨_, rfl⟩
  have HBH := hide hbh
  rw [hbh] at HRR
  clear hbh
  go_enter Tryz.func13, Tryz.ntmps13
  go_upto_region 1 with fail
  generalize w.alloc (.cells #[.int .i64 ki, .string nm, .int .i64 dl, .slice x1 x2 x3, .string ky, .int .i64 la, .int .i64 wo, .int .i64 tk, .slice y1 y2 y3, .int .i64 ru, .int .u64 lu, .int .i64 ti] 32) = w1 at *
  go_upto_region 2 with (go_at_call 30; refine (partsOf_any ki _).mono ?_; intro e w2 hq; obtain ⟨a, rfl, hb2, hpm⟩ := hq.psm; rw [HPS.out] at hpm; rw [HPS.out, HNN.out]; clear hq; have HXX := hide (blkB HX.out hb2); have HB2 := hide (HB.out.trans (hb2.mono HB.out.size)); have HPP := hide hpm; clear hb2 hpm d0 HX HB)
  have HOE := hide (fun W (hp : PsM W a ps) => othersEmpty_any ki nm dl x1 x2 x3 ky la wo tk y1 y2 y3 ru lu ti a ps W hp HNL.out)
  have HHL := hide (fun W (hd : OpD W.heap.size W ki nm dl x1 x2 x3 ky la wo tk y1 y2 y3 ru lu ti d xs) (hp : PsM W a ps) => partsHold_any ki nm dl x1 x2 x3 ky la wo tk y1 y2 y3 ru lu ti d xs a ps W hd hp HNL.out HPM.out)
  rw [HNN.out, HBO.out] at HOE
  rw [HNN.out, HBH.out] at HHL
  by_cases hn0 : n = 0
  · have hb0 : (((n : Nat) : Int) == 0) = true := by simp [hn0]
    have HE : Hid (121 = r) := by show _ = _; rw [← HRR.out, if_pos (.inl hn0)]
    clear hn0
    go_wp2
    refine bodyPost_ret (results_tmp rfl _ _ _) rfl ?_
    rw [← HE.out]
    exact ⟨rfl, HB2.out⟩
  · have hb0 : (((n : Nat) : Int) == 0) = false := by simpa using hn0
    have HN0 := hide hn0
    clear hn0
    have HO2 := hide (HOE.out _ HPP.out)
    have d0 := cell_blk HXX.out 0 (v := .int .i64 ki) rfl
    have d1 := cell_blk HXX.out 1 (v := .string nm) rfl
    have d2 := cell_blk HXX.out 2 (v := .int .i64 dl) rfl
    have d3 := cell_blk HXX.out 3 (v := .slice x1 x2 x3) rfl
    have d4 := cell_blk HXX.out 4 (v := .string ky) rfl
    have d5 := cell_blk HXX.out 5 (v := .int .i64 la) rfl
    have d6 := cell_blk HXX.out 6 (v := .int .i64 wo) rfl
    have d7 := cell_blk HXX.out 7 (v := .int .i64 tk) rfl
    have d8 := cell_blk HXX.out 8 (v := .slice y1 y2 y3) rfl
    have d9 := cell_blk HXX.out 9 (v := .int .i64 ru) rfl
    have d10 := cell_blk HXX.out 10 (v := .int .u64 lu) rfl
    have d11 := cell_blk HXX.out 11 (v := .int .i64 ti) rfl
    cases bo with
    | false =>
      have HE : Hid (121 = r) := by show _ = _; rw [← HRR.out, if_pos (.inr (.inl rfl))]
      go_wp2_with (first
        | (go_at_call 31; refine HO2.out.mono ?_; rintro e w3 ⟨rfl, hb3⟩; have HB3 := hide (HB2.out.trans (hb3.mono HB2.out.size)); clear hb3))
      refine bodyPost_ret (results_tmp rfl _ _ _) rfl ?_
      rw [← HE.out]
      exact ⟨rfl, HB3.out⟩
    | true =>
      have HOK : Hid (∀ w3, Below w2.heap.size w2 w3 → OpD w3.heap.size w3 ki nm dl x1 x2 x3 ky la wo tk y1 y2 y3 ru lu ti d xs) := fun w3 hb3 => opD_up HOD.out (HB2.out.trans (hb3.mono HB2.out.size))
      cases bh with
      | false =>
        have HE : Hid (121 = r) := by show _ = _; rw [← HRR.out, if_pos (.inr (.inr rfl))]
        go_wp2_with (first
          | (go_at_call 32; refine HPL.out.mono ?_; rintro e w4 ⟨rfl, hb4⟩; have HB4 := hide (HB3.out.trans (hb4.mono HB3.out.size)); clear hb4)
          | (go_at_call 31; refine HO2.out.mono ?_; rintro e w3 ⟨rfl, hb3⟩; have HB3 := hide (HB2.out.trans (hb3.mono HB2.out.size)); have HPL := hide (HHL.out w3 (HOK.out w3 hb3) (HPP.out.bel hb3)); have HXX2 := hide HXX.out; clear HXX; have HXX := hide (blkB HXX2.out hb3); clear d0 d1 d2 d3 d4 d5 d6 d7 d8 d9 d10 d11; have d0 := cell_blk HXX.out 0 (v := .int .i64 ki) rfl; have d1 := cell_blk HXX.out 1 (v := .string nm) rfl; have d2 := cell_blk HXX.out 2 (v := .int .i64 dl) rfl; have d3 := cell_blk HXX.out 3 (v := .slice x1 x2 x3) rfl; have d4 := cell_blk HXX.out 4 (v := .string ky) rfl; have d5 := cell_blk HXX.out 5 (v := .int .i64 la) rfl; have d6 := cell_blk HXX.out 6 (v := .int .i64 wo) rfl; have d7 := cell_blk HXX.out 7 (v := .int .i64 tk) rfl; have d8 := cell_blk HXX.out 8 (v := .slice y1 y2 y3) rfl; have d9 := cell_blk HXX.out 9 (v := .int .i64 ru) rfl; have d10 := cell_blk HXX.out 10 (v := .int .u64 lu) rfl; have d11 := cell_blk HXX.out 11 (v := .int .i64 ti) rfl; clear hb3 HXX2 HO2))
        refine bodyPost_ret (results_tmp rfl _ _ _) rfl ?_
        rw [← HE.out]
        exact ⟨rfl, HB4.out⟩
      | true =>
        have HE : Hid ((if ki = 1 then (Gr.chk nm dl xs).2 else 0) = r) := by show _ = _; rw [← HRR.out, if_neg (c := n = 0 ∨ true = false ∨ true = false) (fun h => h.elim HN0.out fun h => h.elim (fun h => by cases h) (fun h => by cases h))]
        go_upto_region 4 with (first
          | (go_at_call 32; refine HPL.out.mono ?_; rintro e w4 ⟨rfl, hb4⟩; have HB4 := hide (HB3.out.trans (hb4.mono HB3.out.size)); have HX4 := hide (blkB HXX.out hb4); have HD4 := hide (opD_up HOD.out HB4.out); clear d0 d1 d2 d3 d4 d5 d6 d7 d8 d9 d10 d11; clear hb4 HXX HPL)
          | (go_at_call 31; refine HO2.out.mono ?_; rintro e w3 ⟨rfl, hb3⟩; have HB3 := hide (HB2.out.trans (hb3.mono HB2.out.size)); have HPL := hide (HHL.out w3 (HOK.out w3 hb3) (HPP.out.bel hb3)); have HXX2 := hide HXX.out; clear HXX; have HXX := hide (blkB HXX2.out hb3); clear d0 d1 d2 d3 d4 d5 d6 d7 d8 d9 d10 d11; have d0 := cell_blk HXX.out 0 (v := .int .i64 ki) rfl; have d1 := cell_blk HXX.out 1 (v := .string nm) rfl; have d2 := cell_blk HXX.out 2 (v := .int .i64 dl) rfl; have d3 := cell_blk HXX.out 3 (v := .slice x1 x2 x3) rfl; have d4 := cell_blk HXX.out 4 (v := .string ky) rfl; have d5 := cell_blk HXX.out 5 (v := .int .i64 la) rfl; have d6 := cell_blk HXX.out 6 (v := .int .i64 wo) rfl; have d7 := cell_blk HXX.out 7 (v := .int .i64 tk) rfl; have d8 := cell_blk HXX.out 8 (v := .slice y1 y2 y3) rfl; have d9 := cell_blk HXX.out 9 (v := .int .i64 ru) rfl; have d10 := cell_blk HXX.out 10 (v := .int .u64 lu) rfl; have d11 := cell_blk HXX.out 11 (v := .int .i64 ti) rfl; clear hb3 HXX2 HO2))
        have d0 := cell_blk HX4.out 0 (v := .int .i64 ki) rfl
        have d1 := cell_blk HX4.out 1 (v := .string nm) rfl
        have d2 := cell_blk HX4.out 2 (v := .int .i64 dl) rfl
        have d3 := cell_blk HX4.out 3 (v := .slice x1 x2 x3) rfl
        by_cases hk1 : ki = 1
        · have hkb : (ki == 1) = true := by simp [hk1]
          rw [if_pos hk1] at HE
          clear hk1
          have CK := hide (Gr.check_any nm dl (x1, x2, x3) xs _ _ HD4.out.erdp (Nat.le_refl _) HS.out)
          go_wp2_with (go_at_call 27; refine CK.out.mono ?_; rintro e w5 ⟨rfl, k1⟩; have HB5 := hide (HB4.out.trans (k1.below HB4.out.size (fun _ f => f.elim))); clear k1)
          refine bodyPost_ret (results_tmp rfl _ _ _) rfl ?_
          rw [← HE.out]
          exact ⟨rfl, HB5.out⟩
        · have hkb : (ki == 1) = false := by simpa using hk1
          rw [if_neg hk1] at HE
          clear hk1
          go_wp2
          refine bodyPost_ret (results_tmp rfl _ _ _) rfl ?_
          rw [← HE.out]
          exact ⟨rfl, HB4.out⟩
end Cd
end Go.Proofs.YtbjcckfhfbjchaaGreat
