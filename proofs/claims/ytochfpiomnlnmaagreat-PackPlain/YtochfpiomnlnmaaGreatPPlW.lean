/- PackPlain: the walk (written by pl_gen.py). -/
import Derived.Test.YtochfpiomnlnmaaGreatPPlR
import Derived.Test.YtochfpiomnlnmaaGreatPRefW3
import Derived.Deep.RegionHeld3
import Derived.Deep.CutRange
namespace Go.Proofs.YtochfpiomnlnmaaGreat
open Go.ChangeShapes Go.WideShapes Go.ChangeAt Go.RowKit Go.Joins Go.Deep

theorem alike_yes (a b : Option Addr) (n c m d : Nat) (e : Int) (l : List Nat) (w : World) (h1 : Rd w a n l) (h2 : Rd w b m l) :
    Calls Tryz.prog 10 #[.slice a n c, .int .i64 e, .slice b m d, .int .i64 e] w fun en w' => en = .returned (.bool true) ∧ w' = w := by
  have k1 := conv_rd h1 c
  have k2 := conv_rd h2 d
  clear h1 h2
  generalize str l = S at *
  go_enter Tryz.func10, Tryz.ntmps10
  go_wp2
  go_ret
  exact ⟨by simp, rfl⟩
theorem rd_lt {w : World} {a : Option Addr} {n : Nat} {l : List Nat} (h : Rd w a n l) (hn : n ≠ 0) {b off : Nat} (e : a = some ⟨b, off, none⟩) : b < w.heap.size := by
  rcases h.2.2.2 with h0 | ⟨b', off', e', hc⟩
  · exact absurd h0 hn
  · rw [e] at e'
    cases e'
    exact World.block_lt_of_cell? _ _ (hc 0 (by omega))
set_option maxRecDepth 100000 in
set_option maxHeartbeats 4000000 in
theorem plain_walk (most rm : Int) (X : Nat) (hX : X < 18446744073709551616) (F : Bool) (st : ByteArray) (hst : st.size ≤ 140737488351232) (aB : Option Addr) (nB cB : Nat) (lB : List Nat) (aR : Option Addr) (nR cR : Nat) (l : List Nat) (w : World) (hB : Rd w aB nB lB) (hB0 : aB = none → cB = 0) (hBn : nB ≤ 140737488351232) (hR : Rd w aR nR l) (h0 : aR = none → cR = 0) :
    Calls Tryz.prog 3 #[.agg #[.int .i64 most, .int .i64 rm, .int .u64 (X : Nat), .bool F, .string st, .slice aB nB cB, .slice aR nR cR]] w fun en w' => en = .returned (.bool true) ∧ Below w.heap.size w w' := by
  have b0 : Below w.heap.size w (w.alloc (.cells #[.int .i64 most, .int .i64 rm, .int .u64 (X : Nat), .bool F, .string st, .slice aB nB cB, .slice aR nR cR] 25)) := (Below.refl _ w).alloc (Nat.le_refl _) _
  have HXa := hide (heap_alloc_new w (.cells #[.int .i64 most, .int .i64 rm, .int .u64 (X : Nat), .bool F, .string st, .slice aB nB cB, .slice aR nR cR] 25))
  have HRa := hide (hR.keep b0)
  have HTa := hide (hB.keep b0)
  have HBa := hide b0
  have H0 := hide h0
  have HB0 := hide hB0
  clear hR h0 b0 hB hB0
  go_enter Tryz.func3, Tryz.ntmps3
  go_upto_region 1 with fail
  generalize w.alloc (.cells #[.int .i64 most, .int .i64 rm, .int .u64 (X : Nat), .bool F, .string st, .slice aB nB cB, .slice aR nR cR] 25) = w0 at *
  generalize hg : w.heap.size = g at *
  go_wp2_with fail
  refine (known_any _).mono ?_
  rintro e w1 ⟨rfl, hb⟩
  have HX := hide (pblk HXa.out hb)
  have HR := hide (HRa.out.keep hb)
  have HT := hide (HTa.out.keep hb)
  have HB := hide (HBa.out.trans (hb.mono (hg ▸ HBa.out.size)))
  clear HXa HRa HTa HBa hb
  generalize hs2 : (wordW X) ⟨[], room rm, 0⟩ = sW
  have HS2 := hide hs2
  clear hs2
  go_upto_region 4 with fail
  have HS : Hid (∀ W, Below w1.heap.size w1 W → (fun W => W.cell? ⟨g, 1, none⟩ = some (.int .i64 rm) ∧ W.cell? ⟨g, 2, none⟩ = some (.int .u64 (X : Nat)) ∧ Below w1.heap.size w1 W) W) := fun W k => ⟨(cells7 (pblk HX.out k)).2.1, (cells7 (pblk HX.out k)).2.2.1, k⟩
  go_region_held3 (fun W => W.cell? ⟨g, 1, none⟩ = some (.int .i64 rm) ∧ W.cell? ⟨g, 2, none⟩ = some (.int .u64 (X : Nat)) ∧ Below w1.heap.size w1 W) (first | (exact HS.out _ (Below.refl _ _)) | (exact HS.out _ (Below.refl _ _).drew) | (exact HS.out _ HK9.out) | (exact HS.out _ HK8.out) | go_keep) (first
    | (go_at_call 5; refine (BytesW _ _ _ _ _ (wordW X) rm sW HS2.out _ (putsWord _ _ X hX) ent_putWord).mono ?_; rintro e w9 ⟨v, rfl, ho, hb9, hfn⟩; have HK9 : Hid (Below w1.heap.size w1 w9) := HK8.out.trans (hb9.mono HK8.out.size); have HO := hide ho; have HFN := hide hfn; clear hb9 ho hfn)
    | (go_at_call 6; have hh8 := (‹_ ∧ _ ∧ Below w1.heap.size w1 _›).2.2; refine (Words_any _).mono ?_; rintro e w8 ⟨rfl, hb8⟩; have HK8 : Hid (Below w1.heap.size w1 w8) := hh8.trans (hb8.mono hh8.size); clear hh8 hb8))
  have HK := hide HK9.out
  clear HK8 HK9 HS
  obtain ⟨a1, c1, hv1, hr1, _⟩ := ownsRow_rd HO.out HFN.out.1 (by have := HFN.out.2; omega)
  subst hv1
  have HA := hide hr1
  have HX3 := hide (pblk HX.out HK.out)
  have HR3 := hide (HR.out.keep HK.out)
  have HT3 := hide (HT.out.keep HK.out)
  have HB3 := hide (HB.out.trans (HK.out.mono (hg ▸ HB.out.size)))
  clear HX HR HT HB HK hr1 HO HFN
  generalize (told sW).length = tl at *
  generalize hwb : w9 = wb at *
  clear hwb
  obtain ⟨x0, x1, x2, x3, x4, x5, x6⟩ := cells7 HX3.out
  go_wp2_with fail
  refine (RNewWriter_any rm _).mono ?_
  rintro e w4 ⟨rfl, h4⟩
  have hb4 := h4.keep.below (Nat.le_refl wb.heap.size) (fun i hi => hi)
  have H4 := hide h4
  clear h4 x0 x1 x2 x3 x4 x5 x6
  obtain ⟨x0, x1, x2, x3, x4, x5, x6⟩ := cells7 (pblk HX3.out hb4)
  go_wp2_with fail
  refine (RWord_any _ wb _ X hX _ _ H4.out).mono ?_
  rintro e w5 ⟨rfl, h5⟩
  rw [putW_zero rfl, HS2.out] at h5
  have H5 := hide h5
  clear h5 H4 hb4 x0 x1 x2 x3 x4 x5 x6
  go_wp2_with fail
  refine (RDone_any _ wb _ sW _ H5.out).mono ?_
  rintro e w6 ⟨v, rfl, ho, hb, hfn⟩
  obtain ⟨a2, c2, hv2, hr2, _⟩ := ownsRow_rd ho hfn.1 (by have := hfn.2; omega)
  subst hv2
  have hb6 := further (H5.out.keep.below (Nat.le_refl wb.heap.size) (fun i hi => hi)) hb
  have HA6 := hide (HA.out.keep hb6)
  have HC := hide hr2
  have HX6 := hide (pblk HX3.out hb6)
  have HR6 := hide (HR3.out.keep hb6)
  have HT6 := hide (HT3.out.keep hb6)
  have HB6 := hide (HB3.out.trans (hb6.mono (hg ▸ HB3.out.size)))
  clear HX3 HR3 HT3 HB3 HA H5 hb hb6 ho hfn hr2
  generalize (told sW).length = tl2 at *
  go_wp2_with fail
  refine (alike_yes a1 a2 tl c1 tl2 c2 _ _ _ HA6.out HC.out).mono ?_
  rintro e w7 ⟨rfl, rfl⟩
  have HX := hide HX6.out
  have HR := hide HR6.out
  have HT := hide HT6.out
  have HB := hide HB6.out
  clear HX6 HR6 HT6 HB6 HA6 HC HS2
  go_upto_region 9 with fail
  generalize hwz : w7 = zW at *
  clear hwz
  generalize hs2 : (flagW F) ⟨[], room rm, 0⟩ = sF
  have HS2 := hide hs2
  clear hs2
  go_upto_region 9 with fail
  have HS : Hid (∀ W, Below zW.heap.size zW W → (fun W => W.cell? ⟨g, 1, none⟩ = some (.int .i64 rm) ∧ W.cell? ⟨g, 3, none⟩ = some (.bool F) ∧ Below zW.heap.size zW W) W) := fun W k => ⟨(cells7 (pblk HX.out k)).2.1, (cells7 (pblk HX.out k)).2.2.2.1, k⟩
  go_region_held3 (fun W => W.cell? ⟨g, 1, none⟩ = some (.int .i64 rm) ∧ W.cell? ⟨g, 3, none⟩ = some (.bool F) ∧ Below zW.heap.size zW W) (first | (exact HS.out _ (Below.refl _ _)) | (exact HS.out _ (Below.refl _ _).drew) | (exact HS.out _ HK9.out) | (exact HS.out _ HK8.out) | go_keep) (first
    | (go_at_call 11; refine (BytesF _ _ _ _ _ (flagW F) rm sF HS2.out _ (putsFlag _ _ F) ent_putFlag).mono ?_; rintro e w9 ⟨v, rfl, ho, hb9, hfn⟩; have HK9 : Hid (Below zW.heap.size zW w9) := HK8.out.trans (hb9.mono HK8.out.size); have HO := hide ho; have HFN := hide hfn; clear hb9 ho hfn)
    | (go_at_call 12; have hh8 := (‹_ ∧ _ ∧ Below zW.heap.size zW _›).2.2; refine (Flags_any _).mono ?_; rintro e w8 ⟨rfl, hb8⟩; have HK8 : Hid (Below zW.heap.size zW w8) := hh8.trans (hb8.mono hh8.size); clear hh8 hb8))
  have HK := hide HK9.out
  clear HK8 HK9 HS
  obtain ⟨a1, c1, hv1, hr1, _⟩ := ownsRow_rd HO.out HFN.out.1 (by have := HFN.out.2; omega)
  subst hv1
  have HA := hide hr1
  have HX3 := hide (pblk HX.out HK.out)
  have HR3 := hide (HR.out.keep HK.out)
  have HT3 := hide (HT.out.keep HK.out)
  have HB3 := hide (HB.out.trans (HK.out.mono (hg ▸ HB.out.size)))
  clear HX HR HT HB HK hr1 HO HFN
  generalize (told sF).length = tl at *
  generalize hwb : w9 = wb at *
  clear hwb
  obtain ⟨x0, x1, x2, x3, x4, x5, x6⟩ := cells7 HX3.out
  go_wp2_with fail
  refine (RNewWriter_any rm _).mono ?_
  rintro e w4 ⟨rfl, h4⟩
  have hb4 := h4.keep.below (Nat.le_refl wb.heap.size) (fun i hi => hi)
  have H4 := hide h4
  clear h4 x0 x1 x2 x3 x4 x5 x6
  obtain ⟨x0, x1, x2, x3, x4, x5, x6⟩ := cells7 (pblk HX3.out hb4)
  go_wp2_with fail
  refine (RFlag_any _ wb _ F _ _ H4.out).mono ?_
  rintro e w5 ⟨rfl, h5⟩
  rw [putW_zero rfl, HS2.out] at h5
  have H5 := hide h5
  clear h5 H4 hb4 x0 x1 x2 x3 x4 x5 x6
  go_wp2_with fail
  refine (RDone_any _ wb _ sF _ H5.out).mono ?_
  rintro e w6 ⟨v, rfl, ho, hb, hfn⟩
  obtain ⟨a2, c2, hv2, hr2, _⟩ := ownsRow_rd ho hfn.1 (by have := hfn.2; omega)
  subst hv2
  have hb6 := further (H5.out.keep.below (Nat.le_refl wb.heap.size) (fun i hi => hi)) hb
  have HA6 := hide (HA.out.keep hb6)
  have HC := hide hr2
  have HX6 := hide (pblk HX3.out hb6)
  have HR6 := hide (HR3.out.keep hb6)
  have HT6 := hide (HT3.out.keep hb6)
  have HB6 := hide (HB3.out.trans (hb6.mono (hg ▸ HB3.out.size)))
  clear HX3 HR3 HT3 HB3 HA H5 hb hb6 ho hfn hr2
  generalize (told sF).length = tl2 at *
  go_wp2_with fail
  refine (alike_yes a1 a2 tl c1 tl2 c2 _ _ _ HA6.out HC.out).mono ?_
  rintro e w7 ⟨rfl, rfl⟩
  have HX := hide HX6.out
  have HR := hide HR6.out
  have HT := hide HT6.out
  have HB := hide HB6.out
  clear HX6 HR6 HT6 HB6 HA6 HC HS2
  go_upto_region 14 with fail
  generalize hwz : w7 = zF at *
  clear hwz
  generalize hs2 : (textW most (sb st)) ⟨[], room rm, 0⟩ = sS
  have HS2 := hide hs2
  clear hs2
  go_upto_region 14 with fail
  have HS : Hid (∀ W, Below zF.heap.size zF W → (fun W => W.cell? ⟨g, 0, none⟩ = some (.int .i64 most) ∧ W.cell? ⟨g, 1, none⟩ = some (.int .i64 rm) ∧ W.cell? ⟨g, 4, none⟩ = some (.string st) ∧ Below zF.heap.size zF W) W) := fun W k => ⟨(cells7 (pblk HX.out k)).1, (cells7 (pblk HX.out k)).2.1, (cells7 (pblk HX.out k)).2.2.2.2.1, k⟩
  go_region_held3 (fun W => W.cell? ⟨g, 0, none⟩ = some (.int .i64 most) ∧ W.cell? ⟨g, 1, none⟩ = some (.int .i64 rm) ∧ W.cell? ⟨g, 4, none⟩ = some (.string st) ∧ Below zF.heap.size zF W) (first | (exact HS.out _ (Below.refl _ _)) | (exact HS.out _ (Below.refl _ _).drew) | (exact HS.out _ HK9.out) | (exact HS.out _ HK8.out) | go_keep) (first
    | (go_at_call 14; refine (BytesS _ _ _ _ _ (textW most (sb st)) rm sS HS2.out _ (putsText _ _ mb most st hst HM8.out (numForm_lt HM8.out)) ent_putText).mono ?_; rintro e w9 ⟨v, rfl, ho, hb9, hfn⟩; have HK9 : Hid (Below zF.heap.size zF w9) := HK8.out.trans (hb9.mono HK8.out.size); have HO := hide ho; have HFN := hide hfn; clear hb9 ho hfn)
    | (go_at_call 15; have hh8 := (‹_ ∧ _ ∧ _ ∧ Below zF.heap.size zF _›).2.2.2; refine (Texts_any most _).mono ?_; rintro e w8 ⟨mb, rfl, hm, _, hb8⟩; have HK8 : Hid (Below zF.heap.size zF w8) := hh8.trans (hb8.mono hh8.size); have HM8 := hide hm; clear hm; clear hh8 hb8))
  have HK := hide HK9.out
  clear HK8 HK9 HS HM8
  obtain ⟨a1, c1, hv1, hr1, _⟩ := ownsRow_rd HO.out HFN.out.1 (by have := HFN.out.2; omega)
  subst hv1
  have HA := hide hr1
  have HX3 := hide (pblk HX.out HK.out)
  have HR3 := hide (HR.out.keep HK.out)
  have HT3 := hide (HT.out.keep HK.out)
  have HB3 := hide (HB.out.trans (HK.out.mono (hg ▸ HB.out.size)))
  clear HX HR HT HB HK hr1 HO HFN
  generalize (told sS).length = tl at *
  generalize hwb : w9 = wb at *
  clear hwb
  obtain ⟨x0, x1, x2, x3, x4, x5, x6⟩ := cells7 HX3.out
  go_wp2_with fail
  refine (RNewWriter_any rm _).mono ?_
  rintro e w4 ⟨rfl, h4⟩
  have hb4 := h4.keep.below (Nat.le_refl wb.heap.size) (fun i hi => hi)
  have H4 := hide h4
  clear h4 x0 x1 x2 x3 x4 x5 x6
  obtain ⟨x0, x1, x2, x3, x4, x5, x6⟩ := cells7 (pblk HX3.out hb4)
  go_wp2_with fail
  refine (RText_any _ wb _ most st hst _ _ H4.out).mono ?_
  rintro e w5 ⟨rfl, h5⟩
  rw [putW_zero rfl, HS2.out] at h5
  have H5 := hide h5
  clear h5 H4 hb4 x0 x1 x2 x3 x4 x5 x6
  go_wp2_with fail
  refine (RDone_any _ wb _ sS _ H5.out).mono ?_
  rintro e w6 ⟨v, rfl, ho, hb, hfn⟩
  obtain ⟨a2, c2, hv2, hr2, _⟩ := ownsRow_rd ho hfn.1 (by have := hfn.2; omega)
  subst hv2
  have hb6 := further (H5.out.keep.below (Nat.le_refl wb.heap.size) (fun i hi => hi)) hb
  have HA6 := hide (HA.out.keep hb6)
  have HC := hide hr2
  have HX6 := hide (pblk HX3.out hb6)
  have HR6 := hide (HR3.out.keep hb6)
  have HT6 := hide (HT3.out.keep hb6)
  have HB6 := hide (HB3.out.trans (hb6.mono (hg ▸ HB3.out.size)))
  clear HX3 HR3 HT3 HB3 HA H5 hb hb6 ho hfn hr2
  generalize (told sS).length = tl2 at *
  go_wp2_with fail
  refine (alike_yes a1 a2 tl c1 tl2 c2 _ _ _ HA6.out HC.out).mono ?_
  rintro e w7 ⟨rfl, rfl⟩
  have HX := hide HX6.out
  have HR := hide HR6.out
  have HT := hide HT6.out
  have HB := hide HB6.out
  clear HX6 HR6 HT6 HB6 HA6 HC HS2
  go_upto_region 19 with fail
  generalize hwz : w7 = zS at *
  clear hwz
  generalize hs2 : (textW most lB) ⟨[], room rm, 0⟩ = sB
  have HS2 := hide hs2
  clear hs2
  go_upto_region 19 with fail
  have HS : Hid (∀ W, Below zS.heap.size zS W → (fun W => W.cell? ⟨g, 0, none⟩ = some (.int .i64 most) ∧ W.cell? ⟨g, 1, none⟩ = some (.int .i64 rm) ∧ W.cell? ⟨g, 5, none⟩ = some (.slice aB nB cB) ∧ Below zS.heap.size zS W) W) := fun W k => ⟨(cells7 (pblk HX.out k)).1, (cells7 (pblk HX.out k)).2.1, (cells7 (pblk HX.out k)).2.2.2.2.2.1, k⟩
  go_region_held3 (fun W => W.cell? ⟨g, 0, none⟩ = some (.int .i64 most) ∧ W.cell? ⟨g, 1, none⟩ = some (.int .i64 rm) ∧ W.cell? ⟨g, 5, none⟩ = some (.slice aB nB cB) ∧ Below zS.heap.size zS W) (first | (exact HS.out _ (Below.refl _ _)) | (exact HS.out _ (Below.refl _ _).drew) | (exact HS.out _ HK9.out) | (exact HS.out _ HK8.out) | go_keep) (first
    | (go_at_call 17; refine (BytesB _ _ _ _ _ (textW most lB) rm sB HS2.out _ (putsBlob _ _ mb most aB nB cB lB (HT.out.keep HK8.out) hBn HB0.out (fun hn b off e => rd_lt (HT.out.keep HK8.out) hn e) HM8.out (numForm_lt HM8.out)) ent_putBlob).mono ?_; rintro e w9 ⟨v, rfl, ho, hb9, hfn⟩; have HK9 : Hid (Below zS.heap.size zS w9) := HK8.out.trans (hb9.mono HK8.out.size); have HO := hide ho; have HFN := hide hfn; clear hb9 ho hfn)
    | (go_at_call 18; have hh8 := (‹_ ∧ _ ∧ _ ∧ Below zS.heap.size zS _›).2.2.2; refine (Blobs_any most _).mono ?_; rintro e w8 ⟨mb, rfl, hm, _, hb8⟩; have HK8 : Hid (Below zS.heap.size zS w8) := hh8.trans (hb8.mono hh8.size); have HM8 := hide hm; clear hm; clear hh8 hb8))
  have HK := hide HK9.out
  clear HK8 HK9 HS HM8
  obtain ⟨a1, c1, hv1, hr1, _⟩ := ownsRow_rd HO.out HFN.out.1 (by have := HFN.out.2; omega)
  subst hv1
  have HA := hide hr1
  have HX3 := hide (pblk HX.out HK.out)
  have HR3 := hide (HR.out.keep HK.out)
  have HT3 := hide (HT.out.keep HK.out)
  have HB3 := hide (HB.out.trans (HK.out.mono (hg ▸ HB.out.size)))
  clear HX HR HT HB HK hr1 HO HFN
  generalize (told sB).length = tl at *
  generalize hwb : w9 = wb at *
  clear hwb
  obtain ⟨x0, x1, x2, x3, x4, x5, x6⟩ := cells7 HX3.out
  go_wp2_with fail
  refine (RNewWriter_any rm _).mono ?_
  rintro e w4 ⟨rfl, h4⟩
  have hb4 := h4.keep.below (Nat.le_refl wb.heap.size) (fun i hi => hi)
  have H4 := hide h4
  clear h4 x0 x1 x2 x3 x4 x5 x6
  obtain ⟨x0, x1, x2, x3, x4, x5, x6⟩ := cells7 (pblk HX3.out hb4)
  go_wp2_with fail
  refine (RBlob_any _ wb _ most aB nB cB lB _ _ H4.out (HT3.out.keep hb4) HB0.out hBn).mono ?_
  rintro e w5 ⟨rfl, h5⟩
  rw [putW_zero rfl, HS2.out] at h5
  have H5 := hide h5
  clear h5 H4 hb4 x0 x1 x2 x3 x4 x5 x6
  go_wp2_with fail
  refine (RDone_any _ wb _ sB _ H5.out).mono ?_
  rintro e w6 ⟨v, rfl, ho, hb, hfn⟩
  obtain ⟨a2, c2, hv2, hr2, _⟩ := ownsRow_rd ho hfn.1 (by have := hfn.2; omega)
  subst hv2
  have hb6 := further (H5.out.keep.below (Nat.le_refl wb.heap.size) (fun i hi => hi)) hb
  have HA6 := hide (HA.out.keep hb6)
  have HC := hide hr2
  have HX6 := hide (pblk HX3.out hb6)
  have HR6 := hide (HR3.out.keep hb6)
  have HT6 := hide (HT3.out.keep hb6)
  have HB6 := hide (HB3.out.trans (hb6.mono (hg ▸ HB3.out.size)))
  clear HX3 HR3 HT3 HB3 HA H5 hb hb6 ho hfn hr2
  generalize (told sB).length = tl2 at *
  have RD := hide (reads_any most rm X F st aB nB cB aR nR cR l w6 HR6.out H0.out)
  have HXB := hide HX6.out
  go_wp2_with fail
  refine (alike_yes a1 a2 tl c1 tl2 c2 _ _ _ HA6.out HC.out).mono ?_
  rintro e w7 ⟨rfl, rfl⟩
  obtain ⟨x0, x1, x2, x3, x4, x5, x6⟩ := cells7 HXB.out
  go_wp2_with fail
  refine RD.out.mono ?_
  rintro e w8 ⟨rfl, hb8⟩
  have HE := hide (HB6.out.trans (hb8.mono (hg ▸ HB6.out.size)))
  clear hb8 x0 x1 x2 x3 x4 x5 x6
  go_wp2_with fail
  go_ret
  exact ⟨by simp, by first | exact HE.out | (rw [hg]; exact HE.out)⟩
end Go.Proofs.YtochfpiomnlnmaaGreat
