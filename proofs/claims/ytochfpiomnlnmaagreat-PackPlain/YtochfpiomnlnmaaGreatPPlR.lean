/- PackPlain: reads (written by pl_gen.py). -/
import Derived.Test.YtochfpiomnlnmaaGreatPTkB
import Derived.Test.YtochfpiomnlnmaaGreatPBlobR
import Derived.Test.YtochfpiomnlnmaaGreatPOpen
import Derived.Deep.RegionHeld3
import Derived.Deep.CutRange
namespace Go.Proofs.YtochfpiomnlnmaaGreat
open Go.ChangeShapes Go.WideShapes Go.ChangeAt Go.RowKit Go.Joins Go.Deep

theorem pblk {w w' : World} {b : Nat} {o : Obj} (h : w.heap[b]? = some o) (hb : Below w.heap.size w w') : w'.heap[b]? = some o :=
  (Keep.ofBelow (S := fun _ => False) hb (Nat.le_refl _)).blk h fun h => h
theorem pcell {w w' : World} {p : Addr} {v : Value} (h : w.cell? p = some v) (hb : Below w.heap.size w w') : w'.cell? p = some v :=
  (Keep.ofBelow (S := fun _ => False) hb (Nat.le_refl _)).cell h fun h => h
theorem cells7 {w : World} {b : Nat} {x0 x1 x2 x3 x4 x5 x6 : Value} {T : TypeId} (h : w.heap[b]? = some (.cells #[x0, x1, x2, x3, x4, x5, x6] T (0, 0))) :
    w.cell? ⟨b, 0, none⟩ = some x0 ∧ w.cell? ⟨b, 1, none⟩ = some x1 ∧ w.cell? ⟨b, 2, none⟩ = some x2 ∧ w.cell? ⟨b, 3, none⟩ = some x3 ∧ w.cell? ⟨b, 4, none⟩ = some x4 ∧ w.cell? ⟨b, 5, none⟩ = some x5 ∧ w.cell? ⟨b, 6, none⟩ = some x6 := by
  refine ⟨?_, ?_, ?_, ?_, ?_, ?_, ?_⟩ <;> (rw [cell_of_row _ _ _ _ _ _ h]; rfl)
theorem blob_stable {most : Int} (s : K.RS) : Stable (fun w v => w.ownsRow 0 5 1 v (rowV most s).length (B8 (rowV most s))) := fun w1 w2 v h hb => by
  refine ⟨h.1, ?_⟩
  rcases h.2 with h' | ⟨g, cap, cur, h1, h2, h3, h4⟩
  · exact .inl h'
  · subst h1
    exact .inr ⟨g, cap, cur, rfl, h2, (hb.block g (Array.getElem?_eq_some_iff.1 h3).1).trans h3, h4⟩
theorem rowV_mem {most : Int} {l : List Nat} : ∀ d ∈ rowV most (newR l), d ∈ l := by
  intro d hd
  unfold rowV at hd
  split at hd
  · have h1 := List.mem_of_mem_take (List.mem_of_mem_drop hd)
    unfold rest newR at h1
    split at h1
    · exact List.mem_of_mem_drop h1
    · simp at h1
  · cases hd
theorem rowV_new {l : List Nat} (h : ∀ d ∈ l, d < 256) (most : Int) : ∀ d ∈ rowV most (newR l), d < 256 := fun d hd => h d (rowV_mem d hd)
theorem rowV_small (most : Int) (l : List Nat) : (rowV most (newR l)).length ≤ 16777216 := by
  unfold rowV
  split
  · have h1 : (rest (newR l)).length ≤ 16777216 := by
      rw [rest_len]
      unfold newR
      split
      · simp only; omega
      · simp
    simp
    omega
  · simp
set_option maxRecDepth 100000 in
set_option maxHeartbeats 4000000 in
theorem reads_any (most rm : Int) (X : Nat) (F : Bool) (st : ByteArray) (aB : Option Addr) (nB cB : Nat) (aR : Option Addr) (nR cR : Nat) (l : List Nat) (w : World) (hR : Rd w aR nR l) (h0 : aR = none → cR = 0) :
    Calls Tryz.prog 20 #[.agg #[.int .i64 most, .int .i64 rm, .int .u64 (X : Nat), .bool F, .string st, .slice aB nB cB, .slice aR nR cR]] w fun en w' => en = .returned (.bool true) ∧ Below w.heap.size w w' := by
  have b0 : Below w.heap.size w (w.alloc (.cells #[.int .i64 most, .int .i64 rm, .int .u64 (X : Nat), .bool F, .string st, .slice aB nB cB, .slice aR nR cR] 25)) := (Below.refl _ w).alloc (Nat.le_refl _) _
  have HX := hide (heap_alloc_new w (.cells #[.int .i64 most, .int .i64 rm, .int .u64 (X : Nat), .bool F, .string st, .slice aB nB cB, .slice aR nR cR] 25))
  have HR := hide (hR.keep b0)
  have HB := hide b0
  have H0 := hide h0
  have hR0 := hide hR.2.2.1
  clear hR h0 b0
  go_enter Tryz.func20, Tryz.ntmps20
  go_upto_region 1 with fail
  generalize w.alloc (.cells #[.int .i64 most, .int .i64 rm, .int .u64 (X : Nat), .bool F, .string st, .slice aB nB cB, .slice aR nR cR] 25) = w0 at *
  generalize hg : w.heap.size = g at *
  generalize hs3 : takeR wordR (newR l) = sW
  generalize hr : endR sW = rW
  have HS3 := hide hs3
  have HER := hide hr
  clear hs3 hr
  have HS : Hid (∀ W, Below w0.heap.size w0 W → (fun W => W.cell? ⟨g, 6, none⟩ = some (.slice aR nR cR) ∧ Below w0.heap.size w0 W) W) := fun W k => ⟨(cells7 (pblk HX.out k)).2.2.2.2.2.2, k⟩
  go_region_held3 (fun W => W.cell? ⟨g, 6, none⟩ = some (.slice aR nR cR) ∧ Below w0.heap.size w0 W) (first | (exact HS.out _ (Below.refl _ _)) | (exact HS.out _ (Below.refl _ _).drew) | (exact HS.out _ HK9.out) | (exact HS.out _ HK8.out) | go_keep) (first
    | (go_at_call 56; refine (ReadW _ _ _ _ aR nR cR l wordR (fun s _ v => v = .int .u64 ((wordV s : Nat) : Int)) (fun s => (stableT_plain (T := 0) (P := fun v => v = Value.int .u64 ((wordV s : Nat) : Int))).stable) sW HS3.out rW HER.out _ (HR.out.keep HK8.out) H0.out (takesWord _ _) ent_takeWord).mono ?_; rintro e w9 ⟨v, rfl, hv, hnv, hb9⟩; have HK9 : Hid (Below w0.heap.size w0 w9) := HK8.out.trans (hb9.mono HK8.out.size); have HV := hide hv; have HNV := hide hnv; clear hb9 hv hnv)
    | (go_at_call 6; have hh8 := (‹_ ∧ Below w0.heap.size w0 _›).2; refine (Words_any _).mono ?_; rintro e w8 ⟨rfl, hb8⟩; have HK8 : Hid (Below w0.heap.size w0 w8) := hh8.trans (hb8.mono hh8.size); clear hh8 hb8))
  have HK := hide HK9.out
  clear HK8 HK9 HS
  obtain ⟨xv, rfl⟩ : ∃ xv : Nat, v = .int .u64 (xv : Nat) := by
    by_cases hz : rW = 0
    · exact ⟨_, HV.out hz⟩
    · exact ⟨0, HNV.out hz⟩
  have HX9 := hide (pblk HX.out HK.out)
  have HR9 := hide (HR.out.keep HK.out)
  have HB9 := hide (HB.out.trans (HK.out.mono (hg ▸ HB.out.size)))
  clear HX HR HB HK
  obtain ⟨x0, _, _, _, _, _, x6⟩ := cells7 HX9.out
  go_wp2_with fail
  refine (RNewReader_any aR nR cR l _ HR9.out H0.out).mono ?_
  rintro e w10 ⟨q, rfl, hq, hqs, hb⟩
  have HQ := hide hq
  have HQS := hide hqs
  have HBX := hide hb
  clear hq hqs hb x0 x6
  obtain ⟨x0, _⟩ := cells7 (pblk HX9.out HBX.out)
  go_wp2_with fail
  refine (RTakeWord_any q _ _ HQ.out).mono ?_
  rintro e w11 ⟨yv, rfl, hq, hk, hyv⟩
  rw [HS3.out] at hq hyv
  have HQ9 := hide hq
  have HYV := hide hyv
  have hb79 := HBX.out.trans (hk.below (B := w9.heap.size) HBX.out.size (fun i hi => by have : i = q := hi; have := HQS.out; omega))
  have HX := hide (pblk HX9.out hb79)
  have HR := hide (HR9.out.keep hb79)
  have HB := hide (HB9.out.trans (hb79.mono (hg ▸ HB9.out.size)))
  clear hq hyv hk hb79 HX9 HR9 HB9 HBX HQ HQS x0
  go_wp2_with fail
  refine (REnd_any q sW _ HQ9.out).mono ?_
  rintro e w12 ⟨rfl, hb⟩
  rw [HER.out]
  have HXe := hide (pblk HX.out hb)
  have HRe := hide (HR.out.keep hb)
  have HBe := hide (HB.out.trans (hb.mono (hg ▸ HB.out.size)))
  clear hb HX HR HB HQ9
  have HX := hide HXe.out
  have HR := hide HRe.out
  have HB := hide HBe.out
  clear HXe HRe HBe

  go_upto_region 5 with fail
  go_cut [46] from 13 (fun v wx => v = .bool false ∧ wx = w12)
  case first =>
    by_cases hz : rW = 0
    · have e1 : xv = wordV (newR l) := by have := HV.out hz; injection this with _ h2; omega
      have e2 : yv = wordV (newR l) := HYV.out (endR_ok (by rw [HER.out]; exact hz))
      subst e1
      subst e2
      have hzz : ((rW : Int) == 0) = true := by rw [hz]; rfl
      have hzn : ((rW : Int) != 0) = false := by rw [hz]; rfl
      clear hz
      go_wp2_with fail
      go_meet
      exact ⟨by simp, rfl⟩
    · have e1 : xv = 0 := by have := HNV.out hz; injection this with _ h2; omega
      subst e1
      have hzz : ((rW : Int) == 0) = false := by rw [beq_eq_false_iff_ne]; omega
      have hzn : ((rW : Int) != 0) = true := by simp; omega
      clear hz
      go_wp2_with fail
      go_meet
      exact ⟨by simp, rfl⟩
  case rest =>
  obtain ⟨rfl, hwc⟩ := hcut
  subst hwc
  clear HS3 HER HV HNV HYV
  go_upto_region 7 with fail

  generalize wc = vW at *
  generalize hs3 : takeR flagR (newR l) = sF
  generalize hr : endR sF = rF
  have HS3 := hide hs3
  have HER := hide hr
  clear hs3 hr
  have HS : Hid (∀ W, Below vW.heap.size vW W → (fun W => W.cell? ⟨g, 6, none⟩ = some (.slice aR nR cR) ∧ Below vW.heap.size vW W) W) := fun W k => ⟨(cells7 (pblk HX.out k)).2.2.2.2.2.2, k⟩
  go_region_held3 (fun W => W.cell? ⟨g, 6, none⟩ = some (.slice aR nR cR) ∧ Below vW.heap.size vW W) (first | (exact HS.out _ (Below.refl _ _)) | (exact HS.out _ (Below.refl _ _).drew) | (exact HS.out _ HK9.out) | (exact HS.out _ HK8.out) | go_keep) (first
    | (go_at_call 60; refine (ReadF _ _ _ _ aR nR cR l flagR (fun s _ v => v = .bool (flagV s)) (fun s => (stableT_plain (T := 0) (P := fun v => v = Value.bool (flagV s))).stable) sF HS3.out rF HER.out _ (HR.out.keep HK8.out) H0.out (takesFlag _ _) ent_takeFlag).mono ?_; rintro e w9 ⟨v, rfl, hv, hnv, hb9⟩; have HK9 : Hid (Below vW.heap.size vW w9) := HK8.out.trans (hb9.mono HK8.out.size); have HV := hide hv; have HNV := hide hnv; clear hb9 hv hnv)
    | (go_at_call 12; have hh8 := (‹_ ∧ Below vW.heap.size vW _›).2; refine (Flags_any _).mono ?_; rintro e w8 ⟨rfl, hb8⟩; have HK8 : Hid (Below vW.heap.size vW w8) := hh8.trans (hb8.mono hh8.size); clear hh8 hb8))
  have HK := hide HK9.out
  clear HK8 HK9 HS
  obtain ⟨xv, rfl⟩ : ∃ xv : Bool, v = .bool xv := by
    by_cases hz : rF = 0
    · exact ⟨_, HV.out hz⟩
    · exact ⟨false, HNV.out hz⟩
  have HX9 := hide (pblk HX.out HK.out)
  have HR9 := hide (HR.out.keep HK.out)
  have HB9 := hide (HB.out.trans (HK.out.mono (hg ▸ HB.out.size)))
  clear HX HR HB HK
  obtain ⟨x0, _, _, _, _, _, x6⟩ := cells7 HX9.out
  go_wp2_with fail
  refine (RNewReader_any aR nR cR l _ HR9.out H0.out).mono ?_
  rintro e w10 ⟨q, rfl, hq, hqs, hb⟩
  have HQ := hide hq
  have HQS := hide hqs
  have HBX := hide hb
  clear hq hqs hb x0 x6
  obtain ⟨x0, _⟩ := cells7 (pblk HX9.out HBX.out)
  go_wp2_with fail
  refine (RTakeFlag_any q _ _ HQ.out).mono ?_
  rintro e w11 ⟨yv, rfl, hq, hk, hyv⟩
  rw [HS3.out] at hq hyv
  have HQ9 := hide hq
  have HYV := hide hyv
  have hb79 := HBX.out.trans (hk.below (B := w9.heap.size) HBX.out.size (fun i hi => by have : i = q := hi; have := HQS.out; omega))
  have HX := hide (pblk HX9.out hb79)
  have HR := hide (HR9.out.keep hb79)
  have HB := hide (HB9.out.trans (hb79.mono (hg ▸ HB9.out.size)))
  clear hq hyv hk hb79 HX9 HR9 HB9 HBX HQ HQS x0
  go_wp2_with fail
  refine (REnd_any q sF _ HQ9.out).mono ?_
  rintro e w12 ⟨rfl, hb⟩
  rw [HER.out]
  have HXe := hide (pblk HX.out hb)
  have HRe := hide (HR.out.keep hb)
  have HBe := hide (HB.out.trans (hb.mono (hg ▸ HB.out.size)))
  clear hb HX HR HB HQ9
  have HX := hide HXe.out
  have HR := hide HRe.out
  have HB := hide HBe.out
  clear HXe HRe HBe

  go_upto_region 11 with fail
  go_cut [79] from 13 (fun v wx => v = .bool false ∧ wx = w12)
  case first =>
    by_cases hz : rF = 0
    · have e1 : xv = flagV (newR l) := by have := HV.out hz; injection this
      have e2 : yv = flagV (newR l) := HYV.out (endR_ok (by rw [HER.out]; exact hz))
      subst e1
      subst e2
      have hzz : ((rF : Int) == 0) = true := by rw [hz]; rfl
      have hzn : ((rF : Int) != 0) = false := by rw [hz]; rfl
      clear hz
      go_wp2_with fail
      go_meet
      exact ⟨by simp, rfl⟩
    · have e1 : xv = false := by have := HNV.out hz; injection this
      subst e1
      have hzz : ((rF : Int) == 0) = false := by rw [beq_eq_false_iff_ne]; omega
      have hzn : ((rF : Int) != 0) = true := by simp; omega
      clear hz
      go_wp2_with fail
      go_meet
      exact ⟨by simp, rfl⟩
  case rest =>
  obtain ⟨rfl, hwc⟩ := hcut
  subst hwc
  clear HS3 HER HV HNV HYV
  go_upto_region 13 with fail

  generalize wc = vF at *
  generalize hs3 : takeR (rowR most) (newR l) = sS
  generalize hr : endR sS = rS
  have HS3 := hide hs3
  have HER := hide hr
  clear hs3 hr
  have HS : Hid (∀ W, Below vF.heap.size vF W → (fun W => W.cell? ⟨g, 0, none⟩ = some (.int .i64 most) ∧ W.cell? ⟨g, 6, none⟩ = some (.slice aR nR cR) ∧ Below vF.heap.size vF W) W) := fun W k => ⟨(cells7 (pblk HX.out k)).1, (cells7 (pblk HX.out k)).2.2.2.2.2.2, k⟩
  go_region_held3 (fun W => W.cell? ⟨g, 0, none⟩ = some (.int .i64 most) ∧ W.cell? ⟨g, 6, none⟩ = some (.slice aR nR cR) ∧ Below vF.heap.size vF W) (first | (exact HS.out _ (Below.refl _ _)) | (exact HS.out _ (Below.refl _ _).drew) | (exact HS.out _ HK9.out) | (exact HS.out _ HK8.out) | go_keep) (first
    | (go_at_call 62; refine (ReadS _ _ _ _ aR nR cR l (rowR most) (fun s _ v => v = .string (str (rowV most s))) (fun s => (stableT_plain (T := 0) (P := fun v => v = Value.string (str (rowV most s)))).stable) sS HS3.out rS HER.out _ (HR.out.keep HK8.out) H0.out (takesText _ _ mb most HM8.out (numForm_lt HM8.out)) ent_takeText).mono ?_; rintro e w9 ⟨v, rfl, hv, hnv, hb9⟩; have HK9 : Hid (Below vF.heap.size vF w9) := HK8.out.trans (hb9.mono HK8.out.size); have HV := hide hv; have HNV := hide hnv; clear hb9 hv hnv)
    | (go_at_call 15; have hh8 := (‹_ ∧ _ ∧ Below vF.heap.size vF _›).2.2; refine (Texts_any most _).mono ?_; rintro e w8 ⟨mb, rfl, hm, _, hb8⟩; have HK8 : Hid (Below vF.heap.size vF w8) := hh8.trans (hb8.mono hh8.size); have HM8 := hide hm; clear hm; clear hh8 hb8))
  have HK := hide HK9.out
  clear HK8 HK9 HS HM8
  obtain ⟨xv, rfl⟩ : ∃ xv : ByteArray, v = .string xv := by
    by_cases hz : rS = 0
    · exact ⟨_, HV.out hz⟩
    · exact ⟨⟨#[]⟩, HNV.out hz⟩
  have HX9 := hide (pblk HX.out HK.out)
  have HR9 := hide (HR.out.keep HK.out)
  have HB9 := hide (HB.out.trans (HK.out.mono (hg ▸ HB.out.size)))
  clear HX HR HB HK
  obtain ⟨x0, _, _, _, _, _, x6⟩ := cells7 HX9.out
  go_wp2_with fail
  refine (RNewReader_any aR nR cR l _ HR9.out H0.out).mono ?_
  rintro e w10 ⟨q, rfl, hq, hqs, hb⟩
  have HQ := hide hq
  have HQS := hide hqs
  have HBX := hide hb
  clear hq hqs hb x0 x6
  obtain ⟨x0, _⟩ := cells7 (pblk HX9.out HBX.out)
  go_wp2_with fail
  refine (RTextR_any q most _ _ HQ.out).mono ?_
  rintro e w11 ⟨yv, rfl, hq, hk, hyv⟩
  rw [HS3.out] at hq hyv
  have HQ9 := hide hq
  have HYV := hide hyv
  have hb79 := HBX.out.trans (hk.below (B := w9.heap.size) HBX.out.size (fun i hi => by have : i = q := hi; have := HQS.out; omega))
  have HX := hide (pblk HX9.out hb79)
  have HR := hide (HR9.out.keep hb79)
  have HB := hide (HB9.out.trans (hb79.mono (hg ▸ HB9.out.size)))
  clear hq hyv hk hb79 HX9 HR9 HB9 HBX HQ HQS x0
  go_wp2_with fail
  refine (REnd_any q sS _ HQ9.out).mono ?_
  rintro e w12 ⟨rfl, hb⟩
  rw [HER.out]
  have HXe := hide (pblk HX.out hb)
  have HRe := hide (HR.out.keep hb)
  have HBe := hide (HB.out.trans (hb.mono (hg ▸ HB.out.size)))
  clear hb HX HR HB HQ9
  have HX := hide HXe.out
  have HR := hide HRe.out
  have HB := hide HBe.out
  clear HXe HRe HBe

  go_upto_region 17 with fail
  go_cut [117] from 13 (fun v wx => v = .bool false ∧ wx = w12)
  case first =>
    by_cases hz : rS = 0
    · have e1 : xv = str (rowV most (newR l)) := by have := HV.out hz; injection this
      have e2 : yv = rowV most (newR l) := HYV.out (endR_ok (by rw [HER.out]; exact hz))
      subst e1
      subst e2
      have hzz : ((rS : Int) == 0) = true := by rw [hz]; rfl
      have hzn : ((rS : Int) != 0) = false := by rw [hz]; rfl
      clear hz
      go_wp2_with fail
      go_meet
      exact ⟨by simp, rfl⟩
    · have e1 : xv = ⟨#[]⟩ := by have := HNV.out hz; injection this
      subst e1
      have hzz : ((rS : Int) == 0) = false := by rw [beq_eq_false_iff_ne]; omega
      have hzn : ((rS : Int) != 0) = true := by simp; omega
      clear hz
      go_wp2_with fail
      go_meet
      exact ⟨by simp, rfl⟩
  case rest =>
  obtain ⟨rfl, hwc⟩ := hcut
  subst hwc
  go_upto_region 19 with fail

  generalize wc = vS at *
  have HVS := hide HV.out
  have HNS := hide HNV.out
  clear HV HNV HYV
  have HS : Hid (∀ W, Below vS.heap.size vS W → (fun W => W.cell? ⟨g, 0, none⟩ = some (.int .i64 most) ∧ W.cell? ⟨g, 6, none⟩ = some (.slice aR nR cR) ∧ Below vS.heap.size vS W) W) := fun W k => ⟨(cells7 (pblk HX.out k)).1, (cells7 (pblk HX.out k)).2.2.2.2.2.2, k⟩
  go_region_held3 (fun W => W.cell? ⟨g, 0, none⟩ = some (.int .i64 most) ∧ W.cell? ⟨g, 6, none⟩ = some (.slice aR nR cR) ∧ Below vS.heap.size vS W) (first | (exact HS.out _ (Below.refl _ _)) | (exact HS.out _ (Below.refl _ _).drew) | (exact HS.out _ HK9.out) | (exact HS.out _ HK8.out) | go_keep) (first
    | (go_at_call 64; refine (ReadB _ _ _ _ aR nR cR l (rowR most) (fun s w v => w.ownsRow 0 5 1 v (rowV most s).length (B8 (rowV most s))) blob_stable sS HS3.out rS HER.out _ (HR.out.keep HK8.out) H0.out (takesBlob _ _ mb most HM8.out (numForm_lt HM8.out)) ent_takeBlob).mono ?_; rintro e w9 ⟨v, rfl, hv, hnv, hb9⟩; have HK9 : Hid (Below vS.heap.size vS w9) := HK8.out.trans (hb9.mono HK8.out.size); have HV := hide hv; have HNV := hide hnv; clear hb9 hv hnv)
    | (go_at_call 18; have hh8 := (‹_ ∧ _ ∧ Below vS.heap.size vS _›).2.2; refine (Blobs_any most _).mono ?_; rintro e w8 ⟨mb, rfl, hm, _, hb8⟩; have HK8 : Hid (Below vS.heap.size vS w8) := hh8.trans (hb8.mono hh8.size); have HM8 := hide hm; clear hm hh8 hb8))
  have HK := hide HK9.out
  clear HK8 HK9 HS HM8
  have HBE := hide (HB.out.trans (HK.out.mono (hg ▸ HB.out.size)))
  clear HB HX HR HK
  by_cases hz : rS = 0
  · have e1 : xv = str (rowV most (newR l)) := by have := HVS.out hz; injection this
    have ho := HV.out hz
    obtain ⟨a2, c2, hv2, hr2, _⟩ := ownsRow_rd ho (rowV_new hR0.out most) (Nat.lt_of_le_of_lt (rowV_small most l) (by decide))
    subst hv2
    have kc := conv_rd hr2 c2
    rw [e1]
    generalize str (rowV most (newR l)) = nv at *
    generalize (rowV most (newR l)).length = n2 at *
    clear e1 ho hr2 hz
    go_wp2_with fail
    go_ret
    exact ⟨by simp, by first | exact HBE.out | (rw [hg]; exact HBE.out)⟩
  · have e1 : xv = ⟨#[]⟩ := by have := HNS.out hz; injection this
    subst e1
    have e2 := HNV.out hz
    subst e2
    have kc := conv_rd (w := w9) (a := none) (n := 0) (l := []) ⟨rfl, by decide, (fun d hd => by cases hd), .inl rfl⟩ 0
    clear hz
    go_wp2_with fail
    go_ret
    exact ⟨by simp [str, strOfNums], by first | exact HBE.out | (rw [hg]; exact HBE.out)⟩
end Go.Proofs.YtochfpiomnlnmaaGreat
