import Derived.Test.YtfijncgmdddcnaaGreatDoorUTrT
import Derived.Test.YtfijncgmdddcnaaGreatDoorULft
import Derived.Test.YtfijncgmdddcnaaGreatDoorGOpn
/- Package source's laws: SourceTexts: the walk. -/
namespace Go.Proofs.YtfijncgmdddcnaaGreatDoor
namespace U
open Go.RowKit

set_option maxRecDepth 100000 in
set_option maxHeartbeats 4000000 in
theorem texts_walk (nm : List UInt8) (dl : Int) (s : Option Addr × Nat × Nat) (xs : List Gr.No) (w : World) (hP : Gr.RdP w.heap.size w s xs) (hs : Gr.Sz (ba nm) xs) (hA : EnvA w) (hI : EnvI w) :
    Calls Tryz.prog 3 #[.agg #[.string (ba nm), .int .i64 dl, .slice s.1 s.2.1 s.2.2]] w fun e w' => e = .returned (.bool true) ∧ Below w.heap.size w w' := by
  obtain ⟨a, n, c⟩ := s
  have KN := hide known_any
  have HA := hide hA
  have HI := hide hI
  have TX := hide (fun W h hb e => text_any nm dl (a, n, c) xs w.heap.size W h hb e hs)
  have RC := hide (fun W h hb => Tr.refText_any nm dl (a, n, c) xs w.heap.size W h hb hs)
  have b0 : Below w.heap.size w (w.alloc (.cells #[.string (ba nm), .int .i64 dl, .slice a n c] 24)) := (Below.refl _ w).alloc (Nat.le_refl _) _
  have hb0 := heap_alloc_new w (.cells #[.string (ba nm), .int .i64 dl, .slice a n c] 24)
  have hs0 : (w.alloc (.cells #[.string (ba nm), .int .i64 dl, .slice a n c] 24)).heap.size = w.heap.size + 1 := by simp
  have HP := hide hP
  clear hA hI hP hs
  generalize (Gr.chk (ba nm) dl xs).2 = cd at *
  generalize ba (txt nm dl xs) = T at *
  generalize hNM : ba nm = NM at *
  go_enter Tryz.func3, Tryz.ntmps3
  go_upto_region 1 with fail
  generalize w.alloc (.cells #[.string NM, .int .i64 dl, .slice a n c] 24) = w0 at *
  generalize hA0 : w.heap.size = A at *
  have HB0 := hide b0
  have HH0 := hide hb0
  have HS0 := hide hs0
  have HM : Hid (∀ W, Below A w0 W → A + 1 ≤ W.heap.size → W.heap[A]? = w0.heap[A]? → (W.cell? ⟨A, 0, none⟩ = some (.string NM) ∧ W.cell? ⟨A, 1, none⟩ = some (.int .i64 dl) ∧ W.cell? ⟨A, 2, none⟩ = some (.slice a n c)) ∧ Gr.RdP A W (a, n, c) xs ∧ EnvA W ∧ EnvI W ∧ Below A w W) := fun W hb hz he => by
    have h1 := he.trans HH0.out
    have bb := HB0.out.trans (hb.mono (Nat.le_refl _))
    rw [← hA0] at bb
    refine ⟨⟨cell_blk h1 0 rfl, cell_blk h1 1 rfl, cell_blk h1 2 rfl⟩, ?_, HA.out.below bb, HI.out.below bb, by rw [hA0] at bb; exact bb⟩
    exact HP.out.new (Keep.ofBelow bb (Nat.le_refl _))
  clear b0 hb0 hs0 HA HI HP
  obtain ⟨⟨c0, c1, c2⟩, r0, ea0, ei0, _⟩ := HM.out w0 (Below.refl _ _) (by rw [HS0.out]; exact Nat.le_refl _) rfl
  have KN1 := hide (KN.out w0 ea0 ei0)
  clear KN r0 ea0 ei0
  go_wp2_with fail
  go_at_call 4
  refine KN1.out.mono ?_
  rintro e w1 ⟨rfl, b1⟩
  have Q1 : Hid (Below A w0 w1 ∧ A + 1 ≤ w1.heap.size ∧ w1.heap[A]? = w0.heap[A]?) := ⟨b1.mono (by rw [HS0.out]; omega), by have := b1.size; have := HS0.out; omega, b1.block A (by rw [HS0.out]; omega)⟩
  clear b1 c0 c1 c2 KN1
  obtain ⟨⟨c0, c1, c2⟩, r0, ea0, ei0, _⟩ := HM.out w1 Q1.out.1 Q1.out.2.1 Q1.out.2.2
  have TX1 := hide (TX.out w1 r0 (by have := Q1.out.2.1; omega) ei0)
  clear TX r0 ea0 ei0
  go_wp2_with fail
  go_at_call 5
  refine TX1.out.mono ?_
  rintro e w2 ⟨rfl, b2⟩
  have Q2 : Hid (Below A w0 w2 ∧ A + 1 ≤ w2.heap.size ∧ w2.heap[A]? = w0.heap[A]?) := ⟨Q1.out.1.trans (b2.mono (by have := Q1.out.2.1; omega)), by have := b2.size; have := Q1.out.2.1; omega, (b2.block A (by have := Q1.out.2.1; omega)).trans Q1.out.2.2⟩
  clear b2 c0 c1 c2 Q1 TX1
  obtain ⟨⟨c0, c1, c2⟩, r0, ea0, ei0, _⟩ := HM.out w2 Q2.out.1 Q2.out.2.1 Q2.out.2.2
  have RC1 := hide (RC.out w2 r0 (by have := Q2.out.2.1; omega))
  clear RC r0 ea0 ei0
  go_wp2_with fail
  go_at_call 6
  refine RC1.out.mono ?_
  rintro e w3 ⟨rfl, b3⟩
  have Q3 := hide (HM.out w3 (Q2.out.1.trans (b3.mono (by have := Q2.out.2.1; omega))) (by have := b3.size; have := Q2.out.2.1; omega) ((b3.block A (by have := Q2.out.2.1; omega)).trans Q2.out.2.2)).2.2.2.2
  clear b3 c0 c1 c2 Q2 RC1
  go_wp2_with fail
  go_ret
  exact ⟨by simp, by rw [hA0]; exact Q3.out⟩
end U
end Go.Proofs.YtfijncgmdddcnaaGreatDoor

/- Package source's laws: SourceTexts: the row and the card. -/
namespace Go.Proofs.YtfijncgmdddcnaaGreatDoor
namespace SourceTexts
open Go.ChangeShapes Go.WideShapes Go.ChangeAt Go.RowKit Go.Deep

set_option maxRecDepth 100000 in
theorem lifted (os : Os) (started : os.Started) (H : Type) (enc : TypeId × Value → H) :
    ReturnsInHanded {} Tryz.checked os 3 .any (fun w args => (Rows.sourceTextsSpec.pre enc Tryz.prog Tryz.f3 [] false w args ∧ laidMetH Tryz.prog U.laid6 w) ∧ sizedMet enc Tryz.prog Tryz.f3 (OpenSpec.ofChange Rows.sourceTextsSpec) false w args)
      (Rows.sourceTextsSpec.post enc Tryz.prog Tryz.f3 false true false false) := by
  refine returnsInHanded_of_change_and (C := Tryz.checked) (X := fun w _ => laidMetH Tryz.prog U.laid6 w) (fun _ _ _ hh h => h.of_heap hh) U.own started (by kernel_rfl) Tryz.func3
    (ChangeSpec.witness_shaped (enc := enc) (C := Tryz.checked) (os := os) (X := fun w _ => laidMetH Tryz.prog U.laid6 w) false (U.laidWorld os) #[.agg #[.string ⟨#[]⟩, .int .i64 0, .slice none 0 0]] 8 rfl (World.shaped_of_ZipB (by kernel_rfl) (by kernel_rfl)) (by kernel_rfl) (by kernel_rfl) (by kernel_rfl) (U.laid_met os _)) ?_
  intro W base args ds gs before hval0 hW _ hsz0 hL _
  have hval : ∀ (j : Nat) t v, Tryz.f3.params[j]? = some t → args[j]? = some v → Value.okWide Tryz.prog W .any base t v := hval0
  have hsz : (DataW.weightsEach Tryz.prog (Tryz.f3.params.toList ++ Rows.sourceTextsSpec.plain.varTypes Tryz.prog) (ds ++ gs)).all (· ≤ reachBytes) = true := hsz0
  have hW' := hW
  obtain ⟨p, q, hA0, hV, rfl, hfz, hnd⟩ := hW
  have hA : DataW.TrodAll enc Tryz.prog W 0 (fun _ => true) true Tryz.f3.params.toList args.toList ds p := hA0
  rw [Tryz.params3] at hA hval hsz
  obtain ⟨v0, d0, rfl, rfl, h0⟩ := trodAll_one hA
  obtain ⟨rfl, rfl⟩ := trodVars_none hV
  have lt0 : ∀ x ∈ p, x.block < W.heap.size := by obtain ⟨m, hm⟩ := h0; exact DataW.trod_lt m _ _ _ hm
  obtain ⟨q0, rfl, hq0⟩ := open_plan (hval 0 24 v0 rfl rfl) h0 (weigh hsz (j := 0) rfl rfl)
  clear hA0 hval0
  have walk := U.texts_walk q0.nm.data.toList q0.dl q0.s q0.xs W hq0.rd (by rw [U.ba_of]; exact hq0.sz) (U.envA_of_laid hL) (U.envI_of_laid hL)
  rw [U.ba_of] at walk
  refine walk.mono fun e W' ⟨he, bel⟩ => ?_
  subst he
  exact ⟨_, rfl, _, _, _, [], _, [], hW', trodAll_mk1 (shut_bool Tryz.underlying4 _), trodAll_mk1 (Below.trod U.laidOut (by kernel_rfl) (of_decide_eq_true (by kernel_rfl)) h0 bel lt0), rfl, bel.frame _, fun h => by cases h⟩
theorem row : Rows.SourceTextsSaid :=
  OpenClaim.holds_of_wide 3 Tryz.f3 rfl rfl rfl rfl rfl rfl rfl ⟨rfl, rfl, rfl, rfl, rfl⟩ rfl rfl rfl rfl rfl (by kernel_rfl) Tryz.func3 (by kernel_rfl)
    (of_decide_eq_true (by kernel_rfl)) (by unfold Func.isWrapper; first | (rw [if_pos (by decide +kernel)]; kernel_rfl) | (rw [if_neg (by decide +kernel)]; exact ⟨rfl, rfl⟩))
    (fun os started H enc _ => lifted os started H enc)
theorem plain (f : FuncId) (fn : Func) (hf : Tryz.pinned.checked.prog.funcNamed "escapement/escapementlaw11.SourceTexts" = some f) (hfn : Tryz.pinned.checked.prog.funcs[f]? = some fn) :
    true = Tryz.pinned.checked.prog.looks [] ∧ ∀ (j : Nat) t, fn.params[j]? = some t → Tryz.pinned.checked.prog.wantsStandIn t = false := by
  obtain rfl : f = 3 := Option.some.inj ((show Tryz.prog.funcNamed "escapement/escapementlaw11.SourceTexts" = some 3 by kernel_rfl).symm.trans hf) |>.symm
  obtain rfl : fn = Tryz.f3 := (Option.some.inj (Tryz.func3.symm.trans hfn)).symm
  refine ⟨by kernel_rfl, fun j t ht => ?_⟩
  rw [Tryz.params3] at ht
  obtain rfl : t = 24 := by simpa using Array.mem_of_getElem? ht
  exact (show Tryz.prog.wantsStandIn 24 = false by kernel_rfl)
end SourceTexts

theorem sourceTexts_holds : Rows.SourceTextsCardSaid :=
  Claim7.holds_tied_plain_at .later [] _ _ _ _ SourceTexts.row (fun _ h => by cases h) (by kernel_rfl) (fun _ h => by cases h) sourceTexts_row_tie rfl ⟨rfl, rfl⟩ (by kernel_rfl) rfl SourceTexts.plain (by kernel_rfl)
#print axioms sourceTexts_holds
end Go.Proofs.YtfijncgmdddcnaaGreatDoor
