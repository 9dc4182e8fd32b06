import Derived.Test.YtnhmmplheihojaaGreatDoorUSpP
import Derived.Test.YtnhmmplheihojaaGreatDoorUPls
import Derived.Test.YtnhmmplheihojaaGreatDoorUKno
import Derived.Test.YtnhmmplheihojaaGreatDoorULft
/- Package source's laws: SourceParses: the walk. -/
namespace Go.Proofs.YtnhmmplheihojaaGreatDoor
namespace U
namespace Sp
open Go.RowKit

def prNm (r : (Nat × Nat) ⊕ Pl) : ByteArray := match r with
  | .inl _ => ⟨#[]⟩
  | .inr q => ba q.nm
def prDl (r : (Nat × Nat) ⊕ Pl) : Int := match r with
  | .inl _ => 0
  | .inr q => q.dl
def prEs (r : (Nat × Nat) ⊕ Pl) : List Gr.No := match r with
  | .inl _ => []
  | .inr q => q.nds.map no
def prP (r : (Nat × Nat) ⊕ Pl) : Nat := match r with
  | .inl x => x.1
  | .inr _ => 0
def prC (r : (Nat × Nat) ⊕ Pl) : Nat := match r with
  | .inl x => x.2
  | .inr _ => 0
/-- what either Parse answers -/
theorem pe_any {r : (Nat × Nat) ⊕ Pl} {w : World} {e : Ending} {w' : World} (h : ParseEnd r w e w') : ∃ (a : Option Addr) (n c : Nat) (xs : List Gr.No), e = .returned (.tuple #[.agg #[.string (prNm r), .int .i64 (prDl r), .slice a n c], .int .i64 (prP r : Nat), .int .i64 (prC r : Nat)]) ∧ Below w.heap.size w w' ∧ Gr.RdP w'.heap.size w' (a, n, c) xs ∧ xs.map er = prEs r := by
  obtain ⟨hb, h⟩ := h
  rcases h with ⟨p, c, rfl, rfl⟩ | ⟨q, va, vc, rfl, rfl, hN, hl⟩
  · exact ⟨none, 0, 0, [], rfl, hb, ⟨rfl, by simp, .inl rfl, fun x hx => by cases hx⟩, rfl⟩
  · obtain ⟨xs, hxs, hrp⟩ := hN.rd hl
    exact ⟨va, q.nds.length, vc, xs, rfl, hb, hrp, hxs⟩
set_option maxRecDepth 100000 in
set_option maxHeartbeats 4000000 in
theorem parses_walk (s : List UInt8) (w : World) (hA : EnvA w) (hI : EnvI w) (hl : s.length ≤ 9223372036854775807) :
    Calls Tryz.prog 3 #[.string (ba s)] w fun e w' => e = .returned (.bool true) ∧ Below w.heap.size w w' := by
  have KN := hide known_any
  have HA := hide hA
  have HI := hide hI
  have P1 := hide (fun W e => parse_any (ba s) W (by rw [ba_size]; exact hl) e)
  have P2 := hide (fun W => refParse_any (ba s) W (by rw [ba_size]; exact hl))
  rw [ba_data] at P1 P2
  generalize parse s = R at *
  have PL := hide (fun s t xs ys B C w hx hy he => plans_any (prNm R) (prDl R) s t xs ys B C w hx hy he)
  have PE := hide (fun w e w' h => pe_any (r := R) (w := w) (e := e) (w' := w') h)
  generalize prNm R = nm at *
  generalize prDl R = dl at *
  generalize prP R = pp at *
  generalize prC R = cc at *
  clear hA hI
  go_enter Tryz.func3, Tryz.ntmps3
  go_wp2_with fail
  go_at_call 4
  refine (KN.out w HA.out HI.out).mono ?_
  rintro e w1 ⟨rfl, b1⟩
  have HB1 := hide b1
  clear b1 KN
  go_wp2_with fail
  go_at_call 5
  refine (P1.out w1 (HA.out.below HB1.out)).mono ?_
  intro e w2 he
  obtain ⟨va, vn, vc, xs, rfl, b2, r2, e2⟩ := PE.out _ _ _ he
  have HB2 := hide (HB1.out.trans (b2.mono HB1.out.size))
  have R2 := hide r2
  have E2 := hide e2
  clear he b2 r2 e2 HB1 P1
  go_upto_region 5 with fail
  have b3 : Below w2.heap.size w2 (w2.alloc (.cells #[.string nm, .int .i64 dl, .slice va vn vc] 25)) := (Below.refl _ w2).alloc (Nat.le_refl _) _
  have hb3 := heap_alloc_new w2 (.cells #[.string nm, .int .i64 dl, .slice va vn vc] 25)
  have hs3 : (w2.alloc (.cells #[.string nm, .int .i64 dl, .slice va vn vc] 25)).heap.size = w2.heap.size + 1 := by simp
  have HB3 := hide (HB2.out.trans (b3.mono HB2.out.size))
  have R3 := hide (R2.out.new (Keep.ofBelow b3 (Nat.le_refl _)))
  generalize w2.alloc (.cells #[.string nm, .int .i64 dl, .slice va vn vc] 25) = w3 at *
  have HH3 := hide hb3
  have HS3 := hide hs3
  generalize hA0 : w2.heap.size = A at *
  clear b3 hb3 hs3 R2 HB2
  go_wp2_with fail
  go_at_call 6
  refine (P2.out w3).mono ?_
  intro e w4 he
  obtain ⟨vb, vm, vd, ys, rfl, b4, r4, e4⟩ := PE.out _ _ _ he
  have HB4 := hide (HB3.out.trans (b4.mono HB3.out.size))
  have R4 := hide r4
  have E4 := hide e4
  have Q4 := hide (R3.out.new (Keep.ofBelow b4 (Nat.le_refl _)))
  have HH4 := hide ((b4.block A (by rw [HS3.out]; omega)).trans HH3.out)
  have HS4 : Hid (A + 1 ≤ w4.heap.size) := by have := b4.size; have := HS3.out; show _ ≤ _; omega
  clear he b4 r4 e4 R3 HH3 HS3 HB3 P2 PE
  go_upto_region 6 with fail
  have b5 : Below w4.heap.size w4 (w4.alloc (.cells #[.string nm, .int .i64 dl, .slice vb vm vd] 25)) := (Below.refl _ w4).alloc (Nat.le_refl _) _
  have hb5 := heap_alloc_new w4 (.cells #[.string nm, .int .i64 dl, .slice vb vm vd] 25)
  have HB5 := hide (HB4.out.trans (b5.mono HB4.out.size))
  have R5 := hide (R4.out.new (Keep.ofBelow b5 (Nat.le_refl _)))
  have Q5 := hide (Q4.out.new (Keep.ofBelow b5 (Nat.le_refl _)))
  have hh5 := (b5.block A (by have := HS4.out; omega)).trans HH4.out
  generalize w4.alloc (.cells #[.string nm, .int .i64 dl, .slice vb vm vd] 25) = w5 at *
  generalize hC0 : w4.heap.size = C at *
  have c0 := cell_blk hh5 0 (v := .string nm) rfl
  have c1 := cell_blk hh5 1 (v := .int .i64 dl) rfl
  have c2 := cell_blk hh5 2 (v := .slice va vn vc) rfl
  have d0 := cell_blk hb5 0 (v := .string nm) rfl
  have d1 := cell_blk hb5 1 (v := .int .i64 dl) rfl
  have d2 := cell_blk hb5 2 (v := .slice vb vm vd) rfl
  have PLS := hide (PL.out (va, vn, vc) (vb, vm, vd) xs ys _ _ w5 Q5.out R5.out (E2.out.trans E4.out.symm))
  clear b5 hb5 hh5 R4 Q4 HH4 HS4 HB4 R5 Q5 E2 E4 PL
  go_wp2_with fail
  go_at_call 7
  refine PLS.out.mono ?_
  rintro e w6 ⟨rfl, k6⟩
  have K6 := hide (HB5.out.trans (k6.below HB5.out.size fun _ h => h.elim))
  clear k6 c0 c1 c2 d0 d1 d2 HB5 PLS
  go_wp2_with fail
  go_ret
  exact ⟨by simp, K6.out⟩
end Sp
end U
end Go.Proofs.YtnhmmplheihojaaGreatDoor

/- Package source's laws: SourceParses: the row and the card. -/
namespace Go.Proofs.YtnhmmplheihojaaGreatDoor
namespace SourceParses
open Go.ChangeShapes Go.WideShapes Go.ChangeAt Go.RowKit Go.Deep U

set_option maxRecDepth 100000 in
theorem lifted (os : Os) (started : os.Started) (H : Type) (enc : TypeId × Value → H) :
    ReturnsInHanded {} Tryz.checked os 3 .any (fun w args => (Rows.sourceParsesSpec.pre enc Tryz.prog Tryz.f3 [] false w args ∧ laidMetH Tryz.prog laid6 w) ∧ sizedMet enc Tryz.prog Tryz.f3 (OpenSpec.ofChange Rows.sourceParsesSpec) false w args)
      (Rows.sourceParsesSpec.post enc Tryz.prog Tryz.f3 false true false false) := by
  refine returnsInHanded_of_change_and (C := Tryz.checked) (X := fun w _ => laidMetH Tryz.prog laid6 w) (fun _ _ _ hh h => h.of_heap hh) own started (by kernel_rfl) Tryz.func3
    (ChangeSpec.witness_shaped (enc := enc) (C := Tryz.checked) (os := os) (X := fun w _ => laidMetH Tryz.prog laid6 w) false (laidWorld os) #[.string ⟨#[]⟩] 8 rfl (World.shaped_of_ZipB (by kernel_rfl) (by kernel_rfl)) (by kernel_rfl) (by kernel_rfl) (by kernel_rfl) (laid_met os _)) ?_
  intro W base args ds gs before hval0 hW _ _ hL _
  have hval : ∀ (j : Nat) t v, Tryz.f3.params[j]? = some t → args[j]? = some v → Value.okWide Tryz.prog W .any base t v := hval0
  have hW' := hW
  obtain ⟨p, q, hA0, hV, rfl, hfz, hnd⟩ := hW
  have hA : DataW.TrodAll enc Tryz.prog W 0 (fun _ => true) true Tryz.f3.params.toList args.toList ds p := hA0
  rw [Tryz.params3] at hA hval
  obtain ⟨v0, d0, rfl, rfl, h0⟩ := trodAll_one hA
  obtain ⟨rfl, rfl⟩ := trodVars_none hV
  obtain ⟨s0, rfl, rfl, rfl, wf0⟩ := Go.ChangeMaps.open_string Tryz.underlying9 (hval 0 9 v0 rfl rfl) h0
  clear hA0 hval0
  have hlen : s0.data.toList.length ≤ 9223372036854775807 := by
    have h1 : s0.data.toList.length = s0.size := by simp
    have h2 : maxLen ≤ 9223372036854775807 := by decide
    omega
  have walk := Sp.parses_walk s0.data.toList W (envA_of_laid hL) (envI_of_laid hL) hlen
  rw [ba_of] at walk
  refine walk.mono fun e W' ⟨he, bel⟩ => ?_
  subst he
  exact ⟨_, rfl, _, _, _, [], _, [], hW', trodAll_mk1 (shut_bool Tryz.underlying4 _), trodAll_mk1 (Go.ChangeMaps.shut_string Tryz.underlying9 wf0), rfl, bel.frame _, fun h => by cases h⟩
theorem row : Rows.SourceParsesSaid :=
  OpenClaim.holds_of_wide 3 Tryz.f3 rfl rfl rfl rfl rfl rfl rfl ⟨rfl, rfl, rfl, rfl, rfl⟩ rfl rfl rfl rfl rfl (by kernel_rfl) Tryz.func3 (by kernel_rfl)
    (of_decide_eq_true (by kernel_rfl)) (by unfold Func.isWrapper; first | (rw [if_pos (by decide +kernel)]; kernel_rfl) | (rw [if_neg (by decide +kernel)]; exact ⟨rfl, rfl⟩))
    (fun os started H enc _ => lifted os started H enc)
theorem plain (f : FuncId) (fn : Func) (hf : Tryz.pinned.checked.prog.funcNamed "escapement/escapementlaw11.SourceParses" = some f) (hfn : Tryz.pinned.checked.prog.funcs[f]? = some fn) :
    true = Tryz.pinned.checked.prog.looks [] ∧ ∀ (j : Nat) t, fn.params[j]? = some t → Tryz.pinned.checked.prog.wantsStandIn t = false := by
  obtain rfl : f = 3 := Option.some.inj ((show Tryz.prog.funcNamed "escapement/escapementlaw11.SourceParses" = some 3 by kernel_rfl).symm.trans hf) |>.symm
  obtain rfl : fn = Tryz.f3 := (Option.some.inj (Tryz.func3.symm.trans hfn)).symm
  refine ⟨by kernel_rfl, fun j t ht => ?_⟩
  rw [Tryz.params3] at ht
  obtain rfl : t = 9 := by simpa using Array.mem_of_getElem? ht
  exact (show Tryz.prog.wantsStandIn 9 = false by kernel_rfl)
end SourceParses

theorem sourceParses_holds : Rows.SourceParsesCardSaid :=
  Claim7.holds_tied_plain_at .later [] _ _ _ _ SourceParses.row (fun _ h => by cases h) (by kernel_rfl) (fun _ h => by cases h) sourceParses_row_tie rfl ⟨rfl, rfl⟩ (by kernel_rfl) rfl SourceParses.plain (by kernel_rfl)
#print axioms sourceParses_holds
end Go.Proofs.YtnhmmplheihojaaGreatDoor
