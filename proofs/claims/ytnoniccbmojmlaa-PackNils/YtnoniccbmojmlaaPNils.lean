/- PackNils. -/
import Derived.Test.YtnoniccbmojmlaaPOpen
import Derived.Test.YtnoniccbmojmlaaPNilB
import Derived.Deep.RegionWith
import Derived.Deep.CutRange
import Derived.ChangeMaps5
namespace Go.Proofs.Ytnoniccbmojmlaa
open Go.ChangeShapes Go.WideShapes Go.ChangeAt Go.RowKit Go.Joins Go.Deep

theorem cells6 {w : World} {b : Nat} {x0 x1 x2 x3 x4 x5 : Value} {T : TypeId} (h : w.heap[b]? = some (.cells #[x0, x1, x2, x3, x4, x5] T (0, 0))) :
    w.cell? ⟨b, 0, none⟩ = some x0 ∧ w.cell? ⟨b, 1, none⟩ = some x1 ∧ w.cell? ⟨b, 2, none⟩ = some x2 ∧ w.cell? ⟨b, 3, none⟩ = some x3 ∧ w.cell? ⟨b, 4, none⟩ = some x4 ∧ w.cell? ⟨b, 5, none⟩ = some x5 := by
  refine ⟨?_, ?_, ?_, ?_, ?_, ?_⟩ <;> (rw [cell_of_row _ _ _ _ _ _ h]; rfl)

theorem stillCell' {w w' : World} {p : Addr} {v : Value} (h : w.cell? p = some v) (hb : Below w.heap.size w w') : w'.cell? p = some v :=
  (Keep.ofBelow (S := fun _ => False) hb (Nat.le_refl _)).cell h fun h => h

theorem Keep.stillBlk' {w w' : World} {b : Nat} {o : Obj} (h : w.heap[b]? = some o) (hb : Below w.heap.size w w') : w'.heap[b]? = some o :=
  (Keep.ofBelow (S := fun _ => False) hb (Nat.le_refl _)).blk h fun h => h

set_option maxRecDepth 10000 in
set_option maxHeartbeats 2000000 in
theorem nils_walk (x : Int) (s : ByteArray) (a : Option Addr) (n c : Nat) (l : List Nat) (w : World) (h : Rd w a n l) (h0 : a = none → c = 0) :
    Calls Try.prog 4 #[.int .i64 x, .string s, .slice a n c] w fun en w' => en = .returned (.bool true) ∧ Below w.heap.size w w' := by
  have HR := hide h
  have H0 := hide h0
  have hmf : ∀ (fn : Fn) (first cap : Array Value) (w : World), (Instr.makeFunc fn first cap).run Try.prog w = .ok (.func fn first cap) w := fun _ _ _ _ => rfl
  clear h h0
  go_enter Try.func4, Try.ntmps4
  go_wp2_with fail
  refine (known_any _).mono ?_
  rintro e w1 ⟨rfl, hb⟩
  have HB1 := hide hb
  have HR1 := hide (HR.out.keep hb)
  clear HR hb
  go_wp2_with fail
  refine (Numbers_any 0 9223372036854775807 _).mono ?_
  rintro e w2 ⟨lb, mb, rfl, _, _, _, _, hb⟩
  have HB2 := hide (further HB1.out hb)
  have HR2 := hide (HR1.out.keep hb)
  clear HB1 HR1 hb
  go_wp2_with fail
  refine (PutNilI _ _ _ _ (.int .i64 x) _).mono ?_
  rintro e w3 ⟨rfl, hb⟩
  have HB3 := hide (further HB2.out hb)
  have HR3 := hide (HR2.out.keep hb)
  clear HB2 HR2 hb
  go_wp2_with fail
  refine (Texts_any 9223372036854775807 _).mono ?_
  rintro e w4 ⟨mb2, rfl, _, _, hb⟩
  have HB4 := hide (further HB3.out hb)
  have HR4 := hide (HR3.out.keep hb)
  clear HB3 HR3 hb
  go_wp2_with fail
  refine (ListsS _ _ _ _ 9223372036854775807 _).mono ?_
  rintro e w5 ⟨mb3, ob3, rfl, _, _, _, _, hb⟩
  have HB5 := hide (further HB4.out hb)
  have HR5 := hide (HR4.out.keep hb)
  clear HB4 HR4 hb
  go_wp2_with fail
  have hba := (Below.refl w5.heap.size w5).alloc (Nat.le_refl _) (.cells #[.string s] 9)
  have HB6 := hide (further HB5.out hba)
  have HR6 := hide (HR5.out.keep hba)
  clear HB5 HR5 hba
  refine (PutNilLs _ _ _ _ _ _).mono ?_
  rintro e w7 ⟨rfl, hb⟩
  have HB7 := hide (further HB6.out hb)
  have HR7 := hide (HR6.out.keep hb)
  clear HB6 HR6 hb
  go_wp2_with fail
  refine (Numbers_any 0 9223372036854775807 _).mono ?_
  rintro e w8 ⟨lb4, mb4, rfl, _, _, _, _, hb⟩
  have HB8 := hide (further HB7.out hb)
  have HR8 := hide (HR7.out.keep hb)
  clear HB7 HR7 hb
  go_wp2_with fail
  refine (TakeNilI _ _ _ _ _).mono ?_
  rintro e w9 ⟨rfl, hb⟩
  have HB9 := hide (further HB8.out hb)
  have HR9 := hide (HR8.out.keep hb)
  clear HB8 HR8 hb
  go_wp2_with fail
  refine (Texts_any 9223372036854775807 _).mono ?_
  rintro e w10 ⟨mb5, rfl, _, _, hb⟩
  have HB10 := hide (further HB9.out hb)
  have HR10 := hide (HR9.out.keep hb)
  clear HB9 HR9 hb
  go_wp2_with fail
  refine (ListsS _ _ _ _ 9223372036854775807 _).mono ?_
  rintro e w11 ⟨mb6, ob6, rfl, _, _, _, _, hb⟩
  have HB11 := hide (further HB10.out hb)
  have HR11 := hide (HR10.out.keep hb)
  clear HB10 HR10 hb
  go_wp2_with fail
  refine (TakeNilLs _ _ _ _ _).mono ?_
  rintro e w12 ⟨rfl, hb⟩
  have HB12 := hide (further HB11.out hb)
  have HR12 := hide (HR11.out.keep hb)
  clear HB11 HR11 hb
  have hba := (Below.refl w12.heap.size w12).alloc (Nat.le_refl _) (.cells #[.int .i64 0] 3)
  have hcl := heap_alloc_new w12 (.cells #[.int .i64 0] 3)
  have HB13 := hide (further HB12.out hba)
  have HR13 := hide (HR12.out.keep hba)
  have HCL := hide hcl
  clear HB12 HR12 hba hcl
  go_wp2_with fail
  generalize hw13 : w12.alloc (.cells #[.int .i64 0] 3) = w13 at *
  clear hw13
  generalize w12.heap.size = cb at *
  refine (MakeI _ _ _ _ _).mono ?_
  rintro e w14 ⟨rfl, hb⟩
  have HB14 := hide (further HB13.out hb)
  have HR14 := hide (HR13.out.keep hb)
  have HCL14 := hide (Keep.stillBlk' HCL.out hb)
  clear HB13 HR13 HCL hb
  have hba := (Below.refl w14.heap.size w14).alloc (Nat.le_refl _) (.cells #[.func (.func 24) #[] #[.pointer (some ⟨cb, 0, none⟩)], .func (.func 25) #[] #[.pointer (some ⟨cb, 0, none⟩)]] 29)
  have HF15 := hide (heap_alloc_new w14 (.cells #[.func (.func 24) #[] #[.pointer (some ⟨cb, 0, none⟩)], .func (.func 25) #[] #[.pointer (some ⟨cb, 0, none⟩)]] 29))
  have HB15 := hide (further HB14.out hba)
  have HR15 := hide (HR14.out.keep hba)
  have HCL15 := hide (Keep.stillBlk' HCL14.out hba)
  clear HB14 HR14 HCL14 hba
  go_wp2_with fail
  generalize hw15 : w14.alloc (.cells #[.func (.func 24) #[] #[.pointer (some ⟨cb, 0, none⟩)], .func (.func 25) #[] #[.pointer (some ⟨cb, 0, none⟩)]] 29) = w15 at *
  clear hw15
  generalize w14.heap.size = fb at *
  refine (PutNilI _ _ _ _ _ _).mono ?_
  rintro e w16 ⟨rfl, hb⟩
  have HB16 := hide (further HB15.out hb)
  have HR16 := hide (HR15.out.keep hb)
  have HCL16 := hide (Keep.stillBlk' HCL15.out hb)
  have HF16 := hide (Keep.stillBlk' HF15.out hb)
  have f0 := cell_of_row _ _ 0 _ _ _ HF16.out
  have f1 := cell_of_row _ _ 1 _ _ _ HF16.out
  clear HF15 HB15 HR15 HCL15 hb
  go_wp2_with fail
  refine (TakeNilI _ _ _ _ _).mono ?_
  rintro e w17 ⟨rfl, hb⟩
  have HB17 := hide (further HB16.out hb)
  have HR17 := hide (HR16.out.keep hb)
  have HCL17 := hide (Keep.stillBlk' HCL16.out hb)
  clear HB16 HR16 HCL16 hb
  have cl := cell_of_row _ _ 0 _ _ _ HCL17.out
  clear f0 f1
  go_upto_region 15 with fail
  have hba := (Below.refl w17.heap.size w17).alloc (Nat.le_refl _) (.cells #[.nilFunc, .nilFunc] 29)
  have hzb := heap_alloc_new w17 (.cells #[.nilFunc, .nilFunc] 29)
  have HB18 := hide (further HB17.out hba)
  have HR18 := hide (HR17.out.keep hba)
  have HCL18 := hide (Keep.stillBlk' HCL17.out hba)
  clear HB17 HR17 HCL17 hba cl
  generalize hw18 : w17.alloc (.cells #[.nilFunc, .nilFunc] 29) = w18 at *
  clear hw18
  generalize w17.heap.size = zb at *
  have HK := hide (Below.refl w18.heap.size w18).drew
  have z0 : w18.cell? ⟨zb, 0, none⟩ = some .nilFunc := by rw [cell_of_row _ _ _ _ _ _ hzb]; rfl
  have z1 : w18.cell? ⟨zb, 1, none⟩ = some .nilFunc := by rw [cell_of_row _ _ _ _ _ _ hzb]; rfl
  have HZ0 := hide (show w18.drew.cell? ⟨zb, 0, none⟩ = some .nilFunc from z0)
  have HZ1 := hide (show w18.drew.cell? ⟨zb, 1, none⟩ = some .nilFunc from z1)
  clear hzb
  go_cut [14] from 64 to 69 (fun st wx => ∃ b, st = .slice (some ⟨b, 0, none⟩) 3 3 ∧ wx.heap[b]? = some (.cells #[.nilFunc, .nilFunc, .nilFunc, .func (.func 26) #[] #[.pointer (some ⟨cb, 0, none⟩)], .func (.func 27) #[] #[.pointer (some ⟨cb, 0, none⟩)], .nilFunc] 29 (0, 0)) ∧ Below w18.heap.size w18 wx)
  case first =>
    refine wp_region_any (by kernel_rfl) ?_
    change wpAny _ _ _ _ _ _ _ (World.drew _)
    refine wpAny_take (i := 1) (v := .func (.func 26) #[] #[.pointer (some ⟨cb, 0, none⟩)]) rfl (by kernel_rfl) (by kernel_rfl) (by kernel_rfl) (fun _ _ _ h => h) (Or.inl ⟨by rfl, fun w => by go_simp⟩) ?_
    refine wpAny_take (i := 3) (v := .func (.func 27) #[] #[.pointer (some ⟨cb, 0, none⟩)]) rfl (by kernel_rfl) (by kernel_rfl) (by kernel_rfl) (fun _ _ _ h => h) (Or.inl ⟨by rfl, fun w => by go_simp⟩) ?_
    refine wpAny_ready (rs := [0, 2]) (by kernel_rfl) (by simp) ?_
    refine AllReady.cons rfl (fun K hK => ?_) (AllReady.cons rfl (fun K hK => ?_) AllReady.nil)
    · go_simp
      try (refine hK _ _ ?_; clear hK K)
      refine wpAny_ready (rs := [2]) (by kernel_rfl) (by simp) ?_
      refine AllReady.cons rfl (fun K hK => ?_) AllReady.nil
      go_simp
      go_wp2_with (go_at_call 23; refine (MakeNot _ _ ?_ _).mono ?_; (first | exact Unwhole.take _ _ | exact Unwhole.put _ _); rintro e wy ⟨rfl, hb⟩; have HZ0 := hide (stillCell' HZ0.out hb); have HZ1 := hide (stillCell' HZ1.out hb); have z0 := HZ0.out; have z1 := HZ1.out; have HK := hide (further HK.out hb); clear hb)
      try (refine hK _ _ ?_; clear hK K)
      refine wpAny_ready (rs := [4]) (by kernel_rfl) (by simp) ?_
      refine AllReady.cons rfl (fun K hK => ?_) AllReady.nil
      go_simp
      go_wp2_with (go_at_call 23; refine (MakeNot _ _ ?_ _).mono ?_; (first | exact Unwhole.take _ _ | exact Unwhole.put _ _); rintro e wy ⟨rfl, hb⟩; have HZ0 := hide (stillCell' HZ0.out hb); have HZ1 := hide (stillCell' HZ1.out hb); have z0 := HZ0.out; have z1 := HZ1.out; have HK := hide (further HK.out hb); clear hb)
      try (refine hK _ _ ?_; clear hK K)
      refine wpAny_ready (rs := [5]) (by kernel_rfl) (by simp) ?_
      refine AllReady.cons rfl (fun K hK => ?_) AllReady.nil
      go_simp
      try (refine hK _ _ ?_; clear hK K)
      refine wpAny_ready (rs := [6]) (by kernel_rfl) (by simp) ?_
      refine AllReady.cons rfl (fun K hK => ?_) AllReady.nil
      go_simp
      try (refine hK _ _ ?_; clear hK K)
      refine wpAny_done (by kernel_rfl) ?_ _
      go_wp2_with fail
      go_meet
      exact ⟨_, rfl, heap_alloc_new _ _, HK.out.alloc HK.out.size _⟩
    · go_simp
      go_wp2_with (go_at_call 23; refine (MakeNot _ _ ?_ _).mono ?_; (first | exact Unwhole.take _ _ | exact Unwhole.put _ _); rintro e wy ⟨rfl, hb⟩; have HZ0 := hide (stillCell' HZ0.out hb); have HZ1 := hide (stillCell' HZ1.out hb); have z0 := HZ0.out; have z1 := HZ1.out; have HK := hide (further HK.out hb); clear hb)
      try (refine hK _ _ ?_; clear hK K)
      refine wpAny_ready (rs := [0, 4]) (by kernel_rfl) (by simp) ?_
      refine AllReady.cons rfl (fun K hK => ?_) (AllReady.cons rfl (fun K hK => ?_) AllReady.nil)
      · go_simp
        try (refine hK _ _ ?_; clear hK K)
        refine wpAny_ready (rs := [4]) (by kernel_rfl) (by simp) ?_
        refine AllReady.cons rfl (fun K hK => ?_) AllReady.nil
        go_simp
        go_wp2_with (go_at_call 23; refine (MakeNot _ _ ?_ _).mono ?_; (first | exact Unwhole.take _ _ | exact Unwhole.put _ _); rintro e wy ⟨rfl, hb⟩; have HZ0 := hide (stillCell' HZ0.out hb); have HZ1 := hide (stillCell' HZ1.out hb); have z0 := HZ0.out; have z1 := HZ1.out; have HK := hide (further HK.out hb); clear hb)
        try (refine hK _ _ ?_; clear hK K)
        refine wpAny_ready (rs := [5]) (by kernel_rfl) (by simp) ?_
        refine AllReady.cons rfl (fun K hK => ?_) AllReady.nil
        go_simp
        try (refine hK _ _ ?_; clear hK K)
        refine wpAny_ready (rs := [6]) (by kernel_rfl) (by simp) ?_
        refine AllReady.cons rfl (fun K hK => ?_) AllReady.nil
        go_simp
        try (refine hK _ _ ?_; clear hK K)
        refine wpAny_done (by kernel_rfl) ?_ _
        go_wp2_with fail
        go_meet
        exact ⟨_, rfl, heap_alloc_new _ _, HK.out.alloc HK.out.size _⟩
      · go_simp
        go_wp2_with (go_at_call 23; refine (MakeNot _ _ ?_ _).mono ?_; (first | exact Unwhole.take _ _ | exact Unwhole.put _ _); rintro e wy ⟨rfl, hb⟩; have HZ0 := hide (stillCell' HZ0.out hb); have HZ1 := hide (stillCell' HZ1.out hb); have z0 := HZ0.out; have z1 := HZ1.out; have HK := hide (further HK.out hb); clear hb)
        try (refine hK _ _ ?_; clear hK K)
        refine wpAny_ready (rs := [0]) (by kernel_rfl) (by simp) ?_
        refine AllReady.cons rfl (fun K hK => ?_) AllReady.nil
        go_simp
        try (refine hK _ _ ?_; clear hK K)
        refine wpAny_ready (rs := [5]) (by kernel_rfl) (by simp) ?_
        refine AllReady.cons rfl (fun K hK => ?_) AllReady.nil
        go_simp
        try (refine hK _ _ ?_; clear hK K)
        refine wpAny_ready (rs := [6]) (by kernel_rfl) (by simp) ?_
        refine AllReady.cons rfl (fun K hK => ?_) AllReady.nil
        go_simp
        try (refine hK _ _ ?_; clear hK K)
        refine wpAny_done (by kernel_rfl) ?_ _
        go_wp2_with fail
        go_meet
        exact ⟨_, rfl, heap_alloc_new _ _, HK.out.alloc HK.out.size _⟩
  case rest =>
    obtain ⟨b, rfl, hblk, hbel⟩ := hcut
    have HB19 := hide (further HB18.out hbel)
    have HR19 := hide (HR18.out.keep hbel)
    have HCL19 := hide (Keep.stillBlk' HCL18.out hbel)
    have HFB := hide hblk
    clear HB18 HR18 HCL18 hbel hblk HK HZ0 HZ1 z0 z1
    generalize hr : ((newR l).fail 22).fault = r
    have HRR := hide hr
    clear hr
    go_wp2_with fail
    go_loopw [15] (fun i wx => ∃ k : Nat, k ≤ 3 ∧ i = .int .i64 (k : Nat) ∧ Below w.heap.size w wx ∧ Rd wx a n l ∧ wx.heap[cb]? = some (.cells #[.int .i64 0] 3 (0, 0)) ∧ wx.heap[b]? = some (.cells #[.nilFunc, .nilFunc, .nilFunc, .func (.func 26) #[] #[.pointer (some ⟨cb, 0, none⟩)], .func (.func 27) #[] #[.pointer (some ⟨cb, 0, none⟩)], .nilFunc] 29 (0, 0))) (fun i _ => 3 - (intOf i).toNat)
    case atStart => exact ⟨0, by omega, rfl, HB19.out, HR19.out, HCL19.out, HFB.out⟩
    case round =>
      clear HB19 HR19 HCL19 HFB
      obtain ⟨k, hk, rfl, hb, hrd, hcl, hfb⟩ := hrel
      have HB := hide hb
      have HR := hide hrd
      have HCL := hide hcl
      have HF := hide hfb
      clear hb hrd hcl hfb
      by_cases hlt : k < 3
      · obtain ⟨f0, f1, f2, f3, f4, f5⟩ := cells6 HF.out
        obtain rfl | rfl | rfl : k = 0 ∨ k = 1 ∨ k = 2 := by omega
        all_goals
          clear hk hlt
          go_wp2_with fail
          refine (BytesNot _ _ _ (by first | exact Unwhole.both | exact Unwhole.take _ _ | exact Unwhole.put _ _) 99 _).mono ?_
          rintro e wA ⟨aA, cA, rfl, hb⟩
          have HB1 := hide (further HB.out hb)
          have HR1 := hide (HR.out.keep hb)
          have HCL1 := hide (Keep.stillBlk' HCL.out hb)
          have HF1 := hide (Keep.stillBlk' HF.out hb)
          clear HB HR HCL HF hb f0 f1 f2 f3 f4 f5
          obtain ⟨f0, f1, f2, f3, f4, f5⟩ := cells6 HF1.out
          go_wp2_with fail
          refine (ReadNot _ _ (by first | exact Unwhole.both | exact Unwhole.take _ _ | exact Unwhole.put _ _) a n c l r HRR.out _ HR1.out H0.out).mono ?_
          rintro e wB ⟨rfl, hb⟩
          have HB2 := hide (further HB1.out hb)
          have HR2 := hide (HR1.out.keep hb)
          have HCL2 := hide (Keep.stillBlk' HCL1.out hb)
          have HF2 := hide (Keep.stillBlk' HF1.out hb)
          clear HB1 HR1 HCL1 HF1 hb f0 f1 f2 f3 f4 f5
          go_wp2_with fail
          refine (RNew_any a n c l _ HR2.out H0.out).mono ?_
          rintro e wC ⟨q, rfl, hc2, hfz, hq, hbC⟩
          have HC2 := hide hc2
          have HFZ := hide hfz
          have HQ := hide hq
          have HBC := hide hbC
          clear hc2 hfz hq hbC
          go_wp2_with fail
          refine (RWrong_any q (newR l) _ HC2.out HFZ.out).mono ?_
          rintro e wD ⟨rfl, hc2, hk⟩
          rw [HRR.out] at hc2
          have hb := HBC.out.trans (hk.below (B := wB.heap.size) HBC.out.size (fun i hi => by have : i = q := hi; have := HQ.out; omega))
          have HB3 := hide (further HB2.out hb)
          have HR3 := hide (HR2.out.keep hb)
          have HCL3 := hide (Keep.stillBlk' HCL2.out hb)
          have HF3 := hide (Keep.stillBlk' HF2.out hb)
          clear HB2 HR2 HCL2 HF2 hb hk HC2 HFZ HQ HBC
          go_wp2_with fail
          first
            | exact ⟨⟨1, by omega, rfl, HB3.out, HR3.out, HCL3.out, HF3.out⟩, by simp [intOf]⟩
            | exact ⟨⟨2, by omega, rfl, HB3.out, HR3.out, HCL3.out, HF3.out⟩, by simp [intOf]⟩
            | exact ⟨⟨3, by omega, rfl, HB3.out, HR3.out, HCL3.out, HF3.out⟩, by simp [intOf]⟩
      · have hk3 : k = 3 := by omega
        subst hk3
        have cl := cell_of_row _ _ 0 _ _ _ HCL.out
        clear hk hlt
        go_wp2
        go_ret
        first
          | exact ⟨rfl, HB.out⟩
          | exact ⟨by simp, HB.out⟩

namespace PackNils
set_option maxRecDepth 100000 in
theorem lifted (os : Os) (started : os.Started) (H : Type) (enc : TypeId × Value → H) :
    ReturnsInHanded {} Try.checked os 4 .any (Rows.packNilsSpec.pre6 enc Try.prog Try.f4 Rows.packNilsRow.domain false) (Rows.packNilsSpec.post enc Try.prog Try.f4 false true false false) := by
  refine returnsInHanded_of_change_sized (C := Try.checked) own started (by kernel_rfl) Try.func4
    (ChangeSpec.witness6 (enc := enc) (C := Try.checked) false ⟨#[], #[.int .i64 0, .string ⟨#[]⟩, .slice none 0 0], []⟩ 8 (by kernel_rfl) (by kernel_rfl) (by kernel_rfl) (by kernel_rfl)) ?_
  intro W base args ds gs before hval0 hW _ hsz0 _
  have hsz : (DataW.weightsEach Try.prog (Try.f4.params.toList ++ Rows.packNilsSpec.plain.varTypes Try.prog) (ds ++ gs)).all (· ≤ reachBytes) = true := hsz0
  have hval : ∀ (j : Nat) t v, Try.f4.params[j]? = some t → args[j]? = some v → Value.okWide Try.prog W .any base t v := hval0
  have hW' := hW
  obtain ⟨p, q, hA0, hV, rfl, hfz, hnd⟩ := hW
  have hA : DataW.TrodAll enc Try.prog W 0 (fun _ => true) true Try.f4.params.toList args.toList ds p := hA0
  rw [Try.params4] at hA hval hsz
  obtain ⟨v0, v1, v2, d0, d1, d2, p0, p1, p2, rfl, rfl, rfl, h0, h1, h2⟩ := trodAll_three hA
  obtain ⟨rfl, rfl⟩ := trodVars_none hV
  have lt2 : ∀ x ∈ p2, x.block < W.heap.size := by obtain ⟨m, hm⟩ := h2; exact DataW.trod_lt m _ _ _ hm
  obtain ⟨x0, rfl, rfl, rfl, wf0⟩ := open_int Try.underlying3 (hval 0 3 v0 rfl rfl) h0
  obtain ⟨s1, rfl, rfl, rfl, wf1⟩ := Go.ChangeMaps.open_string Try.underlying9 (hval 1 9 v1 rfl rfl) h1
  obtain ⟨a2, n2, c2, rfl⟩ := okWide_slice Try.underlying22 (hval 2 22 v2 rfl rfl)
  obtain ⟨l2, hl2, hc2, hz2⟩ := open_bytes h2 (weigh hsz (j := 2) rfl rfl)
  clear hA0 hval0
  refine (nils_walk x0 s1 a2 n2 c2 l2 W hl2 hz2).mono fun e W' ⟨he, bel⟩ => ?_
  subst he
  exact ⟨_, rfl, _, _, _, [], _, [], hW', trodAll_mk1 (shut_bool Try.underlying4 _), trodAll_mk3 (shut_int Try.underlying3 wf0) (Go.ChangeMaps.shut_string Try.underlying9 wf1) (Below.trod laidOut (by kernel_rfl) (of_decide_eq_true (by kernel_rfl)) h2 bel lt2), rfl, bel.frame _, fun h => by cases h⟩

theorem over : Rows.packNilsRow.holds Try.pinned (OpenSpec.ofChange Rows.packNilsSpec) :=
  OpenClaim.holds_of_wide 4 Try.f4 rfl rfl rfl rfl rfl rfl rfl ⟨rfl, rfl, rfl, rfl, rfl⟩ rfl rfl rfl rfl rfl (by kernel_rfl) Try.func4 (by kernel_rfl)
    (of_decide_eq_true (by kernel_rfl)) (by unfold Func.isWrapper; first | (rw [if_pos (by decide +kernel)]; kernel_rfl) | (rw [if_neg (by decide +kernel)]; exact ⟨rfl, rfl⟩))
    (fun os started H enc _ => lifted os started H enc)
end PackNils

theorem packNils_holds : Rows.PackNilsSaid := PackNils.over
#print axioms packNils_holds
end Go.Proofs.Ytnoniccbmojmlaa
