/- PackNumbers. -/
import Derived.Test.YtnoniccbmojmlaaPOpen
import Derived.Test.YtnoniccbmojmlaaPRefN
namespace Go.Proofs.Ytnoniccbmojmlaa
open Go.ChangeShapes Go.WideShapes Go.ChangeAt Go.RowKit Go.Joins Go.Deep

theorem alike_yes (a b : Option Addr) (n c m d : Nat) (e : Int) (l : List Nat) (w : World) (h1 : Rd w a n l) (h2 : Rd w b m l) :
    Calls Try.prog 16 #[.slice a n c, .int .i64 e, .slice b m d, .int .i64 e] w fun en w' => en = .returned (.bool true) ∧ w' = w := by
  have k1 := conv_rd h1 c
  have k2 := conv_rd h2 d
  clear h1 h2
  generalize str l = S at *
  go_enter Try.func16, Try.ntmps16
  go_wp2
  go_ret
  exact ⟨by simp, rfl⟩

theorem Keep.stillBlk {w w' : World} {b : Nat} {o : Obj} (h : w.heap[b]? = some o) (hb : Below w.heap.size w w') : w'.heap[b]? = some o :=
  (Keep.ofBelow (S := fun _ => False) hb (Nat.le_refl _)).blk h fun h => h

theorem cells5 {w : World} {b : Nat} {x0 x1 x2 x3 x4 : Value} {T : TypeId} (h : w.heap[b]? = some (.cells #[x0, x1, x2, x3, x4] T (0, 0))) :
    w.cell? ⟨b, 0, none⟩ = some x0 ∧ w.cell? ⟨b, 1, none⟩ = some x1 ∧ w.cell? ⟨b, 2, none⟩ = some x2 ∧ w.cell? ⟨b, 3, none⟩ = some x3 ∧ w.cell? ⟨b, 4, none⟩ = some x4 := by
  refine ⟨?_, ?_, ?_, ?_, ?_⟩ <;> (rw [cell_of_row _ _ _ _ _ _ h]; rfl)

theorem stillCell {w w' : World} {p : Addr} {v : Value} (h : w.cell? p = some v) (hb : Below w.heap.size w w') : w'.cell? p = some v :=
  (Keep.ofBelow (S := fun _ => False) hb (Nat.le_refl _)).cell h fun h => h

set_option maxRecDepth 10000 in
set_option maxHeartbeats 2000000 in
theorem numbers_walk (least most x rm : Int) (hx : x ≤ 9223372036854775807) (a : Option Addr) (n c : Nat) (l : List Nat) (w : World) (h : Rd w a n l) (h0 : a = none → c = 0) :
    Calls Try.prog 3 #[.agg #[.int .i64 least, .int .i64 most, .int .i64 x, .int .i64 rm, .slice a n c]] w fun en w' => en = .returned (.bool true) ∧ Below w.heap.size w w' := by
  have hba := (Below.refl w.heap.size w).alloc (Nat.le_refl _) (.cells #[.int .i64 least, .int .i64 most, .int .i64 x, .int .i64 rm, .slice a n c] 24)
  have HX := hide (heap_alloc_new w (.cells #[.int .i64 least, .int .i64 most, .int .i64 x, .int .i64 rm, .slice a n c] 24))
  have HR := hide (h.keep hba)
  have H0 := hide h0
  have HB := hide hba
  clear h h0 hba
  go_enter Try.func3, Try.ntmps3
  go_wp2_with fail
  refine (known_any _).mono ?_
  rintro e w1 ⟨rfl, hb⟩
  have HB1 := hide (further HB.out hb)
  have HX1 := hide (Keep.stillBlk HX.out hb)
  have HR1 := hide (HR.out.keep hb)
  obtain ⟨x0, x1, x2, x3, x4⟩ := cells5 HX1.out
  clear HB HX HR hb
  go_wp2_with fail
  refine (Numbers_any least most _).mono ?_
  rintro e w2 ⟨lb, mb, rfl, hl, hm, _, _, hb⟩
  have hba := (Below.refl w2.heap.size w2).alloc (Nat.le_refl _) (.cells #[.func (.func 39) #[] #[.pointer (some ⟨lb, 0, none⟩), .pointer (some ⟨mb, 0, none⟩)], .func (.func 43) #[] #[.pointer (some ⟨lb, 0, none⟩), .pointer (some ⟨mb, 0, none⟩)]] 29)
  have HF2 := hide (heap_alloc_new w2 (.cells #[.func (.func 39) #[] #[.pointer (some ⟨lb, 0, none⟩), .pointer (some ⟨mb, 0, none⟩)], .func (.func 43) #[] #[.pointer (some ⟨lb, 0, none⟩), .pointer (some ⟨mb, 0, none⟩)]] 29))
  have HB2 := hide (further (further HB1.out hb) hba)
  have HX2 := hide (Keep.stillBlk (Keep.stillBlk HX1.out hb) hba)
  have HR2 := hide ((HR1.out.keep hb).keep hba)
  have HL2 := hide (stillCell hl hba)
  have HM2 := hide (stillCell hm hba)
  obtain ⟨y0, y1, y2, y3, y4⟩ := cells5 HX2.out
  clear HB1 HX1 HR1 hb hba hl hm x0 x1 x2 x3 x4
  go_wp2_with fail
  generalize hw2 : w2.alloc (.cells #[.func (.func 39) #[] #[.pointer (some ⟨lb, 0, none⟩), .pointer (some ⟨mb, 0, none⟩)], .func (.func 43) #[] #[.pointer (some ⟨lb, 0, none⟩), .pointer (some ⟨mb, 0, none⟩)]] 29) = w2a at *
  clear hw2
  have fc0 : w2a.cell? ⟨w2.heap.size, 0, none⟩ = some (.func (.func 39) #[] #[.pointer (some ⟨lb, 0, none⟩), .pointer (some ⟨mb, 0, none⟩)]) := by rw [cell_of_row _ _ _ _ _ _ HF2.out]; rfl
  have fc1 : w2a.cell? ⟨w2.heap.size, 1, none⟩ = some (.func (.func 43) #[] #[.pointer (some ⟨lb, 0, none⟩), .pointer (some ⟨mb, 0, none⟩)]) := by rw [cell_of_row _ _ _ _ _ _ HF2.out]; rfl
  generalize w2.heap.size = fb at *
  generalize hs2 : numW least most x ⟨[], room rm, 0⟩ = s2
  have HS2 := hide hs2
  clear hs2
  refine (BytesI _ _ _ _ (.int .i64 x) (numW least most x) rm s2 HS2.out w2a (putsNum _ w2a lb mb least most x hx HL2.out HM2.out (numForm_lt HL2.out) (numForm_lt HM2.out)) ent_putNum).mono ?_
  rintro e w3 ⟨v, rfl, ho, hb, hfn⟩
  obtain ⟨a1, c1, rfl, hr1, _⟩ := ownsRow_rd ho hfn.1 (by have := hfn.2; omega)
  have HA := hide hr1
  have HB3 := hide (further HB2.out hb)
  have HX3 := hide (Keep.stillBlk HX2.out hb)
  have HF3 := hide (Keep.stillBlk HF2.out hb)
  have HR3 := hide (HR2.out.keep hb)
  have HL3 := hide (stillCell HL2.out hb)
  have HM3 := hide (stillCell HM2.out hb)
  obtain ⟨x0, x1, x2, x3, x4⟩ := cells5 HX3.out
  clear HB2 HX2 HF2 HR2 HL2 HM2 hb ho hfn hr1 y0 y1 y2 y3 y4 fc0 fc1
  generalize (told s2).length = tl at *
  go_wp2_with fail
  refine (RNewWriter_any rm _).mono ?_
  rintro e w4 ⟨rfl, h4⟩
  have hb4 := h4.keep.below (Nat.le_refl w3.heap.size) (fun i hi => hi)
  obtain ⟨y0, y1, y2, y3, y4⟩ := cells5 (Keep.stillBlk HX3.out hb4)
  have H4 := hide h4
  clear h4 hb4 x0 x1 x2 x3 x4
  go_wp2_with fail
  refine (RNumber_any _ w3 _ least most x hx _ _ H4.out).mono ?_
  rintro e w5 ⟨rfl, h5⟩
  rw [putW_zero rfl, HS2.out] at h5
  have H5 := hide h5
  clear h5 H4
  go_wp2_with fail
  refine (RDone_any _ w3 _ s2 _ H5.out).mono ?_
  rintro e w6 ⟨v, rfl, ho, hb, hfn⟩
  obtain ⟨a2, c2, rfl, hr2, _⟩ := ownsRow_rd ho hfn.1 (by have := hfn.2; omega)
  have hb6 := further (H5.out.keep.below (Nat.le_refl w3.heap.size) (fun i hi => hi)) hb
  have HA6 := hide (HA.out.keep hb6)
  have HC := hide hr2
  have HB6 := hide (further HB3.out hb6)
  have HX6 := hide (Keep.stillBlk HX3.out hb6)
  have HF6 := hide (Keep.stillBlk HF3.out hb6)
  have HR6 := hide (HR3.out.keep hb6)
  have HL6 := hide (stillCell HL3.out hb6)
  have HM6 := hide (stillCell HM3.out hb6)
  obtain ⟨x0, x1, x2, x3, x4⟩ := cells5 HX6.out
  have fc0 : w6.cell? ⟨fb, 0, none⟩ = some (.func (.func 39) #[] #[.pointer (some ⟨lb, 0, none⟩), .pointer (some ⟨mb, 0, none⟩)]) := by rw [cell_of_row _ _ _ _ _ _ HF6.out]; rfl
  have fc1 : w6.cell? ⟨fb, 1, none⟩ = some (.func (.func 43) #[] #[.pointer (some ⟨lb, 0, none⟩), .pointer (some ⟨mb, 0, none⟩)]) := by rw [cell_of_row _ _ _ _ _ _ HF6.out]; rfl
  clear HB3 HX3 HF3 HR3 HL3 HM3 HA H5 hb hb6 ho hfn hr2 y0 y1 y2 y3 y4
  generalize (told s2).length = tl2 at *
  generalize hs3 : takeR (numR least most) (newR l) = s3
  generalize hr : endR s3 = r
  have HS3 := hide hs3
  have HER := hide hr
  clear hs3 hr
  go_wp2_with fail
  refine (ReadI _ _ _ _ a n c l (numR least most) _ (fun s => (stableT_plain (T := 0) (P := fun v => v = .int .i64 (numV s : Nat))).stable) s3 HS3.out r HER.out w6 HR6.out H0.out (takesNum _ _ lb mb least most HL6.out HM6.out (numForm_lt HL6.out) (numForm_lt HM6.out)) ent_takeNum).mono ?_
  rintro e w7 ⟨v, rfl, hv, hnv, hb⟩
  have HV := hide hv
  have HNV := hide hnv
  have HA7 := hide (HA6.out.keep hb)
  have HC7 := hide (HC.out.keep hb)
  have HB7 := hide (further HB6.out hb)
  have HX7 := hide (Keep.stillBlk HX6.out hb)
  have HR7 := hide (HR6.out.keep hb)
  obtain ⟨y0, y1, y2, y3, y4⟩ := cells5 HX7.out
  clear HA6 HC HB6 HX6 HF6 HR6 HL6 HM6 hv hnv hb x0 x1 x2 x3 x4 fc0 fc1
  obtain ⟨xv, rfl⟩ : ∃ xv : Nat, v = .int .i64 (xv : Nat) := by
    by_cases hz : r = 0
    · exact ⟨_, HV.out hz⟩
    · exact ⟨0, HNV.out hz⟩
  go_wp2_with fail
  refine (RNewReader_any a n c l _ HR7.out H0.out).mono ?_
  rintro e w8 ⟨q, rfl, hq, hqs, hb⟩
  have HQ := hide hq
  have HQS := hide hqs
  have HBX := hide hb
  obtain ⟨x0, x1, x2, x3, x4⟩ := cells5 (Keep.stillBlk HX7.out hb)
  clear hq hqs hb y0 y1 y2 y3 y4
  go_wp2_with fail
  refine (RTake_any q least most _ _ HQ.out).mono ?_
  rintro e w9 ⟨yv, rfl, hq, hk, hyv⟩
  rw [HS3.out] at hq hyv
  have HQ9 := hide hq
  have HYV := hide hyv
  have hb79 := HBX.out.trans (hk.below (B := w7.heap.size) HBX.out.size (fun i hi => by have : i = q := hi; have := HQS.out; omega))
  have HA9 := hide (HA7.out.keep hb79)
  have HC9 := hide (HC7.out.keep hb79)
  have HB9 := hide (further HB7.out hb79)
  clear hq hyv x0 x1 x2 x3 x4 HA7 HC7 HB7 hb79 hk
  go_wp2_with fail
  refine (REnd_any q s3 _ HQ9.out).mono ?_
  rintro e w10 ⟨rfl, hb⟩
  rw [HER.out]
  have HA := hide (HA9.out.keep hb)
  have HC := hide (HC9.out.keep hb)
  have HB := hide (further HB9.out hb)
  clear HA9 HC9 HB9 hb
  by_cases hz : r = 0
  · have e1 : xv = numV (newR l) := by have := HV.out hz; injection this with _ h2; omega
    have e2 : yv = numV (newR l) := HYV.out (endR_ok (by rw [HER.out]; exact hz))
    subst hz
    rw [e1, e2]
    generalize numV (newR l) = nv at *
    clear e1 e2
    go_wp2_with fail
    refine (alike_yes a1 a2 tl c1 tl2 c2 _ _ _ HA.out HC.out).mono ?_
    rintro e w11 ⟨rfl, rfl⟩
    go_wp2
    go_ret
    exact ⟨by simp, HB.out⟩
  · have e1 : xv = 0 := by have := HNV.out hz; injection this with _ h2; omega
    subst e1
    have hzz : ((r : Int) == 0) = false := by rw [beq_eq_false_iff_ne]; omega
    clear hz
    go_wp2_with fail
    refine (alike_yes a1 a2 tl c1 tl2 c2 _ _ _ HA.out HC.out).mono ?_
    rintro e w11 ⟨rfl, rfl⟩
    go_wp2
    go_ret
    exact ⟨by simp, HB.out⟩

namespace PackNumbers
set_option maxRecDepth 100000 in
theorem lifted (os : Os) (started : os.Started) (H : Type) (enc : TypeId × Value → H) :
    ReturnsInHanded {} Try.checked os 3 .any (Rows.packNumbersSpec.pre6 enc Try.prog Try.f3 Rows.packNumbersRow.domain false) (Rows.packNumbersSpec.post enc Try.prog Try.f3 false true false false) := by
  refine returnsInHanded_of_change_sized (C := Try.checked) own started (by kernel_rfl) Try.func3
    (ChangeSpec.witness6 (enc := enc) (C := Try.checked) false ⟨#[], #[.agg #[.int .i64 0, .int .i64 0, .int .i64 0, .int .i64 0, .slice none 0 0]], []⟩ 8 (by kernel_rfl) (by kernel_rfl) (by kernel_rfl) (by kernel_rfl)) ?_
  intro W base args ds gs before hval0 hW _ hsz0 _
  have hsz : (DataW.weightsEach Try.prog (Try.f3.params.toList ++ Rows.packNumbersSpec.plain.varTypes Try.prog) (ds ++ gs)).all (· ≤ reachBytes) = true := hsz0
  have hval : ∀ (j : Nat) t v, Try.f3.params[j]? = some t → args[j]? = some v → Value.okWide Try.prog W .any base t v := hval0
  have hW' := hW
  obtain ⟨p, q, hA0, hV, rfl, hfz, hnd⟩ := hW
  have hA : DataW.TrodAll enc Try.prog W 0 (fun _ => true) true Try.f3.params.toList args.toList ds p := hA0
  rw [Try.params3] at hA hval hsz
  obtain ⟨v0, d0, rfl, rfl, h0⟩ := trodAll_one hA
  obtain ⟨rfl, rfl⟩ := trodVars_none hV
  have lt0 : ∀ x ∈ p, x.block < W.heap.size := by obtain ⟨m, hm⟩ := h0; exact DataW.trod_lt m _ _ _ hm
  obtain ⟨c0, c1, c2, c3, c4, y0, y1, y2, y3, y4, n, rfl, hd, g0, g1, g2, g3, g4⟩ := open5 Try.underlying24 (by kernel_rfl) (by kernel_rfl) (hval 0 24 v0 rfl rfl) h0
  have hw0 := weigh hsz (j := 0) rfl rfl
  rw [hd] at hw0
  obtain ⟨a0, e0, _, wf0⟩ := DataW.trod_int Try.underlying3 g0
  obtain ⟨a1, e1, _, wf1⟩ := DataW.trod_int Try.underlying3 g1
  obtain ⟨a2, e2, _, wf2⟩ := DataW.trod_int Try.underlying3 g2
  obtain ⟨a3, e3, _, wf3⟩ := DataW.trod_int Try.underlying3 g3
  have hw4 := weigh_field Try.underlying24 hw0 (j := 4) rfl rfl
  obtain ⟨b4, m4, k4, l4, rfl, hl4, _, hz4⟩ := trod_bytes_any g4 hw4
  simp at e0 e1 e2 e3
  subst e0 e1 e2 e3
  clear hA0 hval0
  have bd2 := bounds_i64 wf2
  refine (numbers_walk a0 a1 a2 a3 bd2.2 b4 m4 k4 l4 W hl4 hz4).mono fun e W' ⟨he, bel⟩ => ?_
  subst he
  exact ⟨_, rfl, _, _, _, [], _, [], hW', trodAll_mk1 (shut_bool Try.underlying4 _), trodAll_mk1 (Below.trod laidOut (by kernel_rfl) (of_decide_eq_true (by kernel_rfl)) h0 bel lt0), rfl, bel.frame _, fun h => by cases h⟩

theorem over : Rows.packNumbersRow.holds Try.pinned (OpenSpec.ofChange Rows.packNumbersSpec) :=
  OpenClaim.holds_of_wide 3 Try.f3 rfl rfl rfl rfl rfl rfl rfl ⟨rfl, rfl, rfl, rfl, rfl⟩ rfl rfl rfl rfl rfl (by kernel_rfl) Try.func3 (by kernel_rfl)
    (of_decide_eq_true (by kernel_rfl)) (by unfold Func.isWrapper; first | (rw [if_pos (by decide +kernel)]; kernel_rfl) | (rw [if_neg (by decide +kernel)]; exact ⟨rfl, rfl⟩))
    (fun os started H enc _ => lifted os started H enc)
end PackNumbers

theorem packNumbers_holds : Rows.PackNumbersSaid := PackNumbers.over
#print axioms packNumbers_holds
end Go.Proofs.Ytnoniccbmojmlaa
