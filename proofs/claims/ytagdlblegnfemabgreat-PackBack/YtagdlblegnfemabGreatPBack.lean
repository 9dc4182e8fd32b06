/- PackBack. -/
import Derived.Test.YtagdlblegnfemabGreatPBackO
import Derived.Deep.CutRange
import Derived.Deep.RegionHeld3
namespace Go.Proofs.YtagdlblegnfemabGreat
open Go.ChangeShapes Go.WideShapes Go.ChangeAt Go.RowKit Go.Joins Go.Deep

theorem cells8 {w : World} {b : Nat} {x0 x1 x2 x3 x4 x5 x6 x7 : Value} {T : TypeId} (h : w.heap[b]? = some (.cells #[x0, x1, x2, x3, x4, x5, x6, x7] T (0, 0))) :
    w.cell? ⟨b, 0, none⟩ = some x0 ∧ w.cell? ⟨b, 1, none⟩ = some x1 ∧ w.cell? ⟨b, 2, none⟩ = some x2 ∧ w.cell? ⟨b, 3, none⟩ = some x3 ∧ w.cell? ⟨b, 5, none⟩ = some x5 ∧ w.cell? ⟨b, 6, none⟩ = some x6 ∧ w.cell? ⟨b, 7, none⟩ = some x7 := by
  refine ⟨?_, ?_, ?_, ?_, ?_, ?_, ?_⟩ <;> (rw [cell_of_row _ _ _ _ _ _ h]; rfl)
theorem rows_len {D D' : Nat → Prop} {w w' : World} {a b : Option Addr} {n m : Nat} {zs : List (List Int)} (h1 : RowsAt D w a n zs) (h2 : RowsAt D' w' b m zs) : n = m := by
  obtain ⟨_, _, e1, _⟩ := h1
  obtain ⟨_, _, e2, _⟩ := h2
  exact e1.symm.trans e2
theorem aft_drew {w w' : World} (h : Below w.drew.heap.size w.drew w') : Below w.heap.size w w' := ⟨h.os, h.tape, h.output, h.size, h.block⟩
theorem keep3 {w w' : World} {p q r : Addr} {a b c : Value} (hb : Below w.heap.size w w') (h : w.cell? p = some a ∧ w.cell? q = some b ∧ w.cell? r = some c) : w'.cell? p = some a ∧ w'.cell? q = some b ∧ w'.cell? r = some c :=
  ⟨keepCell h.1 hb, keepCell h.2.1 hb, keepCell h.2.2 hb⟩

set_option maxRecDepth 20000 in
set_option maxHeartbeats 40000000 in
theorem back_walk (most R : Int) (aN aW aF aS aD : Option Addr) (nN cN nW cW nF cF nS cS nD cD : Nat) (vB : Value) (zn : List Int) (ws : List W64) (bf : List Bool) (ss : List ByteArray) (zd : List (List Int)) (w : World)
    (hN : Els (fun k => k < w.heap.size) w aN nN (zn.map (Value.int .i64))) (hWs : Els (fun k => k < w.heap.size) w aW nW (ws.map encW)) (hF : Els (fun k => k < w.heap.size) w aF nF (bf.map Value.bool)) (hS : Els (fun k => k < w.heap.size) w aS nS (ss.map Value.string)) (hD : RowsAt (fun k => k < w.heap.size) w aD nD zd)
    (zN : ∀ x ∈ zn, x ≤ 9223372036854775807) (zS : ∀ s ∈ ss, s.size ≤ 140737488351232) (zD : ∀ z ∈ zd, ∀ x ∈ z, x ≤ 9223372036854775807) :
    Calls Tryz.prog 3 #[.agg #[.slice aN nN cN, .slice aW nW cW, .slice aF nF cF, .slice aS nS cS, vB, .slice aD nD cD, .int .i64 most, .int .i64 R]] w fun en w' => en = .returned (.bool true) ∧ Below w.heap.size w w' := by
  have hba := (Below.refl w.heap.size w).alloc (Nat.le_refl _) (.cells #[.slice aN nN cN, .slice aW nW cW, .slice aF nF cF, .slice aS nS cS, vB, .slice aD nD cD, .int .i64 most, .int .i64 R] 29)
  have HX := hide (heap_alloc_new w (.cells #[.slice aN nN cN, .slice aW nW cW, .slice aF nF cF, .slice aS nS cS, vB, .slice aD nD cD, .int .i64 most, .int .i64 R] 29))
  have HNN := hide (hN.keepB hba)
  have HWW := hide (hWs.keepB hba)
  have HFF := hide (hF.keepB hba)
  have HSS := hide (hS.keepB hba)
  have HDD := hide (hD.keepB hba)
  have HZN := hide zN
  have HZS := hide zS
  have HZD := hide zD
  have HB := hide hba
  clear hba hN hWs hF hS hD zN zS zD
  go_enter Tryz.func3, Tryz.ntmps3
  go_wp2_with fail
  refine (known_any _).mono ?_
  rintro e wx0 ⟨rfl, hb⟩
  have HB0 := hide (further HB.out hb)
  have HN0 := hide (HNN.out.keepB hb)
  have HW0 := hide (HWW.out.keepB hb)
  have HF0 := hide (HFF.out.keepB hb)
  have HS0 := hide (HSS.out.keepB hb)
  have HD0 := hide (HDD.out.keepB hb)
  have HX0 := hide (keepBlk HX.out hb)
  clear hb HB HNN HWW HFF HSS HDD HX
  generalize hg : w.heap.size = g at HX0 ⊢
  clear hg
  generalize hs : (intsW (min most 16777216) zn) ⟨[], room R, 0⟩ = sk1
  have HEk1 := hide hs
  clear hs
  go_wp2_with fail
  obtain ⟨y2, y3, y4, y5, y6, y7, y8⟩ := cells8 HX0.out
  go_region_held3 (fun w' => w'.cell? ⟨g, 0, none⟩ = some (.slice aN nN cN) ∧ w'.cell? ⟨g, 6, none⟩ = some (.int .i64 most) ∧ w'.cell? ⟨g, 7, none⟩ = some (.int .i64 R)) (first | go_keep | (exact (keep3 hb2 (keep3 hb1 (keep3 hb0 ⟨y2, y7, y8⟩)))) | (exact (keep3 hb1 (keep3 hb0 ⟨y2, y7, y8⟩))) | (exact (keep3 hb0 ⟨y2, y7, y8⟩))) ((first | (go_at_call 8; refine (Numbers_any 0 9223372036854775807 _).mono ?_; rintro e wvk1w0 ⟨lk1, mk1, rfl, hl, hm, -, -, hb0⟩; replace hb0 := aft_drew hb0) | (go_at_call 7; refine (ListsI _ _ _ _ most _).mono ?_; rintro e wvk1w1 ⟨m2k1, o2k1, rfl, hm2, ho2, -, -, hb1⟩) | (go_at_call 6; refine (BytesLi _ _ _ _ _ (intsW (min most 16777216) zn) R sk1 HEk1.out _ (putsIs _ lk1 mk1 m2k1 o2k1 _ _ _ _ zn ((HN0.out.keepB hb0).keepB hb1) HZN.out (keepCell hl hb1) (keepCell hm hb1) hm2 ho2) ent_putListI).mono ?_; rintro e wvk1w2 ⟨vk1, rfl, ho, hb2, hfn⟩)))
  have hb := (further (further hb0 hb1) hb2)
  clear y2 y3 y4 y5 y6 y7 y8
  obtain ⟨ak1, ck1, rfl, hr1, hn0, -⟩ := ownsRow_rd ho hfn.1 (by have := hfn.2; omega)
  have QB9 := hide (further HB0.out hb)
  clear HB0
  have QN10 := hide (HN0.out.keepB hb)
  clear HN0
  have QW11 := hide (HW0.out.keepB hb)
  clear HW0
  have QF12 := hide (HF0.out.keepB hb)
  clear HF0
  have QS13 := hide (HS0.out.keepB hb)
  clear HS0
  have QD14 := hide (HD0.out.keepB hb)
  clear HD0
  have QX15 := hide (keepBlk HX0.out hb)
  clear HX0
  have HRk1 := hide hr1
  have H0k1 := hide hn0
  have HFNk1 := hide hfn.1
  clear hb ho hfn hr1 hn0 hb0 hb1 hb2 hl hm hm2 ho2
  generalize htl : (told sk1).length = tk1 at *
  clear htl
  generalize hs3 : takeR (listR (min most 16777216) (numR 0 9223372036854775807)) (newR (told sk1)) = r3k1
  generalize her : endR r3k1 = rk1
  have HS3k1 := hide hs3
  have HERk1 := hide her
  clear hs3 her
  go_wp2_with fail
  obtain ⟨y16, y17, y18, y19, y20, y21, y22⟩ := cells8 QX15.out
  go_region_held3 (fun w' => w'.cell? ⟨g, 0, none⟩ = some (.slice aN nN cN) ∧ w'.cell? ⟨g, 6, none⟩ = some (.int .i64 most) ∧ w'.cell? ⟨g, 7, none⟩ = some (.int .i64 R)) (first | go_keep | (exact (keep3 hb2 (keep3 hb1 (keep3 hb0 ⟨y16, y21, y22⟩)))) | (exact (keep3 hb1 (keep3 hb0 ⟨y16, y21, y22⟩))) | (exact (keep3 hb0 ⟨y16, y21, y22⟩))) ((first | (go_at_call 8; refine (Numbers_any 0 9223372036854775807 _).mono ?_; rintro e wvk1r0 ⟨lk1, mk1, rfl, hl, hm, -, -, hb0⟩; replace hb0 := aft_drew hb0) | (go_at_call 7; refine (ListsI _ _ _ _ most _).mono ?_; rintro e wvk1r1 ⟨m2k1, o2k1, rfl, hm2, ho2, -, -, hb1⟩) | (go_at_call 9; refine (ReadLi _ _ _ _ ak1 tk1 ck1 (told sk1) (listR (min most 16777216) (numR 0 9223372036854775807)) (listV 3 (min most 16777216) (numR 0 9223372036854775807) (fun (s : K.RS) (_ : World) v => v = Value.int .i64 ((numV s : Nat) : Int))) (fun s => (listV_stable (T := 3) (T' := 0) (by decide) (by decide) (fun s => stableT_plain (P := fun v => v = Value.int .i64 ((numV s : Nat) : Int))) s).stable) r3k1 HS3k1.out rk1 HERk1.out _ ((HRk1.out.keep hb0).keep hb1) H0k1.out (takesListI _ _ m2k1 o2k1 (min most 16777216) (by omega) _ _ _ _ _ _ (fun s => stableT_plain (P := fun v => v = Value.int .i64 ((numV s : Nat) : Int))) (fun s w v hv => ⟨_, hv⟩) (takesNum _ _ lk1 mk1 0 9223372036854775807 (keepCell hl hb1) (keepCell hm hb1) (numForm_lt (keepCell hl hb1)) (numForm_lt (keepCell hm hb1))) ent_takeNum (numForm_lt hm2) (blk_lt ho2) hm2 ho2) ent_takeListI).mono ?_; rintro e wvk1r2 ⟨vk1, rfl, hv, hnv, hb2⟩)))
  have hb := (further (further hb0 hb1) hb2)
  clear y16 y17 y18 y19 y20 y21 y22
  obtain ⟨b1k1, b2k1, b3k1, rfl⟩ : ∃ y1 y2 y3, vk1 = .slice y1 y2 y3 := by
    by_cases hz : rk1 = 0
    · exact listV_shape (hv hz)
    · exact ⟨_, _, _, hnv hz⟩
  clear HRk1
  have QB23 := hide (further QB9.out hb)
  clear QB9
  have QN24 := hide (QN10.out.keepB hb)
  clear QN10
  have QW25 := hide (QW11.out.keepB hb)
  clear QW11
  have QF26 := hide (QF12.out.keepB hb)
  clear QF12
  have QS27 := hide (QS13.out.keepB hb)
  clear QS13
  have QD28 := hide (QD14.out.keepB hb)
  clear QD14
  have QX29 := hide (keepBlk QX15.out hb)
  clear QX15
  have HVk1 := hide hv
  clear hb hv hnv hb0 hb1 hb2 hl hm hm2 ho2
  go_upto_region 6 with fail
  go_cut [50] from 38 to 50 (fun st wx => st = .bool false ∧ Below wvk1r2.heap.size wvk1r2 wx)
  case first =>
    by_cases hz : sk1.fault = 0
    · obtain ⟨hr0, a', n', c', hv', he, -⟩ := back_list (wr_num 0 9223372036854775807 (by decide)) (Value.int .i64) (min most 16777216) R zn HEk1.out hz (by rw [HS3k1.out]; exact HERk1.out) HVk1.out
      injection hv' with e1 e2 e3
      subst e1 e2 e3
      have hnn : nN = b2k1 := QN24.out.1.trans he.1.symm
      subst hnn
      have hb1 : ((sk1.fault : Int) == 0) = true := by rw [hz]; rfl
      subst hr0
      clear hz
      obtain ⟨y0, y1, y2, y3, y5, y6, y7⟩ := cells8 QX29.out
      have HEL := hide he
      clear he
      go_wp2_with fail
      refine (ints_same (fun k => k < wvk1r2.heap.size) b1k1 aN _ b3k1 cN zn wvk1r2 HEL.out QN24.out).mono ?_
      rintro e wz ⟨rfl, j, rfl⟩
      go_wp2_with fail
      go_meet
      exact ⟨rfl, belowDrewN (Below.refl _ _) j⟩
    · have hzz : ((sk1.fault : Int) == 0) = false := by rw [beq_eq_false_iff_ne]; omega
      clear hz
      go_wp2_with fail
      go_meet
      exact ⟨rfl, Below.refl _ _⟩
  case rest =>
  obtain ⟨rfl, hb⟩ := hcut
  have QB30 := hide (further QB23.out hb)
  clear QB23
  have QN31 := hide (QN24.out.keepB hb)
  clear QN24
  have QW32 := hide (QW25.out.keepB hb)
  clear QW25
  have QF33 := hide (QF26.out.keepB hb)
  clear QF26
  have QS34 := hide (QS27.out.keepB hb)
  clear QS27
  have QD35 := hide (QD28.out.keepB hb)
  clear QD28
  have QX36 := hide (keepBlk QX29.out hb)
  clear QX29
  clear hb
  clear HEk1 HS3k1 HERk1 HVk1 H0k1 HFNk1
  generalize hs : (strsW most (min most 16777216) (ss.map sb)) ⟨[], room R, 0⟩ = sk37
  have HEk37 := hide hs
  clear hs
  go_wp2_with fail
  obtain ⟨y38, y39, y40, y41, y42, y43, y44⟩ := cells8 QX36.out
  go_region_held3 (fun w' => w'.cell? ⟨g, 3, none⟩ = some (.slice aS nS cS) ∧ w'.cell? ⟨g, 6, none⟩ = some (.int .i64 most) ∧ w'.cell? ⟨g, 7, none⟩ = some (.int .i64 R)) (first | go_keep | (exact (keep3 hb2 (keep3 hb1 (keep3 hb0 ⟨y41, y43, y44⟩)))) | (exact (keep3 hb1 (keep3 hb0 ⟨y41, y43, y44⟩))) | (exact (keep3 hb0 ⟨y41, y43, y44⟩))) ((first | (go_at_call 13; refine (Texts_any most _).mono ?_; rintro e wvk37w0 ⟨mk37, rfl, hm, -, hb0⟩; replace hb0 := aft_drew hb0) | (go_at_call 12; refine (ListsS _ _ _ _ most _).mono ?_; rintro e wvk37w1 ⟨m2k37, o2k37, rfl, hm2, ho2, -, -, hb1⟩) | (go_at_call 11; refine (BytesLs _ _ _ _ _ (strsW most (min most 16777216) (ss.map sb)) R sk37 HEk37.out _ (putsSs _ mk37 m2k37 o2k37 _ _ _ _ _ ss ((QS34.out.keepB hb0).keepB hb1) HZS.out (keepCell hm hb1) hm2 ho2) ent_putListS).mono ?_; rintro e wvk37w2 ⟨vk37, rfl, ho, hb2, hfn⟩)))
  have hb := (further (further hb0 hb1) hb2)
  clear y38 y39 y40 y41 y42 y43 y44
  obtain ⟨ak37, ck37, rfl, hr1, hn0, -⟩ := ownsRow_rd ho hfn.1 (by have := hfn.2; omega)
  have QB45 := hide (further QB30.out hb)
  clear QB30
  have QN46 := hide (QN31.out.keepB hb)
  clear QN31
  have QW47 := hide (QW32.out.keepB hb)
  clear QW32
  have QF48 := hide (QF33.out.keepB hb)
  clear QF33
  have QS49 := hide (QS34.out.keepB hb)
  clear QS34
  have QD50 := hide (QD35.out.keepB hb)
  clear QD35
  have QX51 := hide (keepBlk QX36.out hb)
  clear QX36
  have HRk37 := hide hr1
  have H0k37 := hide hn0
  have HFNk37 := hide hfn.1
  clear hb ho hfn hr1 hn0 hb0 hb1 hb2 hm hm2 ho2
  generalize htl : (told sk37).length = tk37 at *
  clear htl
  generalize hs3 : takeR (listR (min most 16777216) (rowR most)) (newR (told sk37)) = r3k37
  generalize her : endR r3k37 = rk37
  have HS3k37 := hide hs3
  have HERk37 := hide her
  clear hs3 her
  go_wp2_with fail
  obtain ⟨y52, y53, y54, y55, y56, y57, y58⟩ := cells8 QX51.out
  go_region_held3 (fun w' => w'.cell? ⟨g, 3, none⟩ = some (.slice aS nS cS) ∧ w'.cell? ⟨g, 6, none⟩ = some (.int .i64 most) ∧ w'.cell? ⟨g, 7, none⟩ = some (.int .i64 R)) (first | go_keep | (exact (keep3 hb2 (keep3 hb1 (keep3 hb0 ⟨y55, y57, y58⟩)))) | (exact (keep3 hb1 (keep3 hb0 ⟨y55, y57, y58⟩))) | (exact (keep3 hb0 ⟨y55, y57, y58⟩))) ((first | (go_at_call 13; refine (Texts_any most _).mono ?_; rintro e wvk37r0 ⟨mk37, rfl, hm, -, hb0⟩; replace hb0 := aft_drew hb0) | (go_at_call 12; refine (ListsS _ _ _ _ most _).mono ?_; rintro e wvk37r1 ⟨m2k37, o2k37, rfl, hm2, ho2, -, -, hb1⟩) | (go_at_call 14; refine (ReadLs _ _ _ _ ak37 tk37 ck37 (told sk37) (listR (min most 16777216) (rowR most)) (listV 9 (min most 16777216) (rowR most) (fun (s : K.RS) (_ : World) v => v = Value.string (str (rowV most s)))) (fun s => (listV_stable (T := 9) (T' := 0) (by decide) (by decide) (fun s => stableT_plain (P := fun v => v = Value.string (str (rowV most s)))) s).stable) r3k37 HS3k37.out rk37 HERk37.out _ ((HRk37.out.keep hb0).keep hb1) H0k37.out (takesListS _ _ m2k37 o2k37 (min most 16777216) (by omega) _ _ _ _ _ _ (fun s => stableT_plain (P := fun v => v = Value.string (str (rowV most s)))) (fun s w v hv => ⟨_, hv⟩) (takesText _ _ mk37 most (keepCell hm hb1) (numForm_lt (keepCell hm hb1))) ent_takeText (numForm_lt hm2) (blk_lt ho2) hm2 ho2) ent_takeListS).mono ?_; rintro e wvk37r2 ⟨vk37, rfl, hv, hnv, hb2⟩)))
  have hb := (further (further hb0 hb1) hb2)
  clear y52 y53 y54 y55 y56 y57 y58
  obtain ⟨b1k37, b2k37, b3k37, rfl⟩ : ∃ y1 y2 y3, vk37 = .slice y1 y2 y3 := by
    by_cases hz : rk37 = 0
    · exact listV_shape (hv hz)
    · exact ⟨_, _, _, hnv hz⟩
  clear HRk37
  have QB59 := hide (further QB45.out hb)
  clear QB45
  have QN60 := hide (QN46.out.keepB hb)
  clear QN46
  have QW61 := hide (QW47.out.keepB hb)
  clear QW47
  have QF62 := hide (QF48.out.keepB hb)
  clear QF48
  have QS63 := hide (QS49.out.keepB hb)
  clear QS49
  have QD64 := hide (QD50.out.keepB hb)
  clear QD50
  have QX65 := hide (keepBlk QX51.out hb)
  clear QX51
  have HVk37 := hide hv
  clear hb hv hnv hb0 hb1 hb2 hm hm2 ho2
  go_upto_region 10 with fail
  go_cut [88] from 76 to 88 (fun st wx => st = .bool false ∧ Below wvk37r2.heap.size wvk37r2 wx)
  case first =>
    by_cases hz : sk37.fault = 0
    · obtain ⟨hr0, a', n', c', hv', he, -⟩ := back_list (wr_text most) (fun bs => Value.string (str bs)) (min most 16777216) R (ss.map sb) HEk37.out hz (by rw [HS3k37.out]; exact HERk37.out) HVk37.out
      injection hv' with e1 e2 e3
      subst e1 e2 e3
      rw [List.map_map, show ((fun bs => Value.string (str bs)) ∘ sb) = Value.string from funext fun s => congrArg Value.string (str_sb s)] at he
      have hnn : nS = b2k37 := QS63.out.1.trans he.1.symm
      subst hnn
      have hb1 : ((sk37.fault : Int) == 0) = true := by rw [hz]; rfl
      subst hr0
      clear hz
      obtain ⟨y0, y1, y2, y3, y5, y6, y7⟩ := cells8 QX65.out
      have HEL := hide he
      clear he
      go_wp2_with fail
      refine (texts_same (fun k => k < wvk37r2.heap.size) b1k37 aS _ b3k37 cS ss wvk37r2 HEL.out QS63.out).mono ?_
      rintro e wz ⟨rfl, j, rfl⟩
      go_wp2_with fail
      go_meet
      exact ⟨rfl, belowDrewN (Below.refl _ _) j⟩
    · have hzz : ((sk37.fault : Int) == 0) = false := by rw [beq_eq_false_iff_ne]; omega
      clear hz
      go_wp2_with fail
      go_meet
      exact ⟨rfl, Below.refl _ _⟩
  case rest =>
  obtain ⟨rfl, hb⟩ := hcut
  have QB66 := hide (further QB59.out hb)
  clear QB59
  have QN67 := hide (QN60.out.keepB hb)
  clear QN60
  have QW68 := hide (QW61.out.keepB hb)
  clear QW61
  have QF69 := hide (QF62.out.keepB hb)
  clear QF62
  have QS70 := hide (QS63.out.keepB hb)
  clear QS63
  have QD71 := hide (QD64.out.keepB hb)
  clear QD64
  have QX72 := hide (keepBlk QX65.out hb)
  clear QX65
  clear hb
  clear HEk37 HS3k37 HERk37 HVk37 H0k37 HFNk37
  generalize hs : (rowsWq (min most 16777216) zd) ⟨[], room R, 0⟩ = sk73
  have HEk73 := hide hs
  clear hs
  go_wp2_with fail
  obtain ⟨y74, y75, y76, y77, y78, y79, y80⟩ := cells8 QX72.out
  go_region_held3 (fun w' => w'.cell? ⟨g, 5, none⟩ = some (.slice aD nD cD) ∧ w'.cell? ⟨g, 6, none⟩ = some (.int .i64 most) ∧ w'.cell? ⟨g, 7, none⟩ = some (.int .i64 R)) (first | go_keep | (exact (keep3 hb3 (keep3 hb2 (keep3 hb1 (keep3 hb0 ⟨y78, y79, y80⟩))))) | (exact (keep3 hb2 (keep3 hb1 (keep3 hb0 ⟨y78, y79, y80⟩)))) | (exact (keep3 hb1 (keep3 hb0 ⟨y78, y79, y80⟩))) | (exact (keep3 hb0 ⟨y78, y79, y80⟩))) ((first | (go_at_call 8; refine (Numbers_any 0 9223372036854775807 _).mono ?_; rintro e wvk73w0 ⟨lk73, mk73, rfl, hl, hm, -, -, hb0⟩; replace hb0 := aft_drew hb0) | (go_at_call 7; refine (ListsI _ _ _ _ 9223372036854775807 _).mono ?_; rintro e wvk73w1 ⟨m2k73, o2k73, rfl, hm2, ho2, -, -, hb1⟩; rw [minfar] at hm2) | (go_at_call 17; refine (ListsLi _ _ _ _ most _).mono ?_; rintro e wvk73w2 ⟨m3k73, o3k73, rfl, hm3, ho3, -, -, hb2⟩) | (go_at_call 16; refine (BytesLli _ _ _ _ _ (rowsWq (min most 16777216) zd) R sk73 HEk73.out _ (putsDs _ lk73 mk73 m2k73 o2k73 m3k73 o3k73 _ _ _ _ zd (((QD71.out.keepB hb0).keepB hb1).keepB hb2) HZD.out (keepCell (keepCell hl hb1) hb2) (keepCell (keepCell hm hb1) hb2) (keepCell hm2 hb2) (keepBlk ho2 hb2) hm3 ho3) ent_putListLi).mono ?_; rintro e wvk73w3 ⟨vk73, rfl, ho, hb3, hfn⟩)))
  have hb := (further (further (further hb0 hb1) hb2) hb3)
  clear y74 y75 y76 y77 y78 y79 y80
  obtain ⟨ak73, ck73, rfl, hr1, hn0, -⟩ := ownsRow_rd ho hfn.1 (by have := hfn.2; omega)
  have QB81 := hide (further QB66.out hb)
  clear QB66
  have QN82 := hide (QN67.out.keepB hb)
  clear QN67
  have QW83 := hide (QW68.out.keepB hb)
  clear QW68
  have QF84 := hide (QF69.out.keepB hb)
  clear QF69
  have QS85 := hide (QS70.out.keepB hb)
  clear QS70
  have QD86 := hide (QD71.out.keepB hb)
  clear QD71
  have QX87 := hide (keepBlk QX72.out hb)
  clear QX72
  have HRk73 := hide hr1
  have H0k73 := hide hn0
  have HFNk73 := hide hfn.1
  clear hb ho hfn hr1 hn0 hb0 hb1 hb2 hb3 hl hm hm2 ho2 hm3 ho3
  generalize htl : (told sk73).length = tk73 at *
  clear htl
  generalize hs3 : takeR (listR (min most 16777216) (listR 16777216 (numR 0 9223372036854775807))) (newR (told sk73)) = r3k73
  generalize her : endR r3k73 = rk73
  have HS3k73 := hide hs3
  have HERk73 := hide her
  clear hs3 her
  go_wp2_with fail
  obtain ⟨y88, y89, y90, y91, y92, y93, y94⟩ := cells8 QX87.out
  go_region_held3 (fun w' => w'.cell? ⟨g, 5, none⟩ = some (.slice aD nD cD) ∧ w'.cell? ⟨g, 6, none⟩ = some (.int .i64 most) ∧ w'.cell? ⟨g, 7, none⟩ = some (.int .i64 R)) (first | go_keep | (exact (keep3 hb3 (keep3 hb2 (keep3 hb1 (keep3 hb0 ⟨y92, y93, y94⟩))))) | (exact (keep3 hb2 (keep3 hb1 (keep3 hb0 ⟨y92, y93, y94⟩)))) | (exact (keep3 hb1 (keep3 hb0 ⟨y92, y93, y94⟩))) | (exact (keep3 hb0 ⟨y92, y93, y94⟩))) ((first | (go_at_call 8; refine (Numbers_any 0 9223372036854775807 _).mono ?_; rintro e wvk73r0 ⟨lk73, mk73, rfl, hl, hm, -, -, hb0⟩; replace hb0 := aft_drew hb0) | (go_at_call 7; refine (ListsI _ _ _ _ 9223372036854775807 _).mono ?_; rintro e wvk73r1 ⟨m2k73, o2k73, rfl, hm2, ho2, -, -, hb1⟩; rw [minfar] at hm2) | (go_at_call 17; refine (ListsLi _ _ _ _ most _).mono ?_; rintro e wvk73r2 ⟨m3k73, o3k73, rfl, hm3, ho3, -, -, hb2⟩) | (go_at_call 18; refine (ReadLli _ _ _ _ ak73 tk73 ck73 (told sk73) (listR (min most 16777216) (listR 16777216 (numR 0 9223372036854775807))) (listV 22 (min most 16777216) (listR 16777216 (numR 0 9223372036854775807)) (listV 3 16777216 (numR 0 9223372036854775807) (fun (s : K.RS) (_ : World) v => v = Value.int .i64 ((numV s : Nat) : Int)))) (fun s => (listV_stable (T := 22) (T' := 0) (by decide) (by decide) (fun s => listV_stable (T := 3) (T' := 0) (by decide) (by decide) (fun s => stableT_plain (P := fun v => v = Value.int .i64 ((numV s : Nat) : Int))) s) s).stable) r3k73 HS3k73.out rk73 HERk73.out _ (((HRk73.out.keep hb0).keep hb1).keep hb2) H0k73.out (takesListLi _ _ m3k73 o3k73 (min most 16777216) (by omega) _ _ _ _ _ _ (fun s => listV_stable (T := 3) (T' := 22) (by decide) (by decide) (fun s => stableT_plain (P := fun v => v = Value.int .i64 ((numV s : Nat) : Int))) s) (fun s w v hv => listV_shape hv) (takesListI _ _ m2k73 o2k73 16777216 (by decide) _ _ _ _ _ _ (fun s => stableT_plain (P := fun v => v = Value.int .i64 ((numV s : Nat) : Int))) (fun s w v hv => ⟨_, hv⟩) (takesNum _ _ lk73 mk73 0 9223372036854775807 (keepCell (keepCell hl hb1) hb2) (keepCell (keepCell hm hb1) hb2) (numForm_lt (keepCell (keepCell hl hb1) hb2)) (numForm_lt (keepCell (keepCell hm hb1) hb2))) ent_takeNum (numForm_lt (keepCell hm2 hb2)) (blk_lt (keepBlk ho2 hb2)) (keepCell hm2 hb2) (keepBlk ho2 hb2)) ent_takeListI (numForm_lt hm3) (blk_lt ho3) hm3 ho3) ent_takeListLi).mono ?_; rintro e wvk73r3 ⟨vk73, rfl, hv, hnv, hb3⟩)))
  have hb := (further (further (further hb0 hb1) hb2) hb3)
  clear y88 y89 y90 y91 y92 y93 y94
  obtain ⟨b1k73, b2k73, b3k73, rfl⟩ : ∃ y1 y2 y3, vk73 = .slice y1 y2 y3 := by
    by_cases hz : rk73 = 0
    · exact listV_shape (hv hz)
    · exact ⟨_, _, _, hnv hz⟩
  clear HRk73
  have QB95 := hide (further QB81.out hb)
  clear QB81
  have QN96 := hide (QN82.out.keepB hb)
  clear QN82
  have QW97 := hide (QW83.out.keepB hb)
  clear QW83
  have QF98 := hide (QF84.out.keepB hb)
  clear QF84
  have QS99 := hide (QS85.out.keepB hb)
  clear QS85
  have QD100 := hide (QD86.out.keepB hb)
  clear QD86
  have QX101 := hide (keepBlk QX87.out hb)
  clear QX87
  have HVk73 := hide hv
  clear hb hv hnv hb0 hb1 hb2 hb3 hl hm hm2 ho2 hm3 ho3
  go_upto_region 14 with fail
  go_cut [124] from 112 to 124 (fun st wx => st = .bool false ∧ Below wvk73r3.heap.size wvk73r3 wx)
  case first =>
    by_cases hz : sk73.fault = 0
    · obtain ⟨hr0, a', n', c', hv', he⟩ := back_rows (min most 16777216) R zd HEk73.out hz HFNk73.out (by rw [HS3k73.out]; exact HERk73.out) HVk73.out
      injection hv' with e1 e2 e3
      subst e1 e2 e3
      have hnn : nD = b2k73 := rows_len QD100.out he
      subst hnn
      have hb1 : ((sk73.fault : Int) == 0) = true := by rw [hz]; rfl
      subst hr0
      clear hz
      obtain ⟨y0, y1, y2, y3, y5, y6, y7⟩ := cells8 QX101.out
      have HEL := hide he
      clear he
      go_wp2_with fail
      refine (lists_same (fun k => k < wvk73r3.heap.size) b1k73 aD _ b3k73 cD zd wvk73r3 HEL.out QD100.out).mono ?_
      rintro e wz ⟨rfl, j, rfl⟩
      go_wp2_with fail
      go_meet
      exact ⟨rfl, belowDrewN (Below.refl _ _) j⟩
    · have hzz : ((sk73.fault : Int) == 0) = false := by rw [beq_eq_false_iff_ne]; omega
      clear hz
      go_wp2_with fail
      go_meet
      exact ⟨rfl, Below.refl _ _⟩
  case rest =>
  obtain ⟨rfl, hb⟩ := hcut
  have QB102 := hide (further QB95.out hb)
  clear QB95
  have QN103 := hide (QN96.out.keepB hb)
  clear QN96
  have QW104 := hide (QW97.out.keepB hb)
  clear QW97
  have QF105 := hide (QF98.out.keepB hb)
  clear QF98
  have QS106 := hide (QS99.out.keepB hb)
  clear QS99
  have QD107 := hide (QD100.out.keepB hb)
  clear QD100
  have QX108 := hide (keepBlk QX101.out hb)
  clear QX101
  clear hb
  clear HEk73 HS3k73 HERk73 HVk73 H0k73 HFNk73
  generalize hs : (wordsW (min most 16777216) ws) ⟨[], room R, 0⟩ = sk109
  have HEk109 := hide hs
  clear hs
  go_wp2_with fail
  obtain ⟨y110, y111, y112, y113, y114, y115, y116⟩ := cells8 QX108.out
  go_region_held3 (fun w' => w'.cell? ⟨g, 1, none⟩ = some (.slice aW nW cW) ∧ w'.cell? ⟨g, 6, none⟩ = some (.int .i64 most) ∧ w'.cell? ⟨g, 7, none⟩ = some (.int .i64 R)) (first | go_keep | (exact (keep3 hb2 (keep3 hb1 (keep3 hb0 ⟨y111, y115, y116⟩)))) | (exact (keep3 hb1 (keep3 hb0 ⟨y111, y115, y116⟩))) | (exact (keep3 hb0 ⟨y111, y115, y116⟩))) ((first | (go_at_call 22; refine (Words_any _).mono ?_; rintro e wvk109w0 ⟨rfl, hb0⟩; replace hb0 := aft_drew hb0) | (go_at_call 21; refine (ListsW _ _ _ _ most _).mono ?_; rintro e wvk109w1 ⟨m2k109, o2k109, rfl, hm2, ho2, -, -, hb1⟩) | (go_at_call 20; refine (BytesLw _ _ _ _ _ (wordsW (min most 16777216) ws) R sk109 HEk109.out _ (putsWs _ m2k109 o2k109 _ _ _ _ ws ((QW104.out.keepB hb0).keepB hb1) hm2 ho2) ent_putListW).mono ?_; rintro e wvk109w2 ⟨vk109, rfl, ho, hb2, hfn⟩)))
  have hb := (further (further hb0 hb1) hb2)
  clear y110 y111 y112 y113 y114 y115 y116
  obtain ⟨ak109, ck109, rfl, hr1, hn0, -⟩ := ownsRow_rd ho hfn.1 (by have := hfn.2; omega)
  have QB117 := hide (further QB102.out hb)
  clear QB102
  have QN118 := hide (QN103.out.keepB hb)
  clear QN103
  have QW119 := hide (QW104.out.keepB hb)
  clear QW104
  have QF120 := hide (QF105.out.keepB hb)
  clear QF105
  have QS121 := hide (QS106.out.keepB hb)
  clear QS106
  have QD122 := hide (QD107.out.keepB hb)
  clear QD107
  have QX123 := hide (keepBlk QX108.out hb)
  clear QX108
  have HRk109 := hide hr1
  have H0k109 := hide hn0
  have HFNk109 := hide hfn.1
  clear hb ho hfn hr1 hn0 hb0 hb1 hb2 hm2 ho2
  generalize htl : (told sk109).length = tk109 at *
  clear htl
  generalize hs3 : takeR (listR (min most 16777216) wordR) (newR (told sk109)) = r3k109
  generalize her : endR r3k109 = rk109
  have HS3k109 := hide hs3
  have HERk109 := hide her
  clear hs3 her
  go_wp2_with fail
  obtain ⟨y124, y125, y126, y127, y128, y129, y130⟩ := cells8 QX123.out
  go_region_held3 (fun w' => w'.cell? ⟨g, 1, none⟩ = some (.slice aW nW cW) ∧ w'.cell? ⟨g, 6, none⟩ = some (.int .i64 most) ∧ w'.cell? ⟨g, 7, none⟩ = some (.int .i64 R)) (first | go_keep | (exact (keep3 hb2 (keep3 hb1 (keep3 hb0 ⟨y125, y129, y130⟩)))) | (exact (keep3 hb1 (keep3 hb0 ⟨y125, y129, y130⟩))) | (exact (keep3 hb0 ⟨y125, y129, y130⟩))) ((first | (go_at_call 22; refine (Words_any _).mono ?_; rintro e wvk109r0 ⟨rfl, hb0⟩; replace hb0 := aft_drew hb0) | (go_at_call 21; refine (ListsW _ _ _ _ most _).mono ?_; rintro e wvk109r1 ⟨m2k109, o2k109, rfl, hm2, ho2, -, -, hb1⟩) | (go_at_call 23; refine (ReadLw _ _ _ _ ak109 tk109 ck109 (told sk109) (listR (min most 16777216) wordR) (listV 77 (min most 16777216) wordR (fun (s : K.RS) (_ : World) v => v = encW (valW s))) (fun s => (listV_stable (T := 77) (T' := 0) (by decide) (by decide) (fun s => stableT_plain (P := fun v => v = encW (valW s))) s).stable) r3k109 HS3k109.out rk109 HERk109.out _ ((HRk109.out.keep hb0).keep hb1) H0k109.out (takesListW _ _ m2k109 o2k109 (min most 16777216) (by omega) _ _ _ _ _ _ (fun s => stableT_plain (P := fun v => v = encW (valW s))) (fun s w v hv => ⟨_, hv⟩) (takesWord' _ _) ent_takeWord (numForm_lt hm2) (blk_lt ho2) hm2 ho2) ent_takeListW).mono ?_; rintro e wvk109r2 ⟨vk109, rfl, hv, hnv, hb2⟩)))
  have hb := (further (further hb0 hb1) hb2)
  clear y124 y125 y126 y127 y128 y129 y130
  obtain ⟨b1k109, b2k109, b3k109, rfl⟩ : ∃ y1 y2 y3, vk109 = .slice y1 y2 y3 := by
    by_cases hz : rk109 = 0
    · exact listV_shape (hv hz)
    · exact ⟨_, _, _, hnv hz⟩
  clear HRk109
  have QB131 := hide (further QB117.out hb)
  clear QB117
  have QN132 := hide (QN118.out.keepB hb)
  clear QN118
  have QW133 := hide (QW119.out.keepB hb)
  clear QW119
  have QF134 := hide (QF120.out.keepB hb)
  clear QF120
  have QS135 := hide (QS121.out.keepB hb)
  clear QS121
  have QD136 := hide (QD122.out.keepB hb)
  clear QD122
  have QX137 := hide (keepBlk QX123.out hb)
  clear QX123
  have HVk109 := hide hv
  clear hb hv hnv hb0 hb1 hb2 hm2 ho2
  by_cases hz : sk109.fault = 0
  · obtain ⟨hr0, a', n', c', hv', he, -⟩ := back_list wr_word encW (min most 16777216) R ws HEk109.out hz (by rw [HS3k109.out]; exact HERk109.out) HVk109.out
    injection hv' with e1 e2 e3
    subst e1 e2 e3
    have hnn : nW = b2k109 := QW133.out.1.trans he.1.symm
    subst hnn
    have hb1 : ((sk109.fault : Int) == 0) = true := by rw [hz]; rfl
    subst hr0
    clear hz
    obtain ⟨y0, y1, y2, y3, y5, y6, y7⟩ := cells8 QX137.out
    have HEL := hide he
    clear he
    clear HEk109 HS3k109 HERk109 HVk109 H0k109 HFNk109
    have hnb : nW ≤ 140737488351232 := QW133.out.2.1
    go_wp2_with fail
    go_loopw [11] (fun iv wx => ∃ q j : Nat, q ≤ nW ∧ iv = .int .i64 (q : Nat) ∧ wx = wvk109r2.drewN j) (fun iv _ => nW - (intOf iv).toNat)
    case atStart => exact ⟨0, 0, Nat.zero_le _, rfl, rfl⟩
    case round =>
      obtain ⟨q, j, hq, rfl, rfl⟩ := hrel
      by_cases hlt : q < nW
      · obtain ⟨z, hz⟩ : ∃ z, ws[q]? = some z := ⟨_, List.getElem?_eq_getElem (by have h := HEL.out.1; rw [List.length_map] at h; omega)⟩
        obtain ⟨b4, o4, rfl, eb4⟩ : ∃ b o, b1k109 = some ⟨b, o, none⟩ ∧ wvk109r2.cell? ⟨b, o + q, none⟩ = some (.int .u64 ((z.val : Nat) : Int)) := by
          rcases HEL.out.2.2 with h0 | ⟨b, o, rfl, _, hr⟩
          · omega
          · exact ⟨b, o, rfl, hr q _ (by rw [List.getElem?_map, hz]; rfl)⟩
        obtain ⟨b5, o5, rfl, eb5⟩ : ∃ b o, aW = some ⟨b, o, none⟩ ∧ wvk109r2.cell? ⟨b, o + q, none⟩ = some (.int .u64 ((z.val : Nat) : Int)) := by
          rcases QW133.out.2.2 with h0 | ⟨b, o, rfl, _, hr⟩
          · omega
          · exact ⟨b, o, rfl, hr q _ (by rw [List.getElem?_map, hz]; rfl)⟩
        clear hz
        go_wp2_with fail
        go_quiet (fail)
        go_wp2_with fail
        exact ⟨⟨q + 1, j + nq, by omega, by go_num, rfl⟩, by simp [intOf]; omega⟩
      · have hb : Below wvk109r2.heap.size wvk109r2 (wvk109r2.drewN j) := belowDrewN (Below.refl _ _) j
        clear HEL y0 y1 y2 y3 y5 y6 y7
        have QB138 := hide (further QB131.out hb)
        clear QB131
        have QN139 := hide (QN132.out.keepB hb)
        clear QN132
        have QW140 := hide (QW133.out.keepB hb)
        clear QW133
        have QF141 := hide (QF134.out.keepB hb)
        clear QF134
        have QS142 := hide (QS135.out.keepB hb)
        clear QS135
        have QD143 := hide (QD136.out.keepB hb)
        clear QD136
        have QX144 := hide (keepBlk QX137.out hb)
        clear QX137
        clear hb
        go_wp2_with fail
        generalize wvk109r2.drewN j = wn145 at *
        generalize hs : (flagsW (min most 16777216) bf) ⟨[], room R, 0⟩ = sk146
        have HEk146 := hide hs
        clear hs
        go_wp2_with fail
        obtain ⟨y147, y148, y149, y150, y151, y152, y153⟩ := cells8 QX144.out
        go_region_held3 (fun w' => w'.cell? ⟨g, 2, none⟩ = some (.slice aF nF cF) ∧ w'.cell? ⟨g, 6, none⟩ = some (.int .i64 most) ∧ w'.cell? ⟨g, 7, none⟩ = some (.int .i64 R)) (first | go_keep | (exact (keep3 hb2 (keep3 hb1 (keep3 hb0 ⟨y149, y152, y153⟩)))) | (exact (keep3 hb1 (keep3 hb0 ⟨y149, y152, y153⟩))) | (exact (keep3 hb0 ⟨y149, y152, y153⟩))) ((first | (go_at_call 26; refine (Flags_any _).mono ?_; rintro e wvk146w0 ⟨rfl, hb0⟩; replace hb0 := aft_drew hb0) | (go_at_call 25; refine (ListsF _ _ _ _ most _).mono ?_; rintro e wvk146w1 ⟨m2k146, o2k146, rfl, hm2, ho2, -, -, hb1⟩) | (go_at_call 24; refine (BytesLf _ _ _ _ _ (flagsW (min most 16777216) bf) R sk146 HEk146.out _ (putsFs _ m2k146 o2k146 _ _ _ _ bf ((QF141.out.keepB hb0).keepB hb1) hm2 ho2) ent_putListF).mono ?_; rintro e wvk146w2 ⟨vk146, rfl, ho, hb2, hfn⟩)))
        have hb := (further (further hb0 hb1) hb2)
        clear y147 y148 y149 y150 y151 y152 y153
        obtain ⟨ak146, ck146, rfl, hr1, hn0, -⟩ := ownsRow_rd ho hfn.1 (by have := hfn.2; omega)
        have QB154 := hide (further QB138.out hb)
        clear QB138
        have QN155 := hide (QN139.out.keepB hb)
        clear QN139
        have QW156 := hide (QW140.out.keepB hb)
        clear QW140
        have QF157 := hide (QF141.out.keepB hb)
        clear QF141
        have QS158 := hide (QS142.out.keepB hb)
        clear QS142
        have QD159 := hide (QD143.out.keepB hb)
        clear QD143
        have QX160 := hide (keepBlk QX144.out hb)
        clear QX144
        have HRk146 := hide hr1
        have H0k146 := hide hn0
        have HFNk146 := hide hfn.1
        clear hb ho hfn hr1 hn0 hb0 hb1 hb2 hm2 ho2
        generalize htl : (told sk146).length = tk146 at *
        clear htl
        generalize hs3 : takeR (listR (min most 16777216) flagR) (newR (told sk146)) = r3k146
        generalize her : endR r3k146 = rk146
        have HS3k146 := hide hs3
        have HERk146 := hide her
        clear hs3 her
        go_wp2_with fail
        obtain ⟨y161, y162, y163, y164, y165, y166, y167⟩ := cells8 QX160.out
        go_region_held3 (fun w' => w'.cell? ⟨g, 2, none⟩ = some (.slice aF nF cF) ∧ w'.cell? ⟨g, 6, none⟩ = some (.int .i64 most) ∧ w'.cell? ⟨g, 7, none⟩ = some (.int .i64 R)) (first | go_keep | (exact (keep3 hb2 (keep3 hb1 (keep3 hb0 ⟨y163, y166, y167⟩)))) | (exact (keep3 hb1 (keep3 hb0 ⟨y163, y166, y167⟩))) | (exact (keep3 hb0 ⟨y163, y166, y167⟩))) ((first | (go_at_call 26; refine (Flags_any _).mono ?_; rintro e wvk146r0 ⟨rfl, hb0⟩; replace hb0 := aft_drew hb0) | (go_at_call 25; refine (ListsF _ _ _ _ most _).mono ?_; rintro e wvk146r1 ⟨m2k146, o2k146, rfl, hm2, ho2, -, -, hb1⟩) | (go_at_call 27; refine (ReadLf _ _ _ _ ak146 tk146 ck146 (told sk146) (listR (min most 16777216) flagR) (listV 4 (min most 16777216) flagR (fun (s : K.RS) (_ : World) v => v = Value.bool (flagV s))) (fun s => (listV_stable (T := 4) (T' := 0) (by decide) (by decide) (fun s => stableT_plain (P := fun v => v = Value.bool (flagV s))) s).stable) r3k146 HS3k146.out rk146 HERk146.out _ ((HRk146.out.keep hb0).keep hb1) H0k146.out (takesListF _ _ m2k146 o2k146 (min most 16777216) (by omega) _ _ _ _ _ _ (fun s => stableT_plain (P := fun v => v = Value.bool (flagV s))) (fun s w v hv => ⟨_, hv⟩) (takesFlag _ _) ent_takeFlag (numForm_lt hm2) (blk_lt ho2) hm2 ho2) ent_takeListF).mono ?_; rintro e wvk146r2 ⟨vk146, rfl, hv, hnv, hb2⟩)))
        have hb := (further (further hb0 hb1) hb2)
        clear y161 y162 y163 y164 y165 y166 y167
        obtain ⟨b1k146, b2k146, b3k146, rfl⟩ : ∃ y1 y2 y3, vk146 = .slice y1 y2 y3 := by
          by_cases hz : rk146 = 0
          · exact listV_shape (hv hz)
          · exact ⟨_, _, _, hnv hz⟩
        clear HRk146
        have QB168 := hide (further QB154.out hb)
        clear QB154
        have QN169 := hide (QN155.out.keepB hb)
        clear QN155
        have QW170 := hide (QW156.out.keepB hb)
        clear QW156
        have QF171 := hide (QF157.out.keepB hb)
        clear QF157
        have QS172 := hide (QS158.out.keepB hb)
        clear QS158
        have QD173 := hide (QD159.out.keepB hb)
        clear QD159
        have QX174 := hide (keepBlk QX160.out hb)
        clear QX160
        have HVk146 := hide hv
        clear hb hv hnv hb0 hb1 hb2 hm2 ho2
        by_cases hz : sk146.fault = 0
        · obtain ⟨hr0, a', n', c', hv', he, -⟩ := back_list wr_flag Value.bool (min most 16777216) R bf HEk146.out hz (by rw [HS3k146.out]; exact HERk146.out) HVk146.out
          injection hv' with e1 e2 e3
          subst e1 e2 e3
          have hnn : nF = b2k146 := QF171.out.1.trans he.1.symm
          subst hnn
          have hb1 : ((sk146.fault : Int) == 0) = true := by rw [hz]; rfl
          subst hr0
          clear hz
          obtain ⟨y0, y1, y2, y3, y5, y6, y7⟩ := cells8 QX174.out
          have HEL := hide he
          clear he
          clear HEk146 HS3k146 HERk146 HVk146 H0k146 HFNk146
          have hnb : nF ≤ 140737488351232 := QF171.out.2.1
          go_wp2_with fail
          go_loopw [13] (fun iv wx => ∃ q j : Nat, q ≤ nF ∧ iv = .int .i64 (q : Nat) ∧ wx = wvk146r2.drewN j) (fun iv _ => nF - (intOf iv).toNat)
          case atStart => exact ⟨0, 0, Nat.zero_le _, rfl, rfl⟩
          case round =>
            obtain ⟨q, j, hq, rfl, rfl⟩ := hrel
            by_cases hlt : q < nF
            · obtain ⟨z, hz⟩ : ∃ z, bf[q]? = some z := ⟨_, List.getElem?_eq_getElem (by have h := HEL.out.1; rw [List.length_map] at h; omega)⟩
              obtain ⟨b4, o4, rfl, eb4⟩ : ∃ b o, b1k146 = some ⟨b, o, none⟩ ∧ wvk146r2.cell? ⟨b, o + q, none⟩ = some (.bool z) := by
                rcases HEL.out.2.2 with h0 | ⟨b, o, rfl, _, hr⟩
                · omega
                · exact ⟨b, o, rfl, hr q _ (by rw [List.getElem?_map, hz]; rfl)⟩
              obtain ⟨b5, o5, rfl, eb5⟩ : ∃ b o, aF = some ⟨b, o, none⟩ ∧ wvk146r2.cell? ⟨b, o + q, none⟩ = some (.bool z) := by
                rcases QF171.out.2.2 with h0 | ⟨b, o, rfl, _, hr⟩
                · omega
                · exact ⟨b, o, rfl, hr q _ (by rw [List.getElem?_map, hz]; rfl)⟩
              clear hz
              go_wp2_with fail
              go_quiet (fail)
              go_wp2_with fail
              exact ⟨⟨q + 1, j + nq, by omega, by go_num, rfl⟩, by simp [intOf]; omega⟩
            · have hb : Below wvk146r2.heap.size wvk146r2 (wvk146r2.drewN j) := belowDrewN (Below.refl _ _) j
              clear HEL y0 y1 y2 y3 y5 y6 y7
              go_wp2_with fail
              go_ret
              exact ⟨rfl, further QB168.out hb⟩
        · have hzz : ((sk146.fault : Int) == 0) = false := by rw [beq_eq_false_iff_ne]; omega
          clear hz
          clear HEk146 HS3k146 HERk146 HVk146 H0k146 HFNk146
          go_wp2_with fail
          go_loopw [13] (fun iv wx => ∃ q j : Nat, q = 0 ∧ iv = .int .i64 (q : Nat) ∧ wx = wvk146r2.drewN j) (fun iv _ => 1 - (intOf iv).toNat)
          case atStart => exact ⟨0, 0, rfl, rfl, rfl⟩
          case round =>
            obtain ⟨q, j, hq, rfl, rfl⟩ := hrel
            subst hq
            have hb : Below wvk146r2.heap.size wvk146r2 (wvk146r2.drewN j) := belowDrewN (Below.refl _ _) j
            by_cases hl0 : 0 < b2k146
            · skip
              go_wp2_with fail
              go_ret
              exact ⟨rfl, further QB168.out hb⟩
            · skip
              go_wp2_with fail
              go_ret
              exact ⟨rfl, further QB168.out hb⟩
  · have hzz : ((sk109.fault : Int) == 0) = false := by rw [beq_eq_false_iff_ne]; omega
    clear hz
    clear HEk109 HS3k109 HERk109 HVk109 H0k109 HFNk109
    go_wp2_with fail
    go_loopw [11] (fun iv wx => ∃ q j : Nat, q = 0 ∧ iv = .int .i64 (q : Nat) ∧ wx = wvk109r2.drewN j) (fun iv _ => 1 - (intOf iv).toNat)
    case atStart => exact ⟨0, 0, rfl, rfl, rfl⟩
    case round =>
      obtain ⟨q, j, hq, rfl, rfl⟩ := hrel
      subst hq
      have hb : Below wvk109r2.heap.size wvk109r2 (wvk109r2.drewN j) := belowDrewN (Below.refl _ _) j
      by_cases hl0 : 0 < b2k109
      · skip
        have QB175 := hide (further QB131.out hb)
        clear QB131
        have QN176 := hide (QN132.out.keepB hb)
        clear QN132
        have QW177 := hide (QW133.out.keepB hb)
        clear QW133
        have QF178 := hide (QF134.out.keepB hb)
        clear QF134
        have QS179 := hide (QS135.out.keepB hb)
        clear QS135
        have QD180 := hide (QD136.out.keepB hb)
        clear QD136
        have QX181 := hide (keepBlk QX137.out hb)
        clear QX137
        clear hb
        go_wp2_with fail
        generalize wvk109r2.drewN j = wn182 at *
        generalize hs : (flagsW (min most 16777216) bf) ⟨[], room R, 0⟩ = sk183
        have HEk183 := hide hs
        clear hs
        go_wp2_with fail
        obtain ⟨y184, y185, y186, y187, y188, y189, y190⟩ := cells8 QX181.out
        go_region_held3 (fun w' => w'.cell? ⟨g, 2, none⟩ = some (.slice aF nF cF) ∧ w'.cell? ⟨g, 6, none⟩ = some (.int .i64 most) ∧ w'.cell? ⟨g, 7, none⟩ = some (.int .i64 R)) (first | go_keep | (exact (keep3 hb2 (keep3 hb1 (keep3 hb0 ⟨y186, y189, y190⟩)))) | (exact (keep3 hb1 (keep3 hb0 ⟨y186, y189, y190⟩))) | (exact (keep3 hb0 ⟨y186, y189, y190⟩))) ((first | (go_at_call 26; refine (Flags_any _).mono ?_; rintro e wvk183w0 ⟨rfl, hb0⟩; replace hb0 := aft_drew hb0) | (go_at_call 25; refine (ListsF _ _ _ _ most _).mono ?_; rintro e wvk183w1 ⟨m2k183, o2k183, rfl, hm2, ho2, -, -, hb1⟩) | (go_at_call 24; refine (BytesLf _ _ _ _ _ (flagsW (min most 16777216) bf) R sk183 HEk183.out _ (putsFs _ m2k183 o2k183 _ _ _ _ bf ((QF178.out.keepB hb0).keepB hb1) hm2 ho2) ent_putListF).mono ?_; rintro e wvk183w2 ⟨vk183, rfl, ho, hb2, hfn⟩)))
        have hb := (further (further hb0 hb1) hb2)
        clear y184 y185 y186 y187 y188 y189 y190
        obtain ⟨ak183, ck183, rfl, hr1, hn0, -⟩ := ownsRow_rd ho hfn.1 (by have := hfn.2; omega)
        have QB191 := hide (further QB175.out hb)
        clear QB175
        have QN192 := hide (QN176.out.keepB hb)
        clear QN176
        have QW193 := hide (QW177.out.keepB hb)
        clear QW177
        have QF194 := hide (QF178.out.keepB hb)
        clear QF178
        have QS195 := hide (QS179.out.keepB hb)
        clear QS179
        have QD196 := hide (QD180.out.keepB hb)
        clear QD180
        have QX197 := hide (keepBlk QX181.out hb)
        clear QX181
        have HRk183 := hide hr1
        have H0k183 := hide hn0
        have HFNk183 := hide hfn.1
        clear hb ho hfn hr1 hn0 hb0 hb1 hb2 hm2 ho2
        generalize htl : (told sk183).length = tk183 at *
        clear htl
        generalize hs3 : takeR (listR (min most 16777216) flagR) (newR (told sk183)) = r3k183
        generalize her : endR r3k183 = rk183
        have HS3k183 := hide hs3
        have HERk183 := hide her
        clear hs3 her
        go_wp2_with fail
        obtain ⟨y198, y199, y200, y201, y202, y203, y204⟩ := cells8 QX197.out
        go_region_held3 (fun w' => w'.cell? ⟨g, 2, none⟩ = some (.slice aF nF cF) ∧ w'.cell? ⟨g, 6, none⟩ = some (.int .i64 most) ∧ w'.cell? ⟨g, 7, none⟩ = some (.int .i64 R)) (first | go_keep | (exact (keep3 hb2 (keep3 hb1 (keep3 hb0 ⟨y200, y203, y204⟩)))) | (exact (keep3 hb1 (keep3 hb0 ⟨y200, y203, y204⟩))) | (exact (keep3 hb0 ⟨y200, y203, y204⟩))) ((first | (go_at_call 26; refine (Flags_any _).mono ?_; rintro e wvk183r0 ⟨rfl, hb0⟩; replace hb0 := aft_drew hb0) | (go_at_call 25; refine (ListsF _ _ _ _ most _).mono ?_; rintro e wvk183r1 ⟨m2k183, o2k183, rfl, hm2, ho2, -, -, hb1⟩) | (go_at_call 27; refine (ReadLf _ _ _ _ ak183 tk183 ck183 (told sk183) (listR (min most 16777216) flagR) (listV 4 (min most 16777216) flagR (fun (s : K.RS) (_ : World) v => v = Value.bool (flagV s))) (fun s => (listV_stable (T := 4) (T' := 0) (by decide) (by decide) (fun s => stableT_plain (P := fun v => v = Value.bool (flagV s))) s).stable) r3k183 HS3k183.out rk183 HERk183.out _ ((HRk183.out.keep hb0).keep hb1) H0k183.out (takesListF _ _ m2k183 o2k183 (min most 16777216) (by omega) _ _ _ _ _ _ (fun s => stableT_plain (P := fun v => v = Value.bool (flagV s))) (fun s w v hv => ⟨_, hv⟩) (takesFlag _ _) ent_takeFlag (numForm_lt hm2) (blk_lt ho2) hm2 ho2) ent_takeListF).mono ?_; rintro e wvk183r2 ⟨vk183, rfl, hv, hnv, hb2⟩)))
        have hb := (further (further hb0 hb1) hb2)
        clear y198 y199 y200 y201 y202 y203 y204
        obtain ⟨b1k183, b2k183, b3k183, rfl⟩ : ∃ y1 y2 y3, vk183 = .slice y1 y2 y3 := by
          by_cases hz : rk183 = 0
          · exact listV_shape (hv hz)
          · exact ⟨_, _, _, hnv hz⟩
        clear HRk183
        have QB205 := hide (further QB191.out hb)
        clear QB191
        have QN206 := hide (QN192.out.keepB hb)
        clear QN192
        have QW207 := hide (QW193.out.keepB hb)
        clear QW193
        have QF208 := hide (QF194.out.keepB hb)
        clear QF194
        have QS209 := hide (QS195.out.keepB hb)
        clear QS195
        have QD210 := hide (QD196.out.keepB hb)
        clear QD196
        have QX211 := hide (keepBlk QX197.out hb)
        clear QX197
        have HVk183 := hide hv
        clear hb hv hnv hb0 hb1 hb2 hm2 ho2
        by_cases hz : sk183.fault = 0
        · obtain ⟨hr0, a', n', c', hv', he, -⟩ := back_list wr_flag Value.bool (min most 16777216) R bf HEk183.out hz (by rw [HS3k183.out]; exact HERk183.out) HVk183.out
          injection hv' with e1 e2 e3
          subst e1 e2 e3
          have hnn : nF = b2k183 := QF208.out.1.trans he.1.symm
          subst hnn
          have hb1 : ((sk183.fault : Int) == 0) = true := by rw [hz]; rfl
          subst hr0
          clear hz
          obtain ⟨y0, y1, y2, y3, y5, y6, y7⟩ := cells8 QX211.out
          have HEL := hide he
          clear he
          clear HEk183 HS3k183 HERk183 HVk183 H0k183 HFNk183
          have hnb : nF ≤ 140737488351232 := QF208.out.2.1
          go_wp2_with fail
          go_loopw [13] (fun iv wx => ∃ q j : Nat, q ≤ nF ∧ iv = .int .i64 (q : Nat) ∧ wx = wvk183r2.drewN j) (fun iv _ => nF - (intOf iv).toNat)
          case atStart => exact ⟨0, 0, Nat.zero_le _, rfl, rfl⟩
          case round =>
            obtain ⟨q, j, hq, rfl, rfl⟩ := hrel
            by_cases hlt : q < nF
            · obtain ⟨z, hz⟩ : ∃ z, bf[q]? = some z := ⟨_, List.getElem?_eq_getElem (by have h := HEL.out.1; rw [List.length_map] at h; omega)⟩
              obtain ⟨b4, o4, rfl, eb4⟩ : ∃ b o, b1k183 = some ⟨b, o, none⟩ ∧ wvk183r2.cell? ⟨b, o + q, none⟩ = some (.bool z) := by
                rcases HEL.out.2.2 with h0 | ⟨b, o, rfl, _, hr⟩
                · omega
                · exact ⟨b, o, rfl, hr q _ (by rw [List.getElem?_map, hz]; rfl)⟩
              obtain ⟨b5, o5, rfl, eb5⟩ : ∃ b o, aF = some ⟨b, o, none⟩ ∧ wvk183r2.cell? ⟨b, o + q, none⟩ = some (.bool z) := by
                rcases QF208.out.2.2 with h0 | ⟨b, o, rfl, _, hr⟩
                · omega
                · exact ⟨b, o, rfl, hr q _ (by rw [List.getElem?_map, hz]; rfl)⟩
              clear hz
              go_wp2_with fail
              go_quiet (fail)
              go_wp2_with fail
              exact ⟨⟨q + 1, j + nq, by omega, by go_num, rfl⟩, by simp [intOf]; omega⟩
            · have hb : Below wvk183r2.heap.size wvk183r2 (wvk183r2.drewN j) := belowDrewN (Below.refl _ _) j
              clear HEL y0 y1 y2 y3 y5 y6 y7
              go_wp2_with fail
              go_ret
              exact ⟨rfl, further QB205.out hb⟩
        · have hzz : ((sk183.fault : Int) == 0) = false := by rw [beq_eq_false_iff_ne]; omega
          clear hz
          clear HEk183 HS3k183 HERk183 HVk183 H0k183 HFNk183
          go_wp2_with fail
          go_loopw [13] (fun iv wx => ∃ q j : Nat, q = 0 ∧ iv = .int .i64 (q : Nat) ∧ wx = wvk183r2.drewN j) (fun iv _ => 1 - (intOf iv).toNat)
          case atStart => exact ⟨0, 0, rfl, rfl, rfl⟩
          case round =>
            obtain ⟨q, j, hq, rfl, rfl⟩ := hrel
            subst hq
            have hb : Below wvk183r2.heap.size wvk183r2 (wvk183r2.drewN j) := belowDrewN (Below.refl _ _) j
            by_cases hl0 : 0 < b2k183
            · skip
              go_wp2_with fail
              go_ret
              exact ⟨rfl, further QB205.out hb⟩
            · skip
              go_wp2_with fail
              go_ret
              exact ⟨rfl, further QB205.out hb⟩
      · skip
        have QB212 := hide (further QB131.out hb)
        clear QB131
        have QN213 := hide (QN132.out.keepB hb)
        clear QN132
        have QW214 := hide (QW133.out.keepB hb)
        clear QW133
        have QF215 := hide (QF134.out.keepB hb)
        clear QF134
        have QS216 := hide (QS135.out.keepB hb)
        clear QS135
        have QD217 := hide (QD136.out.keepB hb)
        clear QD136
        have QX218 := hide (keepBlk QX137.out hb)
        clear QX137
        clear hb
        go_wp2_with fail
        generalize wvk109r2.drewN j = wn219 at *
        generalize hs : (flagsW (min most 16777216) bf) ⟨[], room R, 0⟩ = sk220
        have HEk220 := hide hs
        clear hs
        go_wp2_with fail
        obtain ⟨y221, y222, y223, y224, y225, y226, y227⟩ := cells8 QX218.out
        go_region_held3 (fun w' => w'.cell? ⟨g, 2, none⟩ = some (.slice aF nF cF) ∧ w'.cell? ⟨g, 6, none⟩ = some (.int .i64 most) ∧ w'.cell? ⟨g, 7, none⟩ = some (.int .i64 R)) (first | go_keep | (exact (keep3 hb2 (keep3 hb1 (keep3 hb0 ⟨y223, y226, y227⟩)))) | (exact (keep3 hb1 (keep3 hb0 ⟨y223, y226, y227⟩))) | (exact (keep3 hb0 ⟨y223, y226, y227⟩))) ((first | (go_at_call 26; refine (Flags_any _).mono ?_; rintro e wvk220w0 ⟨rfl, hb0⟩; replace hb0 := aft_drew hb0) | (go_at_call 25; refine (ListsF _ _ _ _ most _).mono ?_; rintro e wvk220w1 ⟨m2k220, o2k220, rfl, hm2, ho2, -, -, hb1⟩) | (go_at_call 24; refine (BytesLf _ _ _ _ _ (flagsW (min most 16777216) bf) R sk220 HEk220.out _ (putsFs _ m2k220 o2k220 _ _ _ _ bf ((QF215.out.keepB hb0).keepB hb1) hm2 ho2) ent_putListF).mono ?_; rintro e wvk220w2 ⟨vk220, rfl, ho, hb2, hfn⟩)))
        have hb := (further (further hb0 hb1) hb2)
        clear y221 y222 y223 y224 y225 y226 y227
        obtain ⟨ak220, ck220, rfl, hr1, hn0, -⟩ := ownsRow_rd ho hfn.1 (by have := hfn.2; omega)
        have QB228 := hide (further QB212.out hb)
        clear QB212
        have QN229 := hide (QN213.out.keepB hb)
        clear QN213
        have QW230 := hide (QW214.out.keepB hb)
        clear QW214
        have QF231 := hide (QF215.out.keepB hb)
        clear QF215
        have QS232 := hide (QS216.out.keepB hb)
        clear QS216
        have QD233 := hide (QD217.out.keepB hb)
        clear QD217
        have QX234 := hide (keepBlk QX218.out hb)
        clear QX218
        have HRk220 := hide hr1
        have H0k220 := hide hn0
        have HFNk220 := hide hfn.1
        clear hb ho hfn hr1 hn0 hb0 hb1 hb2 hm2 ho2
        generalize htl : (told sk220).length = tk220 at *
        clear htl
        generalize hs3 : takeR (listR (min most 16777216) flagR) (newR (told sk220)) = r3k220
        generalize her : endR r3k220 = rk220
        have HS3k220 := hide hs3
        have HERk220 := hide her
        clear hs3 her
        go_wp2_with fail
        obtain ⟨y235, y236, y237, y238, y239, y240, y241⟩ := cells8 QX234.out
        go_region_held3 (fun w' => w'.cell? ⟨g, 2, none⟩ = some (.slice aF nF cF) ∧ w'.cell? ⟨g, 6, none⟩ = some (.int .i64 most) ∧ w'.cell? ⟨g, 7, none⟩ = some (.int .i64 R)) (first | go_keep | (exact (keep3 hb2 (keep3 hb1 (keep3 hb0 ⟨y237, y240, y241⟩)))) | (exact (keep3 hb1 (keep3 hb0 ⟨y237, y240, y241⟩))) | (exact (keep3 hb0 ⟨y237, y240, y241⟩))) ((first | (go_at_call 26; refine (Flags_any _).mono ?_; rintro e wvk220r0 ⟨rfl, hb0⟩; replace hb0 := aft_drew hb0) | (go_at_call 25; refine (ListsF _ _ _ _ most _).mono ?_; rintro e wvk220r1 ⟨m2k220, o2k220, rfl, hm2, ho2, -, -, hb1⟩) | (go_at_call 27; refine (ReadLf _ _ _ _ ak220 tk220 ck220 (told sk220) (listR (min most 16777216) flagR) (listV 4 (min most 16777216) flagR (fun (s : K.RS) (_ : World) v => v = Value.bool (flagV s))) (fun s => (listV_stable (T := 4) (T' := 0) (by decide) (by decide) (fun s => stableT_plain (P := fun v => v = Value.bool (flagV s))) s).stable) r3k220 HS3k220.out rk220 HERk220.out _ ((HRk220.out.keep hb0).keep hb1) H0k220.out (takesListF _ _ m2k220 o2k220 (min most 16777216) (by omega) _ _ _ _ _ _ (fun s => stableT_plain (P := fun v => v = Value.bool (flagV s))) (fun s w v hv => ⟨_, hv⟩) (takesFlag _ _) ent_takeFlag (numForm_lt hm2) (blk_lt ho2) hm2 ho2) ent_takeListF).mono ?_; rintro e wvk220r2 ⟨vk220, rfl, hv, hnv, hb2⟩)))
        have hb := (further (further hb0 hb1) hb2)
        clear y235 y236 y237 y238 y239 y240 y241
        obtain ⟨b1k220, b2k220, b3k220, rfl⟩ : ∃ y1 y2 y3, vk220 = .slice y1 y2 y3 := by
          by_cases hz : rk220 = 0
          · exact listV_shape (hv hz)
          · exact ⟨_, _, _, hnv hz⟩
        clear HRk220
        have QB242 := hide (further QB228.out hb)
        clear QB228
        have QN243 := hide (QN229.out.keepB hb)
        clear QN229
        have QW244 := hide (QW230.out.keepB hb)
        clear QW230
        have QF245 := hide (QF231.out.keepB hb)
        clear QF231
        have QS246 := hide (QS232.out.keepB hb)
        clear QS232
        have QD247 := hide (QD233.out.keepB hb)
        clear QD233
        have QX248 := hide (keepBlk QX234.out hb)
        clear QX234
        have HVk220 := hide hv
        clear hb hv hnv hb0 hb1 hb2 hm2 ho2
        by_cases hz : sk220.fault = 0
        · obtain ⟨hr0, a', n', c', hv', he, -⟩ := back_list wr_flag Value.bool (min most 16777216) R bf HEk220.out hz (by rw [HS3k220.out]; exact HERk220.out) HVk220.out
          injection hv' with e1 e2 e3
          subst e1 e2 e3
          have hnn : nF = b2k220 := QF245.out.1.trans he.1.symm
          subst hnn
          have hb1 : ((sk220.fault : Int) == 0) = true := by rw [hz]; rfl
          subst hr0
          clear hz
          obtain ⟨y0, y1, y2, y3, y5, y6, y7⟩ := cells8 QX248.out
          have HEL := hide he
          clear he
          clear HEk220 HS3k220 HERk220 HVk220 H0k220 HFNk220
          have hnb : nF ≤ 140737488351232 := QF245.out.2.1
          go_wp2_with fail
          go_loopw [13] (fun iv wx => ∃ q j : Nat, q ≤ nF ∧ iv = .int .i64 (q : Nat) ∧ wx = wvk220r2.drewN j) (fun iv _ => nF - (intOf iv).toNat)
          case atStart => exact ⟨0, 0, Nat.zero_le _, rfl, rfl⟩
          case round =>
            obtain ⟨q, j, hq, rfl, rfl⟩ := hrel
            by_cases hlt : q < nF
            · obtain ⟨z, hz⟩ : ∃ z, bf[q]? = some z := ⟨_, List.getElem?_eq_getElem (by have h := HEL.out.1; rw [List.length_map] at h; omega)⟩
              obtain ⟨b4, o4, rfl, eb4⟩ : ∃ b o, b1k220 = some ⟨b, o, none⟩ ∧ wvk220r2.cell? ⟨b, o + q, none⟩ = some (.bool z) := by
                rcases HEL.out.2.2 with h0 | ⟨b, o, rfl, _, hr⟩
                · omega
                · exact ⟨b, o, rfl, hr q _ (by rw [List.getElem?_map, hz]; rfl)⟩
              obtain ⟨b5, o5, rfl, eb5⟩ : ∃ b o, aF = some ⟨b, o, none⟩ ∧ wvk220r2.cell? ⟨b, o + q, none⟩ = some (.bool z) := by
                rcases QF245.out.2.2 with h0 | ⟨b, o, rfl, _, hr⟩
                · omega
                · exact ⟨b, o, rfl, hr q _ (by rw [List.getElem?_map, hz]; rfl)⟩
              clear hz
              go_wp2_with fail
              go_quiet (fail)
              go_wp2_with fail
              exact ⟨⟨q + 1, j + nq, by omega, by go_num, rfl⟩, by simp [intOf]; omega⟩
            · have hb : Below wvk220r2.heap.size wvk220r2 (wvk220r2.drewN j) := belowDrewN (Below.refl _ _) j
              clear HEL y0 y1 y2 y3 y5 y6 y7
              go_wp2_with fail
              go_ret
              exact ⟨rfl, further QB242.out hb⟩
        · have hzz : ((sk220.fault : Int) == 0) = false := by rw [beq_eq_false_iff_ne]; omega
          clear hz
          clear HEk220 HS3k220 HERk220 HVk220 H0k220 HFNk220
          go_wp2_with fail
          go_loopw [13] (fun iv wx => ∃ q j : Nat, q = 0 ∧ iv = .int .i64 (q : Nat) ∧ wx = wvk220r2.drewN j) (fun iv _ => 1 - (intOf iv).toNat)
          case atStart => exact ⟨0, 0, rfl, rfl, rfl⟩
          case round =>
            obtain ⟨q, j, hq, rfl, rfl⟩ := hrel
            subst hq
            have hb : Below wvk220r2.heap.size wvk220r2 (wvk220r2.drewN j) := belowDrewN (Below.refl _ _) j
            by_cases hl0 : 0 < b2k220
            · skip
              go_wp2_with fail
              go_ret
              exact ⟨rfl, further QB242.out hb⟩
            · skip
              go_wp2_with fail
              go_ret
              exact ⟨rfl, further QB242.out hb⟩
end Go.Proofs.YtagdlblegnfemabGreat
