/- PackOne. -/
import Derived.Test.YtnoniccbmojmlaaGreatPVal
import Derived.Test.YtnoniccbmojmlaaGreatPFlag
import Derived.Test.YtnoniccbmojmlaaGreatPOpen
import Derived.Deep.CutRange
namespace Go.Proofs.YtnoniccbmojmlaaGreat
open Go.ChangeShapes Go.WideShapes Go.ChangeAt Go.RowKit Go.Joins Go.Deep

set_option maxRecDepth 20000 in
set_option maxHeartbeats 20000000 in
theorem one_walk (most : Int) (a : Option Addr) (n c : Nat) (l : List Nat) (w : World) (h : Rd w a n l) (h0 : a = none → c = 0) :
    Calls Tryz.prog 3 #[.slice a n c, .int .i64 most] w fun en w' => en = .returned (.bool true) ∧ Below w.heap.size w w' := by
  have HRR := hide h
  have H0 := hide h0
  have HBY := hide h.2.2.1
  clear h h0
  go_enter Tryz.func3, Tryz.ntmps3
  go_wp2_with fail
  refine (known_any _).mono ?_
  rintro e wx0 ⟨rfl, hb⟩
  have HB0 := hide hb
  have HR0 := hide (HRR.out.keep hb)
  clear hb HRR
  go_wp2_with fail
  refine (Numbers_any 0 9223372036854775807 _).mono ?_
  rintro e wx3 ⟨la1, ma1, rfl, hl, hm, _, _, hb⟩
  have B4 := hide (further HB0.out hb)
  clear HB0
  have R5 := hide (HR0.out.keep hb)
  clear HR0
  have HLa1 := hide hl
  have HMa1 := hide hm
  clear hb hl hm
  generalize hs3 : takeR (numR 0 9223372036854775807) (newR l) = s3
  generalize her : endR s3 = r
  have HS3 := hide hs3
  have HER := hide her
  clear hs3 her
  go_wp2_with fail
  refine (ReadI _ _ _ _ a n c l (numR 0 9223372036854775807) (fun (s : K.RS) (_ : World) v => v = Value.int .i64 (numV s : Nat)) (fun s => (stableT_plain (T := 0) (P := fun v => v = Value.int .i64 (numV s : Nat))).stable) s3 HS3.out r HER.out _ R5.out H0.out (takesNum _ _ la1 ma1 0 9223372036854775807 HLa1.out HMa1.out (numForm_lt HLa1.out) (numForm_lt HMa1.out)) ent_takeNum).mono ?_
  rintro e wx6 ⟨v, rfl, hv, hnv, hb⟩
  clear HLa1
  clear HMa1
  have B7 := hide (further B4.out hb)
  clear B4
  have R8 := hide (R5.out.keep hb)
  clear R5
  clear hb
  obtain ⟨xv, rfl⟩ : ∃ xv : Nat, v = .int .i64 (xv : Nat) := by
    by_cases hz : r = 0
    · exact ⟨_, hv hz⟩
    · exact ⟨0, hnv hz⟩
  have HVa1 := hide hv
  have HNV := hide hnv
  clear hv hnv
  have HST : Hid (∀ s, Stable ((fun (s : K.RS) (_ : World) v => v = Value.int .i64 (numV s : Nat)) s)) := fun s => (stableT_plain (T := 0) (P := fun v => v = Value.int .i64 (numV s : Nat))).stable
  go_wp2_with fail
  refine (Numbers_any 0 9223372036854775807 _).mono ?_
  rintro e wx9 ⟨lb2, mb2, rfl, hl, hm, _, _, hb⟩
  have B10 := hide (further B7.out hb)
  clear B7
  have R11 := hide (R8.out.keep hb)
  clear R8
  have V12 := hide (fun (hz : r = 0) => HST.out _ _ _ _ (HVa1.out hz) hb)
  clear HVa1
  have HLb2 := hide hl
  have HMb2 := hide hm
  clear hb hl hm
  obtain ⟨f, hpf, hfl⟩ : ∃ f, PutsG (fun k => k < wx9.heap.size) wx9 25 #[.pointer (some ⟨lb2, 0, none⟩), .pointer (some ⟨mb2, 0, none⟩)] (Value.int .i64 (xv : Nat)) f ∧ (r = 0 → f ⟨[], 16777216, 0⟩ = ⟨l, 16777216, 0⟩) := by
    by_cases hz : r = 0
    · have he : endR (takeR (numR 0 9223372036854775807) (newR l)) = 0 := by rw [HS3.out, HER.out]; exact hz
      exact ⟨(fun s => numW 0 9223372036854775807 (numV s : Nat)) (newR l), vp_num _ lb2 mb2 0 9223372036854775807 HLb2.out HMb2.out (newR l) (good_new HBY.out he).1.1 _ (V12.out hz), fun _ => rw_whole (rw_num 0 9223372036854775807) l HBY.out he⟩
    · exact ⟨numW 0 9223372036854775807 (xv : Nat), putsNum _ _ lb2 mb2 0 9223372036854775807 _ (by have h0 := HNV.out hz; injection h0 with _ h2; omega) HLb2.out HMb2.out (numForm_lt HLb2.out) (numForm_lt HMb2.out), fun h => absurd h hz⟩
  generalize hs2 : f ⟨[], room 16777216, 0⟩ = s2
  have HS2 := hide hs2
  have HPF := hide hpf
  have HFL := hide hfl
  clear hs2 hpf hfl
  clear HLb2
  clear HMb2
  clear V12
  clear HST HNV
  go_wp2_with fail
  refine (BytesI _ _ _ _ (Value.int .i64 (xv : Nat)) f 16777216 s2 HS2.out wx9 HPF.out ent_putNum).mono ?_
  rintro e wx13 ⟨v, rfl, ho, hb, hfn⟩
  obtain ⟨a1, c1, rfl, hr1, _⟩ := ownsRow_rd ho hfn.1 (by have := hfn.2; omega)
  have B14 := hide (further B10.out hb)
  clear B10
  have R15 := hide (R11.out.keep hb)
  clear R11
  have HA := hide hr1
  clear hb ho hfn hr1 HPF
  have HSP : Hid (r = 0 → s2 = ⟨l, 16777216, 0⟩) := fun hz => by rw [← HS2.out, room_max]; exact HFL.out hz
  clear HS2 HFL HER HS3
  go_upto_region 6 with fail
  go_cut [40] from 28 to 40 (fun st wx => st = .bool false ∧ wx = wx13)
  case first =>
    by_cases hz : r = 0
    · have h2 := HSP.out hz
      subst hz h2
      have k1 := conv_rd HA.out c1
      have k2 := conv_rd R15.out c
      have k1' : (convert 22 9 (.slice a1 (told ⟨l, 16777216, 0⟩).length c1)).run Tryz.prog wx13 = .ok (.string (str l)) wx13 := k1
      clear k1 HSP HA
      generalize (told ⟨l, 16777216, 0⟩).length = tl at *
      generalize hstr : str l = sl at *
      clear hstr
      go_wp2_with fail
      go_meet
      exact ⟨rfl, rfl⟩
    · have hzz : ((r : Int) == 0) = false := by rw [beq_eq_false_iff_ne]; omega
      clear hz HSP HA
      generalize (told s2).length = tl at *
      go_wp2_with fail
      go_meet
      exact ⟨rfl, rfl⟩
  case rest =>
    obtain ⟨rfl, rfl⟩ := hcut
    clear HSP HA
    go_wp2_with fail
    refine (Texts_any most _).mono ?_
    rintro e wx18 ⟨ma16, rfl, hm, _, hb⟩
    have B19 := hide (further B14.out hb)
    clear B14
    have R20 := hide (R15.out.keep hb)
    clear R15
    have HMa16 := hide hm
    clear hb hm
    go_wp2_with fail
    refine (ListsS _ _ _ _ most _).mono ?_
    rintro e wx21 ⟨m2a16, o2a16, rfl, hm, ho, _, _, hb⟩
    have B22 := hide (further B19.out hb)
    clear B19
    have R23 := hide (R20.out.keep hb)
    clear R20
    have M24 := hide (keepCell HMa16.out hb)
    clear HMa16
    have HM2a16 := hide hm
    have HO2a16 := hide ho
    clear hb hm ho
    generalize hs3 : takeR (listR (min most 16777216) (rowR most)) (newR l) = s3
    generalize her : endR s3 = r
    have HS3 := hide hs3
    have HER := hide her
    clear hs3 her
    go_wp2_with fail
    refine (ReadLs _ _ _ _ a n c l (listR (min most 16777216) (rowR most)) (listV 9 (min most 16777216) (rowR most) (fun (s : K.RS) (_ : World) v => v = Value.string (str (rowV most s)))) (fun s => (listV_stable (T := 9) (T' := 0) (by decide) (by decide) (fun s => stableT_plain (P := fun v => v = Value.string (str (rowV most s)))) s).stable) s3 HS3.out r HER.out _ R23.out H0.out (takesListS _ _ m2a16 o2a16 (min most 16777216) (by omega) _ _ _ _ _ _ (fun s => stableT_plain (P := fun v => v = Value.string (str (rowV most s)))) (fun s w v hv => ⟨_, hv⟩) (takesText _ _ ma16 most M24.out (numForm_lt M24.out)) ent_takeText (numForm_lt HM2a16.out) (blk_lt HO2a16.out) HM2a16.out HO2a16.out) ent_takeListS).mono ?_
    rintro e wx25 ⟨v, rfl, hv, hnv, hb⟩
    clear M24
    clear HM2a16
    clear HO2a16
    have B26 := hide (further B22.out hb)
    clear B22
    have R27 := hide (R23.out.keep hb)
    clear R23
    clear hb
    obtain ⟨y1, y2, y3, rfl⟩ : ∃ y1 y2 y3, v = .slice y1 y2 y3 := by
      by_cases hz : r = 0
      · exact listV_shape (hv hz)
      · exact ⟨_, _, _, hnv hz⟩
    have HVa16 := hide hv
    have HNV := hide hnv
    clear hv hnv
    have HST : Hid (∀ s, Stable ((listV 9 (min most 16777216) (rowR most) (fun (s : K.RS) (_ : World) v => v = Value.string (str (rowV most s)))) s)) := fun s => (listV_stable (T := 9) (T' := 0) (by decide) (by decide) (fun s => stableT_plain (P := fun v => v = Value.string (str (rowV most s)))) s).stable
    go_wp2_with fail
    refine (Texts_any most _).mono ?_
    rintro e wx28 ⟨mb17, rfl, hm, _, hb⟩
    have B29 := hide (further B26.out hb)
    clear B26
    have R30 := hide (R27.out.keep hb)
    clear R27
    have V31 := hide (fun (hz : r = 0) => HST.out _ _ _ _ (HVa16.out hz) hb)
    clear HVa16
    have HMb17 := hide hm
    clear hb hm
    go_wp2_with fail
    refine (ListsS _ _ _ _ most _).mono ?_
    rintro e wx32 ⟨m2b17, o2b17, rfl, hm, ho, _, _, hb⟩
    have B33 := hide (further B29.out hb)
    clear B29
    have R34 := hide (R30.out.keep hb)
    clear R30
    have V35 := hide (fun (hz : r = 0) => HST.out _ _ _ _ (V31.out hz) hb)
    clear V31
    have M36 := hide (keepCell HMb17.out hb)
    clear HMb17
    have HM2b17 := hide hm
    have HO2b17 := hide ho
    clear hb hm ho
    obtain ⟨f, hpf, hfl⟩ : ∃ f, PutsG (fun k => k < wx32.heap.size) wx32 35 #[.pointer (some ⟨m2b17, 0, none⟩), .pointer (some ⟨o2b17, 0, none⟩)] (Value.slice y1 y2 y3) f ∧ (r = 0 → f ⟨[], 16777216, 0⟩ = ⟨l, 16777216, 0⟩) := by
      by_cases hz : r = 0
      · have he : endR (takeR (listR (min most 16777216) (rowR most)) (newR l)) = 0 := by rw [HS3.out, HER.out]; exact hz
        exact ⟨(listPut (min most 16777216) (rowR most) (fun s => textW most (rowV most s))) (newR l), vp_listS _ m2b17 o2b17 (min most 16777216) (by omega) _ _ _ _ (rowR most) (fun (s : K.RS) (_ : World) v => v = Value.string (str (rowV most s))) (fun s => textW most (rowV most s)) (rw_text most) 9 ent_putText HM2b17.out HO2b17.out (fun s hs _ v hv => vp_text _ mb17 most M36.out s hs.1 hs.2.1 v hv) (newR l) (good_new HBY.out he).1 (good_new HBY.out he).2 _ (V35.out hz), fun _ => rw_whole (rw_list (rw_text most) (min most 16777216)) l HBY.out he⟩
      · exact ⟨listW (min most 16777216) [], (by have h0 := HNV.out hz; rw [h0]; exact putsListS _ _ m2b17 o2b17 (min most 16777216) _ _ _ _ none 0 0 [] [] (els_nil _ _) rfl (fun i v f hv _ => by cases hv) ent_putText (numForm_lt HM2b17.out) (blk_lt HO2b17.out) HM2b17.out HO2b17.out), fun h => absurd h hz⟩
    generalize hs2 : f ⟨[], room 16777216, 0⟩ = s2
    have HS2 := hide hs2
    have HPF := hide hpf
    have HFL := hide hfl
    clear hs2 hpf hfl
    clear M36
    clear HM2b17
    clear HO2b17
    clear V35
    clear HST HNV
    go_wp2_with fail
    refine (BytesLs _ _ _ _ (Value.slice y1 y2 y3) f 16777216 s2 HS2.out wx32 HPF.out ent_putListS).mono ?_
    rintro e wx37 ⟨v, rfl, ho, hb, hfn⟩
    obtain ⟨a1, c1, rfl, hr1, _⟩ := ownsRow_rd ho hfn.1 (by have := hfn.2; omega)
    have B38 := hide (further B33.out hb)
    clear B33
    have R39 := hide (R34.out.keep hb)
    clear R34
    have HA := hide hr1
    clear hb ho hfn hr1 HPF
    have HSP : Hid (r = 0 → s2 = ⟨l, 16777216, 0⟩) := fun hz => by rw [← HS2.out, room_max]; exact HFL.out hz
    clear HS2 HFL HER HS3
    go_upto_region 10 with fail
    go_cut [71] from 59 to 71 (fun st wx => st = .bool false ∧ wx = wx37)
    case first =>
      by_cases hz : r = 0
      · have h2 := HSP.out hz
        subst hz h2
        have k1 := conv_rd HA.out c1
        have k2 := conv_rd R39.out c
        have k1' : (convert 22 9 (.slice a1 (told ⟨l, 16777216, 0⟩).length c1)).run Tryz.prog wx37 = .ok (.string (str l)) wx37 := k1
        clear k1 HSP HA
        generalize (told ⟨l, 16777216, 0⟩).length = tl at *
        generalize hstr : str l = sl at *
        clear hstr
        go_wp2_with fail
        go_meet
        exact ⟨rfl, rfl⟩
      · have hzz : ((r : Int) == 0) = false := by rw [beq_eq_false_iff_ne]; omega
        clear hz HSP HA
        generalize (told s2).length = tl at *
        go_wp2_with fail
        go_meet
        exact ⟨rfl, rfl⟩
    case rest =>
      obtain ⟨rfl, rfl⟩ := hcut
      clear HSP HA
      go_wp2_with fail
      refine (Numbers_any 0 9223372036854775807 _).mono ?_
      rintro e wx42 ⟨la40, ma40, rfl, hl, hm, _, _, hb⟩
      have B43 := hide (further B38.out hb)
      clear B38
      have R44 := hide (R39.out.keep hb)
      clear R39
      have HLa40 := hide hl
      have HMa40 := hide hm
      clear hb hl hm
      go_wp2_with fail
      refine (ListsI _ _ _ _ most _).mono ?_
      rintro e wx45 ⟨m2a40, o2a40, rfl, hm, ho, _, _, hb⟩
      have B46 := hide (further B43.out hb)
      clear B43
      have R47 := hide (R44.out.keep hb)
      clear R44
      have L48 := hide (keepCell HLa40.out hb)
      clear HLa40
      have M49 := hide (keepCell HMa40.out hb)
      clear HMa40
      have HM2a40 := hide hm
      have HO2a40 := hide ho
      clear hb hm ho
      go_wp2_with fail
      refine (ListsLi _ _ _ _ most _).mono ?_
      rintro e wx50 ⟨m3a40, o3a40, rfl, hm, ho, _, _, hb⟩
      have B51 := hide (further B46.out hb)
      clear B46
      have R52 := hide (R47.out.keep hb)
      clear R47
      have L53 := hide (keepCell L48.out hb)
      clear L48
      have M54 := hide (keepCell M49.out hb)
      clear M49
      have M255 := hide (keepCell HM2a40.out hb)
      clear HM2a40
      have O256 := hide (keepBlk HO2a40.out hb)
      clear HO2a40
      have HM3a40 := hide hm
      have HO3a40 := hide ho
      clear hb hm ho
      generalize hs3 : takeR (listR (min most 16777216) (listR (min most 16777216) (numR 0 9223372036854775807))) (newR l) = s3
      generalize her : endR s3 = r
      have HS3 := hide hs3
      have HER := hide her
      clear hs3 her
      go_wp2_with fail
      refine (ReadLli _ _ _ _ a n c l (listR (min most 16777216) (listR (min most 16777216) (numR 0 9223372036854775807))) (listV 56 (min most 16777216) (listR (min most 16777216) (numR 0 9223372036854775807)) (listV 3 (min most 16777216) (numR 0 9223372036854775807) (fun (s : K.RS) (_ : World) v => v = Value.int .i64 (numV s : Nat)))) (fun s => (listV_stable (T := 56) (T' := 0) (by decide) (by decide) (fun s => listV_stable (T := 3) (T' := 0) (by decide) (by decide) (fun s => stableT_plain (P := fun v => v = Value.int .i64 (numV s : Nat))) s) s).stable) s3 HS3.out r HER.out _ R52.out H0.out (takesListLi _ _ m3a40 o3a40 (min most 16777216) (by omega) _ _ _ _ _ _ (fun s => listV_stable (T := 3) (T' := 56) (by decide) (by decide) (fun s => stableT_plain (P := fun v => v = Value.int .i64 (numV s : Nat))) s) (fun s w v hv => listV_shape hv) (takesListI _ _ m2a40 o2a40 (min most 16777216) (by omega) _ _ _ _ _ _ (fun s => stableT_plain (P := fun v => v = Value.int .i64 (numV s : Nat))) (fun s w v hv => ⟨_, hv⟩) (takesNum _ _ la40 ma40 0 9223372036854775807 L53.out M54.out (numForm_lt L53.out) (numForm_lt M54.out)) ent_takeNum (numForm_lt M255.out) (blk_lt O256.out) M255.out O256.out) ent_takeListI (numForm_lt HM3a40.out) (blk_lt HO3a40.out) HM3a40.out HO3a40.out) ent_takeListLi).mono ?_
      rintro e wx57 ⟨v, rfl, hv, hnv, hb⟩
      clear L53
      clear M54
      clear M255
      clear O256
      clear HM3a40
      clear HO3a40
      have B58 := hide (further B51.out hb)
      clear B51
      have R59 := hide (R52.out.keep hb)
      clear R52
      clear hb
      obtain ⟨y1, y2, y3, rfl⟩ : ∃ y1 y2 y3, v = .slice y1 y2 y3 := by
        by_cases hz : r = 0
        · exact listV_shape (hv hz)
        · exact ⟨_, _, _, hnv hz⟩
      have HVa40 := hide hv
      have HNV := hide hnv
      clear hv hnv
      have HST : Hid (∀ s, Stable ((listV 56 (min most 16777216) (listR (min most 16777216) (numR 0 9223372036854775807)) (listV 3 (min most 16777216) (numR 0 9223372036854775807) (fun (s : K.RS) (_ : World) v => v = Value.int .i64 (numV s : Nat)))) s)) := fun s => (listV_stable (T := 56) (T' := 0) (by decide) (by decide) (fun s => listV_stable (T := 3) (T' := 0) (by decide) (by decide) (fun s => stableT_plain (P := fun v => v = Value.int .i64 (numV s : Nat))) s) s).stable
      go_wp2_with fail
      refine (Numbers_any 0 9223372036854775807 _).mono ?_
      rintro e wx60 ⟨lb41, mb41, rfl, hl, hm, _, _, hb⟩
      have B61 := hide (further B58.out hb)
      clear B58
      have R62 := hide (R59.out.keep hb)
      clear R59
      have V63 := hide (fun (hz : r = 0) => HST.out _ _ _ _ (HVa40.out hz) hb)
      clear HVa40
      have HLb41 := hide hl
      have HMb41 := hide hm
      clear hb hl hm
      go_wp2_with fail
      refine (ListsI _ _ _ _ most _).mono ?_
      rintro e wx64 ⟨m2b41, o2b41, rfl, hm, ho, _, _, hb⟩
      have B65 := hide (further B61.out hb)
      clear B61
      have R66 := hide (R62.out.keep hb)
      clear R62
      have V67 := hide (fun (hz : r = 0) => HST.out _ _ _ _ (V63.out hz) hb)
      clear V63
      have L68 := hide (keepCell HLb41.out hb)
      clear HLb41
      have M69 := hide (keepCell HMb41.out hb)
      clear HMb41
      have HM2b41 := hide hm
      have HO2b41 := hide ho
      clear hb hm ho
      go_wp2_with fail
      refine (ListsLi _ _ _ _ most _).mono ?_
      rintro e wx70 ⟨m3b41, o3b41, rfl, hm, ho, _, _, hb⟩
      have B71 := hide (further B65.out hb)
      clear B65
      have R72 := hide (R66.out.keep hb)
      clear R66
      have V73 := hide (fun (hz : r = 0) => HST.out _ _ _ _ (V67.out hz) hb)
      clear V67
      have L74 := hide (keepCell L68.out hb)
      clear L68
      have M75 := hide (keepCell M69.out hb)
      clear M69
      have M276 := hide (keepCell HM2b41.out hb)
      clear HM2b41
      have O277 := hide (keepBlk HO2b41.out hb)
      clear HO2b41
      have HM3b41 := hide hm
      have HO3b41 := hide ho
      clear hb hm ho
      obtain ⟨f, hpf, hfl⟩ : ∃ f, PutsG (fun k => k < wx70.heap.size) wx70 49 #[.pointer (some ⟨m3b41, 0, none⟩), .pointer (some ⟨o3b41, 0, none⟩)] (Value.slice y1 y2 y3) f ∧ (r = 0 → f ⟨[], 16777216, 0⟩ = ⟨l, 16777216, 0⟩) := by
        by_cases hz : r = 0
        · have he : endR (takeR (listR (min most 16777216) (listR (min most 16777216) (numR 0 9223372036854775807))) (newR l)) = 0 := by rw [HS3.out, HER.out]; exact hz
          exact ⟨(listPut (min most 16777216) (listR (min most 16777216) (numR 0 9223372036854775807)) (listPut (min most 16777216) (numR 0 9223372036854775807) (fun s => numW 0 9223372036854775807 (numV s : Nat)))) (newR l), vp_listLi _ m3b41 o3b41 (min most 16777216) (by omega) _ _ _ _ (listR (min most 16777216) (numR 0 9223372036854775807)) (listV 3 (min most 16777216) (numR 0 9223372036854775807) (fun (s : K.RS) (_ : World) v => v = Value.int .i64 (numV s : Nat))) (listPut (min most 16777216) (numR 0 9223372036854775807) (fun s => numW 0 9223372036854775807 (numV s : Nat))) (rw_list (rw_num 0 9223372036854775807) (min most 16777216)) 56 ent_putListI HM3b41.out HO3b41.out (fun s hs hgz v hv => vp_listI _ m2b41 o2b41 (min most 16777216) (by omega) _ _ _ _ (numR 0 9223372036854775807) (fun (s : K.RS) (_ : World) v => v = Value.int .i64 (numV s : Nat)) (fun s => numW 0 9223372036854775807 (numV s : Nat)) (rw_num 0 9223372036854775807) 3 ent_putNum M276.out O277.out (fun s hs _ v hv => vp_num _ lb41 mb41 0 9223372036854775807 L74.out M75.out s hs.1 v hv) s hs hgz v hv) (newR l) (good_new HBY.out he).1 (good_new HBY.out he).2 _ (V73.out hz), fun _ => rw_whole (rw_list (rw_list (rw_num 0 9223372036854775807) (min most 16777216)) (min most 16777216)) l HBY.out he⟩
        · exact ⟨listW (min most 16777216) [], (by have h0 := HNV.out hz; rw [h0]; exact putsListLi _ _ m3b41 o3b41 (min most 16777216) _ _ _ _ none 0 0 [] [] (els_nil _ _) rfl (fun i v f hv _ => by cases hv) ent_putListI (numForm_lt HM3b41.out) (blk_lt HO3b41.out) HM3b41.out HO3b41.out), fun h => absurd h hz⟩
      generalize hs2 : f ⟨[], room 16777216, 0⟩ = s2
      have HS2 := hide hs2
      have HPF := hide hpf
      have HFL := hide hfl
      clear hs2 hpf hfl
      clear L74
      clear M75
      clear M276
      clear O277
      clear HM3b41
      clear HO3b41
      clear V73
      clear HST HNV
      go_wp2_with fail
      refine (BytesLli _ _ _ _ (Value.slice y1 y2 y3) f 16777216 s2 HS2.out wx70 HPF.out ent_putListLi).mono ?_
      rintro e wx78 ⟨v, rfl, ho, hb, hfn⟩
      obtain ⟨a1, c1, rfl, hr1, _⟩ := ownsRow_rd ho hfn.1 (by have := hfn.2; omega)
      have B79 := hide (further B71.out hb)
      clear B71
      have R80 := hide (R72.out.keep hb)
      clear R72
      have HA := hide hr1
      clear hb ho hfn hr1 HPF
      have HSP : Hid (r = 0 → s2 = ⟨l, 16777216, 0⟩) := fun hz => by rw [← HS2.out, room_max]; exact HFL.out hz
      clear HS2 HFL HER HS3
      go_upto_region 14 with fail
      go_cut [104] from 92 to 104 (fun st wx => st = .bool false ∧ wx = wx78)
      case first =>
        by_cases hz : r = 0
        · have h2 := HSP.out hz
          subst hz h2
          have k1 := conv_rd HA.out c1
          have k2 := conv_rd R80.out c
          have k1' : (convert 22 9 (.slice a1 (told ⟨l, 16777216, 0⟩).length c1)).run Tryz.prog wx78 = .ok (.string (str l)) wx78 := k1
          clear k1 HSP HA
          generalize (told ⟨l, 16777216, 0⟩).length = tl at *
          generalize hstr : str l = sl at *
          clear hstr
          go_wp2_with fail
          go_meet
          exact ⟨rfl, rfl⟩
        · have hzz : ((r : Int) == 0) = false := by rw [beq_eq_false_iff_ne]; omega
          clear hz HSP HA
          generalize (told s2).length = tl at *
          go_wp2_with fail
          go_meet
          exact ⟨rfl, rfl⟩
      case rest =>
        obtain ⟨rfl, rfl⟩ := hcut
        clear HSP HA
        go_wp2_with fail
        refine (Flags_any _).mono ?_
        rintro e wx83 ⟨rfl, hb⟩
        have B84 := hide (further B79.out hb)
        clear B79
        have R85 := hide (R80.out.keep hb)
        clear R80
        clear hb 
        go_wp2_with fail
        refine (ListsF _ _ _ _ most _).mono ?_
        rintro e wx86 ⟨m2a81, o2a81, rfl, hm, ho, _, _, hb⟩
        have B87 := hide (further B84.out hb)
        clear B84
        have R88 := hide (R85.out.keep hb)
        clear R85
        have HM2a81 := hide hm
        have HO2a81 := hide ho
        clear hb hm ho
        go_wp2_with fail
        refine (ListsLf _ _ _ _ most _).mono ?_
        rintro e wx89 ⟨m3a81, o3a81, rfl, hm, ho, _, _, hb⟩
        have B90 := hide (further B87.out hb)
        clear B87
        have R91 := hide (R88.out.keep hb)
        clear R88
        have M292 := hide (keepCell HM2a81.out hb)
        clear HM2a81
        have O293 := hide (keepBlk HO2a81.out hb)
        clear HO2a81
        have HM3a81 := hide hm
        have HO3a81 := hide ho
        clear hb hm ho
        generalize hs3 : takeR (listR (min most 16777216) (listR (min most 16777216) flagR)) (newR l) = s3
        generalize her : endR s3 = r
        have HS3 := hide hs3
        have HER := hide her
        clear hs3 her
        go_wp2_with fail
        refine (ReadLlf _ _ _ _ a n c l (listR (min most 16777216) (listR (min most 16777216) flagR)) (listV 71 (min most 16777216) (listR (min most 16777216) flagR) (listV 4 (min most 16777216) flagR (fun (s : K.RS) (_ : World) v => v = Value.bool (flagV s)))) (fun s => (listV_stable (T := 71) (T' := 0) (by decide) (by decide) (fun s => listV_stable (T := 4) (T' := 0) (by decide) (by decide) (fun s => stableT_plain (P := fun v => v = Value.bool (flagV s))) s) s).stable) s3 HS3.out r HER.out _ R91.out H0.out (takesListLf _ _ m3a81 o3a81 (min most 16777216) (by omega) _ _ _ _ _ _ (fun s => listV_stable (T := 4) (T' := 71) (by decide) (by decide) (fun s => stableT_plain (P := fun v => v = Value.bool (flagV s))) s) (fun s w v hv => listV_shape hv) (takesListF _ _ m2a81 o2a81 (min most 16777216) (by omega) _ _ _ _ _ _ (fun s => stableT_plain (P := fun v => v = Value.bool (flagV s))) (fun s w v hv => ⟨_, hv⟩) (takesFlag _ _) ent_takeFlag (numForm_lt M292.out) (blk_lt O293.out) M292.out O293.out) ent_takeListF (numForm_lt HM3a81.out) (blk_lt HO3a81.out) HM3a81.out HO3a81.out) ent_takeListLf).mono ?_
        rintro e wx94 ⟨v, rfl, hv, hnv, hb⟩
        clear M292
        clear O293
        clear HM3a81
        clear HO3a81
        have B95 := hide (further B90.out hb)
        clear B90
        have R96 := hide (R91.out.keep hb)
        clear R91
        clear hb
        obtain ⟨y1, y2, y3, rfl⟩ : ∃ y1 y2 y3, v = .slice y1 y2 y3 := by
          by_cases hz : r = 0
          · exact listV_shape (hv hz)
          · exact ⟨_, _, _, hnv hz⟩
        have HVa81 := hide hv
        have HNV := hide hnv
        clear hv hnv
        have HST : Hid (∀ s, Stable ((listV 71 (min most 16777216) (listR (min most 16777216) flagR) (listV 4 (min most 16777216) flagR (fun (s : K.RS) (_ : World) v => v = Value.bool (flagV s)))) s)) := fun s => (listV_stable (T := 71) (T' := 0) (by decide) (by decide) (fun s => listV_stable (T := 4) (T' := 0) (by decide) (by decide) (fun s => stableT_plain (P := fun v => v = Value.bool (flagV s))) s) s).stable
        go_wp2_with fail
        refine (Flags_any _).mono ?_
        rintro e wx97 ⟨rfl, hb⟩
        have B98 := hide (further B95.out hb)
        clear B95
        have R99 := hide (R96.out.keep hb)
        clear R96
        have V100 := hide (fun (hz : r = 0) => HST.out _ _ _ _ (HVa81.out hz) hb)
        clear HVa81
        clear hb 
        go_wp2_with fail
        refine (ListsF _ _ _ _ most _).mono ?_
        rintro e wx101 ⟨m2b82, o2b82, rfl, hm, ho, _, _, hb⟩
        have B102 := hide (further B98.out hb)
        clear B98
        have R103 := hide (R99.out.keep hb)
        clear R99
        have V104 := hide (fun (hz : r = 0) => HST.out _ _ _ _ (V100.out hz) hb)
        clear V100
        have HM2b82 := hide hm
        have HO2b82 := hide ho
        clear hb hm ho
        go_wp2_with fail
        refine (ListsLf _ _ _ _ most _).mono ?_
        rintro e wx105 ⟨m3b82, o3b82, rfl, hm, ho, _, _, hb⟩
        have B106 := hide (further B102.out hb)
        clear B102
        have R107 := hide (R103.out.keep hb)
        clear R103
        have V108 := hide (fun (hz : r = 0) => HST.out _ _ _ _ (V104.out hz) hb)
        clear V104
        have M2109 := hide (keepCell HM2b82.out hb)
        clear HM2b82
        have O2110 := hide (keepBlk HO2b82.out hb)
        clear HO2b82
        have HM3b82 := hide hm
        have HO3b82 := hide ho
        clear hb hm ho
        obtain ⟨f, hpf, hfl⟩ : ∃ f, PutsG (fun k => k < wx105.heap.size) wx105 61 #[.pointer (some ⟨m3b82, 0, none⟩), .pointer (some ⟨o3b82, 0, none⟩)] (Value.slice y1 y2 y3) f ∧ (r = 0 → f ⟨[], 16777216, 0⟩ = ⟨l, 16777216, 0⟩) := by
          by_cases hz : r = 0
          · have he : endR (takeR (listR (min most 16777216) (listR (min most 16777216) flagR)) (newR l)) = 0 := by rw [HS3.out, HER.out]; exact hz
            exact ⟨(listPut (min most 16777216) (listR (min most 16777216) flagR) (listPut (min most 16777216) flagR (fun s => flagW (flagV s)))) (newR l), vp_listLf _ m3b82 o3b82 (min most 16777216) (by omega) _ _ _ _ (listR (min most 16777216) flagR) (listV 4 (min most 16777216) flagR (fun (s : K.RS) (_ : World) v => v = Value.bool (flagV s))) (listPut (min most 16777216) flagR (fun s => flagW (flagV s))) (rw_list rw_flag (min most 16777216)) 71 ent_putListF HM3b82.out HO3b82.out (fun s hs hgz v hv => vp_listF _ m2b82 o2b82 (min most 16777216) (by omega) _ _ _ _ flagR (fun (s : K.RS) (_ : World) v => v = Value.bool (flagV s)) (fun s => flagW (flagV s)) rw_flag 4 ent_putFlag M2109.out O2110.out (fun s hs _ v hv => by subst hv; exact putsFlag _ _ _) s hs hgz v hv) (newR l) (good_new HBY.out he).1 (good_new HBY.out he).2 _ (V108.out hz), fun _ => rw_whole (rw_list (rw_list rw_flag (min most 16777216)) (min most 16777216)) l HBY.out he⟩
          · exact ⟨listW (min most 16777216) [], (by have h0 := HNV.out hz; rw [h0]; exact putsListLf _ _ m3b82 o3b82 (min most 16777216) _ _ _ _ none 0 0 [] [] (els_nil _ _) rfl (fun i v f hv _ => by cases hv) ent_putListF (numForm_lt HM3b82.out) (blk_lt HO3b82.out) HM3b82.out HO3b82.out), fun h => absurd h hz⟩
        generalize hs2 : f ⟨[], room 16777216, 0⟩ = s2
        have HS2 := hide hs2
        have HPF := hide hpf
        have HFL := hide hfl
        clear hs2 hpf hfl
        clear M2109
        clear O2110
        clear HM3b82
        clear HO3b82
        clear V108
        clear HST HNV
        go_wp2_with fail
        refine (BytesLlf _ _ _ _ (Value.slice y1 y2 y3) f 16777216 s2 HS2.out wx105 HPF.out ent_putListLf).mono ?_
        rintro e wx111 ⟨v, rfl, ho, hb, hfn⟩
        obtain ⟨a1, c1, rfl, hr1, _⟩ := ownsRow_rd ho hfn.1 (by have := hfn.2; omega)
        have B112 := hide (further B106.out hb)
        clear B106
        have R113 := hide (R107.out.keep hb)
        clear R107
        have HA := hide hr1
        clear hb ho hfn hr1 HPF
        have HSP : Hid (r = 0 → s2 = ⟨l, 16777216, 0⟩) := fun hz => by rw [← HS2.out, room_max]; exact HFL.out hz
        clear HS2 HFL HER HS3
        by_cases hz : r = 0
        · have h2 := HSP.out hz
          subst hz h2
          have k1 := conv_rd HA.out c1
          have k2 := conv_rd R113.out c
          have k1' : (convert 22 9 (.slice a1 (told ⟨l, 16777216, 0⟩).length c1)).run Tryz.prog wx111 = .ok (.string (str l)) wx111 := k1
          clear k1 HSP HA
          generalize (told ⟨l, 16777216, 0⟩).length = tl at *
          generalize hstr : str l = sl at *
          clear hstr
          go_wp2
          go_ret
          exact ⟨by simp, B112.out⟩
        · have hzz : ((r : Int) == 0) = false := by rw [beq_eq_false_iff_ne]; omega
          clear HSP HA
          generalize (told s2).length = tl at *
          go_wp2
          go_ret
          exact ⟨by simp, B112.out⟩

namespace PackOne
set_option maxRecDepth 100000 in
theorem lifted (os : Os) (started : os.Started) (H : Type) (enc : TypeId × Value → H) :
    ReturnsInHanded {} Tryz.checked os 3 .any (Rows.packOneSpec.pre6 enc Tryz.prog Tryz.f3 Rows.packOneRow.domain false) (Rows.packOneSpec.post enc Tryz.prog Tryz.f3 false true false false) := by
  refine returnsInHanded_of_change_sized (C := Tryz.checked) own started (by kernel_rfl) Tryz.func3
    (ChangeSpec.witness6 (enc := enc) (C := Tryz.checked) false ⟨#[], #[.slice none 0 0, .int .i64 0], []⟩ 8 (by kernel_rfl) (by kernel_rfl) (by kernel_rfl) (by kernel_rfl)) ?_
  intro W base args ds gs before hval0 hW _ hsz0 _
  have hsz : (DataW.weightsEach Tryz.prog (Tryz.f3.params.toList ++ Rows.packOneSpec.plain.varTypes Tryz.prog) (ds ++ gs)).all (· ≤ reachBytes) = true := hsz0
  have hval : ∀ (j : Nat) t v, Tryz.f3.params[j]? = some t → args[j]? = some v → Value.okWide Tryz.prog W .any base t v := hval0
  have hW' := hW
  obtain ⟨p, q, hA0, hV, rfl, hfz, hnd⟩ := hW
  have hA : DataW.TrodAll enc Tryz.prog W 0 (fun _ => true) true Tryz.f3.params.toList args.toList ds p := hA0
  rw [Tryz.params3] at hA hval hsz
  obtain ⟨v0, v1, d0, d1, p0, p1, rfl, rfl, rfl, h0, h1⟩ := trodAll_two hA
  obtain ⟨rfl, rfl⟩ := trodVars_none hV
  have lt0 : ∀ x ∈ p0, x.block < W.heap.size := by obtain ⟨m, hm⟩ := h0; exact DataW.trod_lt m _ _ _ hm
  obtain ⟨a0, n0, c0, rfl⟩ := okWide_slice Tryz.underlying22 (hval 0 22 v0 rfl rfl)
  obtain ⟨l0, hl0, hc0, hz0⟩ := open_bytes h0 (weigh hsz (j := 0) rfl rfl)
  obtain ⟨x1, rfl, rfl, rfl, wf1⟩ := open_int Tryz.underlying3 (hval 1 3 v1 rfl rfl) h1
  clear hA0 hval0
  refine (one_walk x1 a0 n0 c0 l0 W hl0 hz0).mono fun e W' ⟨he, bel⟩ => ?_
  subst he
  exact ⟨_, rfl, _, _, _, [], _, [], hW', trodAll_mk1 (shut_bool Tryz.underlying4 _), trodAll_mk2 (Below.trod laidOut (by kernel_rfl) (of_decide_eq_true (by kernel_rfl)) h0 bel lt0) (shut_int Tryz.underlying3 wf1), rfl, bel.frame _, fun h => by cases h⟩

theorem over : Rows.packOneRow.holds Tryz.pinned (OpenSpec.ofChange Rows.packOneSpec) :=
  OpenClaim.holds_of_wide 3 Tryz.f3 rfl rfl rfl rfl rfl rfl rfl ⟨rfl, rfl, rfl, rfl, rfl⟩ rfl rfl rfl rfl rfl (by kernel_rfl) Tryz.func3 (by kernel_rfl)
    (of_decide_eq_true (by kernel_rfl)) (by unfold Func.isWrapper; first | (rw [if_pos (by decide +kernel)]; kernel_rfl) | (rw [if_neg (by decide +kernel)]; exact ⟨rfl, rfl⟩))
    (fun os started H enc _ => lifted os started H enc)
end PackOne

theorem packOne_holds : Rows.PackOneSaid := PackOne.over
#print axioms packOne_holds

end Go.Proofs.YtnoniccbmojmlaaGreat
