/- The document's Text. -/
import Derived.Test.YtfoahfgehmghcaaGreatDoorUTrA
import Derived.Deep.Cut
import Derived.Deep.CutRange
namespace Go.Proofs.YtfoahfgehmghcaaGreatDoor
namespace U
namespace Tr
open Go.RowKit

set_option maxRecDepth 100000 in
set_option maxHeartbeats 4000000 in
theorem refText_any (nm : List UInt8) (dl : Int) (s : Option Addr × Nat × Nat) (xs : List Gr.No) (B : Nat) (w : World) (hP : Gr.RdP B w s xs) (hB : B ≤ w.heap.size) (hs : Gr.Sz (ba nm) xs) :
    Calls Tryz.prog 8 #[.agg #[.string (ba nm), .int .i64 dl, .slice s.1 s.2.1 s.2.2]] w fun e w' => e = .returned (.tuple #[.string (ba (txt nm dl xs)), .int .i64 ((Gr.chk (ba nm) dl xs).2 : Nat)]) ∧ Below w.heap.size w w' := by
  obtain ⟨sa, sn, sc⟩ := s
  simp only
  have bel0 : Below w.heap.size w (w.alloc (.cells #[.string (ba nm), .int .i64 dl, .slice sa sn sc] 24)) := (Below.refl _ w).alloc (Nat.le_refl _) _
  have hbx := heap_alloc_new w (.cells #[.string (ba nm), .int .i64 dl, .slice sa sn sc] 24)
  have hz0 : (w.alloc (.cells #[.string (ba nm), .int .i64 dl, .slice sa sn sc] 24)).heap.size = w.heap.size + 1 := by simp
  have CK := hide (fun w' hP hB => Gr.refCheck_any (ba nm) dl (sa, sn, sc) xs B w' hP hB hs)
  have HTX : Hid (txt nm dl xs = if (Gr.chk (ba nm) dl xs).2 = 0 then textOf nm dl xs else []) := rfl
  have HOK := hide (fun h => wok_of (nm := nm) (dl := dl) (xs := xs) h)
  have HNU := hide (fun h => num_of (nm := nm) (dl := dl) (xs := xs) h)
  have HSH := hide (fun h => text_short (nm := nm) (dl := dl) (xs := xs) h)
  have HSN : Hid (sn = xs.length) := hP.1
  have HP := hide hP
  have HBX := hide hbx
  have BEL := hide bel0
  have c0 := cell_blk hbx 0 (v := .string (ba nm)) rfl
  have c1 := cell_blk hbx 1 (v := .int .i64 dl) rfl
  have c2 := cell_blk hbx 2 (v := .slice sa sn sc) rfl
  clear hP hbx bel0 hs
  generalize Gr.chk (ba nm) dl xs = R at *
  obtain ⟨r1, r2⟩ := R
  simp only at HTX HOK HNU HSH CK ⊢
  go_enter Tryz.func8, Tryz.ntmps8
  go_upto_region 1 with fail
  generalize w.alloc (.cells #[.string (ba nm), .int .i64 dl, .slice sa sn sc] 24) = w1 at *
  go_wp2_with fail
  go_at_call 16
  refine (CK.out w1 (rdp_below HP.out BEL.out hB) (by omega)).mono ?_
  rintro e w2 ⟨rfl, k2⟩
  have HB2 : Hid (Below w.heap.size w w2) := BEL.out.trans (k2.below (by omega) fun _ h => h.elim)
  have HX2 : Hid (w2.heap[w.heap.size]? = some (.cells #[.string (ba nm), .int .i64 dl, .slice sa sn sc] 24 (0, 0))) := (k2.block _ (by omega) fun h => h).trans HBX.out
  have hsz2 : w.heap.size < w2.heap.size := by have := k2.size; omega
  clear k2 c0 c1 c2 CK BEL HBX hz0
  by_cases h0 : r2 = 0
  · subst h0
    have HTT : Hid (txt nm dl xs = textOf nm dl xs) := by show _ = _; rw [HTX.out, if_pos rfl]
    have DD := hide (fun W => dec_lit (HNU.out rfl).1 W)
    have HNX := hide (HNU.out rfl).2
    obtain ⟨o1, o2, o3, o4⟩ := HOK.out rfl
    have HO4 := hide o4
    have hst := HSH.out rfl
    have hs64 : sn ≤ 64 := by have := HSN.out; omega
    have HUL := hide (fun i => Nat.le_trans (upto_len nm dl xs i) hst)
    have HAll := hide (upto_all nm dl xs)
    have HPl := hide (planE nm dl xs)
    have szd := dec_sz (HNU.out rfl).1
    have szn : (ba nm).size ≤ 40 := by rw [ba_size]; exact o1
    have NA := hide (fun word hw z ez W hb hz hP hv hzl => names_any (ba nm) dl word hw z ez (sa, sn, sc) xs B W hb hz hP hv hzl fun x hx => (HO4.out x hx).1)
    clear HTX HOK HNU HSH o2 o4 hst
    have HM : Hid (∀ W, Below w2.heap.size w2 W → (W.cell? ⟨w.heap.size, 0, none⟩ = some (.string (ba nm)) ∧ W.cell? ⟨w.heap.size, 1, none⟩ = some (.int .i64 dl) ∧ W.cell? ⟨w.heap.size, 2, none⟩ = some (.slice sa sn sc)) ∧ Gr.RdP B W (sa, sn, sc) xs ∧ B ≤ W.heap.size ∧ Below w.heap.size w W) := fun W k => by
      have X := (k.block w.heap.size hsz2).trans HX2.out
      have b := HB2.out.trans (k.mono HB2.out.size)
      exact ⟨⟨cell_blk X 0 rfl, cell_blk X 1 rfl, cell_blk X 2 rfl⟩, rdp_below HP.out b hB, by have := b.size; omega, b⟩
    clear HP HB2 HX2
    generalize hN : w.heap.size = N at *
    have HN := hide hN
    clear hN
    obtain ⟨⟨c0, c1, c2⟩, _⟩ := HM.out w2 (Below.refl _ _)
    haveI := Gr.behindNE w2
    have e0 := fun u : Gr.Behind w2 => u.cell c0
    have e1 := fun u : Gr.Behind w2 => u.cell c1
    generalize ba (Lib.itoa dl) = sdl at *
    generalize hbn : ba nm = bn at *
    go_upto_region 4 with fail
    refine Gr.quiet_behind (by kernel_rfl) (by kernel_rfl) ?_
    repeat (go_big_quiet_step ((go_at_call 17; exact calls_b _ (DD.out _))))
    refine wpQuiet_nil ?_
    intro _ hw'
    obtain ⟨u, hw''⟩ := hw'
    subst hw''
    clear e0 e1 c0 c1 c2
    have HU2 := hide u.2
    clear DD
    go_wp2_with fail
    go_loopw [6, 7] (fun v iv wr => ∃ (i : Nat) (A : ByteArray), iv = .int .i64 (i : Nat) ∧ v = .string A ∧ i ≤ sn ∧ Hid (A = ba (upto nm dl xs i)) ∧ Hid (Below w2.heap.size w2 wr)) (fun _ iv _ => sn - (intOf iv).toNat)
    case atStart => exact ⟨0, _, rfl, rfl, Nat.zero_le _, HPl.out, HU2.out⟩
    case round =>
      obtain ⟨i, A, rfl, rfl, hi, HA, HI⟩ := hrel
      have hAs : A.size ≤ 65536 := by rw [HA.out, ba_size]; exact HUL.out i
      obtain ⟨⟨c0, c1, c2⟩, hp, hbr, hbe⟩ := HM.out wr HI.out
      have HBE := hide hbe
      clear hbe HPl
      by_cases hlt : i < sn
      · obtain ⟨g, off, x, hx1, hg, hx, hnd, hz1, hz2⟩ := hp.at (i := i) hlt
        simp only at hx1
        subst hx1
        have hxm := List.mem_of_getElem? hx
        have HXO := hide (HO4.out x hxm)
        have HXN := hide (HNX.out x hxm)
        have HLa := hide (lastE nm dl xs i x hx)
        have HXM := hide hxm
        have BN := hide ((Below.refl _ wr).alloc (Nat.le_refl _) (.cells x.q.row.toArray 32))
        have ND := hide (Gr.NodeAt.new wr x.q 32)
        obtain ⟨⟨nmx, la, bu, cl, be, bs, ca, ji, ⟨ne1, ne2, ne3⟩, ⟨af1, af2, af3⟩⟩, nl, al⟩ := x
        obtain ⟨nml, rfl⟩ : ∃ l, nmx = ba l := ⟨_, (ba_of nmx).symm⟩
        obtain ⟨n0, n1, n2, n3, n4, n5, n6, n7, n8, n9⟩ := hnd.all
        obtain ⟨m0, m1, m2, m3, m4, m5, m6, m7, m8, m9⟩ := ND.out.all
        simp only [Nat.zero_add, Gr.Nd.row, ba_data] at *
        clear hx hxm hz1 hz2 hnd ND hp c0 c1
        have i0 : (i : Int) < sn := by omega
        go_upto_region 9 with fail
        have hszn : (wr.alloc (.cells [Value.string (ba nml), .int .i64 la, .int .i64 bu, .int .i64 cl, .int .i64 be, .int .i64 bs, .int .i64 ca, .int .i64 ji, .slice ne1 ne2 ne3, .slice af1 af2 af3].toArray 32)).heap.size = wr.heap.size + 1 := by simp
        have hszn : (wr.alloc (.cells #[Value.string (ba nml), .int .i64 la, .int .i64 bu, .int .i64 cl, .int .i64 be, .int .i64 bs, .int .i64 ca, .int .i64 ji, .slice ne1 ne2 ne3, .slice af1 af2 af3] 32)).heap.size = wr.heap.size + 1 := hszn
        generalize (wr.alloc (.cells #[Value.string (ba nml), .int .i64 la, .int .i64 bu, .int .i64 cl, .int .i64 be, .int .i64 bs, .int .i64 ca, .int .i64 ji, .slice ne1 ne2 ne3, .slice af1 af2 af3] 32)) = w4 at *
        have HC : Hid (∀ W, Below w4.heap.size w4 W → (W.cell? ⟨wr.heap.size, 0, none⟩ = some (.string (ba nml)) ∧ W.cell? ⟨wr.heap.size, 1, none⟩ = some (.int .i64 la) ∧ W.cell? ⟨wr.heap.size, 2, none⟩ = some (.int .i64 bu) ∧ W.cell? ⟨wr.heap.size, 3, none⟩ = some (.int .i64 cl) ∧ W.cell? ⟨wr.heap.size, 4, none⟩ = some (.int .i64 be) ∧ W.cell? ⟨wr.heap.size, 5, none⟩ = some (.int .i64 bs) ∧ W.cell? ⟨wr.heap.size, 6, none⟩ = some (.int .i64 ca) ∧ W.cell? ⟨wr.heap.size, 7, none⟩ = some (.int .i64 ji) ∧ W.cell? ⟨wr.heap.size, 8, none⟩ = some (.slice ne1 ne2 ne3) ∧ W.cell? ⟨wr.heap.size, 9, none⟩ = some (.slice af1 af2 af3)) ∧ Below w2.heap.size w2 W) := fun W k =>
          have f : ∀ o v, w4.cell? ⟨wr.heap.size, o, none⟩ = some v → W.cell? ⟨wr.heap.size, o, none⟩ = some v := fun o v h => (k.cell (p := ⟨wr.heap.size, o, none⟩) (by show wr.heap.size < _; omega)).trans h
          have b4 := HI.out.trans (BN.out.mono HI.out.size)
          ⟨⟨f _ _ m0, f _ _ m1, f _ _ m2, f _ _ m3, f _ _ m4, f _ _ m5, f _ _ m6, f _ _ m7, f _ _ m8, f _ _ m9⟩, b4.trans (k.mono b4.size)⟩
        clear n0 n1 n2 n3 n4 n5 n6 n7 n8 n9 m4 m5 m6 m7 m8 m9 c2 hg BN HI HBE hbr hszn
        generalize wr.heap.size = P at *
        have HNe := hide (nodeE (upto nm dl xs i) nml la bu cl)
        rw [← HA.out] at HNe
        have z1 := dec_sz HXN.out.1
        have z2 := dec_sz HXN.out.2.1
        have z3 := dec_sz HXN.out.2.2.1
        have hnl : nml.length ≤ 40 := by have := HXO.out.1; simpa [ba_size] using this
        have zn : (ba nml).size ≤ 40 := by rw [ba_size]; exact hnl
        have hLl : (upto nm dl xs i ++ nodeS nml la bu cl).length ≤ 65536 + 140 := by
          rw [List.length_append]
          have := HUL.out i
          have := node_len hnl HXN.out.1 HXN.out.2.1 HXN.out.2.2.1
          omega
        have HL1 := hide hLl
        clear hLl hnl
        generalize upto nm dl xs i ++ nodeS nml la bu cl = L1 at *
        have d1 := Dc.mk1 HXN.out.1
        have d2 := Dc.mk1 HXN.out.2.1
        have d3 := Dc.mk1 HXN.out.2.2.1
        go_cut [6] from 26 to 106 (fun v wx => ∃ C, v = .string C ∧ Hid (C = ba L1) ∧ Hid (Below w4.heap.size w4 wx))
        case first =>
          generalize ba (Lib.itoa la) = sla at *
          generalize ba (Lib.itoa bu) = sbu at *
          generalize ba (Lib.itoa cl) = scl at *
          generalize ba nml = bnl at *
          haveI := Gr.behindNE w4
          have e0 := fun u : Gr.Behind w4 => u.cell m0
          have e1 := fun u : Gr.Behind w4 => u.cell m1
          have e2 := fun u : Gr.Behind w4 => u.cell m2
          have e3 := fun u : Gr.Behind w4 => u.cell m3
          clear m0 m1 m2 m3
          refine Gr.quiet_behind (by kernel_rfl) (by kernel_rfl) ?_
          repeat (go_big_quiet_step ((go_at_call 17; exact calls_b _ (dcall (by assumption) _))))
          refine wpQuiet_nil ?_
          intro _ hw'
          obtain ⟨u, hw''⟩ := hw'
          subst hw''
          go_wp2_with fail
          go_meet
          exact ⟨_, rfl, HNe.out, u.2⟩
        case rest =>
        obtain ⟨A1, rfl, HA1, HW⟩ := hcut
        clear HA HNe hAs z1 z2 z3 zn d1 d2 d3 m0 m1 m2 m3
        have hAs : A1.size ≤ 65536 + 140 := by rw [HA1.out, ba_size]; exact HL1.out
        obtain ⟨⟨_, _, _, _, m4, _⟩, _⟩ := HC.out _ HW.out
        have HLl2 : Hid ((L1 ++ beatS be).length ≤ 65536 + 180) := by
          show _ ≤ _
          rw [List.length_append]
          have := HL1.out
          have := beat_len HXN.out.2.2.2.1
          omega
        have HBt := hide (beatE L1 be)
        rw [← HA1.out] at HBt
        have d1 := Dc.mk1 HXN.out.2.2.2.1
        have z1 := dec_sz HXN.out.2.2.2.1
        have HB0 : Hid (be = 0 → A1 = ba (L1 ++ beatS be)) := fun h => by rw [HA1.out]; unfold beatS; rw [if_pos h, List.append_nil]
        generalize L1 ++ beatS be = L2 at *
        go_upto_if 60 with fail
        go_cut [6] from 26 to 106 (fun v wx => ∃ C, v = .string C ∧ Hid (C = ba L2) ∧ Hid (Below w4.heap.size w4 wx))
        case first =>
          generalize ba (Lib.itoa be) = sbe at *
          by_cases h : be = 0
          · have HF := hide (HB0.out h)
            have hb : (be != 0) = false := by simp [h]
            clear h HB0 HBt
            go_wp2_with fail
            go_meet
            exact ⟨_, rfl, HF.out, HW.out⟩
          · have HF := hide (HBt.out h)
            have hb : (be != 0) = true := by simp [h]
            clear h HB0 HBt
            go_wp2_with fail
            go_at_call 17
            refine (dcall d1 _).mono ?_
            rintro e w9 ⟨rfl, hb9⟩
            have HW2 := hide (HW.out.trans (hb9.mono HW.out.size))
            clear hb9
            go_wp2_with fail
            go_meet
            exact ⟨_, rfl, HF.out, HW2.out⟩
        case rest =>
        obtain ⟨A2, rfl, HA2, HW⟩ := hcut
        clear HA1 HBt hAs z1 d1 m4 HB0 HL1 A1
        have hAs : A2.size ≤ 65536 + 180 := by rw [HA2.out, ba_size]; exact HLl2.out
        obtain ⟨⟨_, _, _, _, _, m5, m6, _⟩, _⟩ := HC.out _ HW.out
        go_upto_region 12 with fail
        go_cut [74] from 26 to 106 (fun v wx => v = .bool (!(decide (bs = 1 ∧ ca = 1))) ∧ Hid (Below w4.heap.size w4 wx))
        case first =>
          by_cases h : bs = 1
          · by_cases h2 : ca = 1
            · have HF : Hid (decide (bs = 1 ∧ ca = 1) = true) := decide_eq_true ⟨h, h2⟩
              have hb : (bs != 1) = false := by simp [h]
              have hb2 : (ca != 1) = false := by simp [h2]
              clear h h2
              go_wp2_with fail
              go_meet
              rw [HF.out]
              exact ⟨rfl, HW.out⟩
            · have HF : Hid (decide (bs = 1 ∧ ca = 1) = false) := decide_eq_false fun k => h2 k.2
              have hb : (bs != 1) = false := by simp [h]
              have hb2 : (ca != 1) = true := by simp [h2]
              clear h h2
              go_wp2_with fail
              go_meet
              rw [HF.out]
              exact ⟨rfl, HW.out⟩
          · have HF : Hid (decide (bs = 1 ∧ ca = 1) = false) := decide_eq_false fun k => h k.1
            have hb : (bs != 1) = true := by simp [h]
            clear h
            go_wp2_with fail
            go_meet
            rw [HF.out]
            exact ⟨rfl, HW.out⟩
        case rest =>
        obtain ⟨rfl, HW⟩ := hcut
        clear m5 m6
        obtain ⟨⟨_, _, _, _, _, m5, m6, _⟩, _⟩ := HC.out _ HW.out
        have HLl3 : Hid ((L2 ++ backS bs ca).length ≤ 65536 + 240) := by
          show _ ≤ _
          rw [List.length_append]
          have := HLl2.out
          have := back_len HXN.out.2.2.2.2.1 HXN.out.2.2.2.2.2.1
          omega
        have HBt := hide (backE L2 bs ca)
        rw [← HA2.out] at HBt
        have d1 := Dc.mk1 HXN.out.2.2.2.2.1
        have d2 := Dc.mk1 HXN.out.2.2.2.2.2.1
        have z1 := dec_sz HXN.out.2.2.2.2.1
        have z2 := dec_sz HXN.out.2.2.2.2.2.1
        have HB0 : Hid ((bs = 1 ∧ ca = 1) → A2 = ba (L2 ++ backS bs ca)) := fun h => by rw [HA2.out]; unfold backS; rw [if_pos h, List.append_nil]
        generalize L2 ++ backS bs ca = L3 at *
        go_upto_if 74 with fail
        go_cut [6] from 26 to 106 (fun v wx => ∃ C, v = .string C ∧ Hid (C = ba L3) ∧ Hid (Below w4.heap.size w4 wx))
        case first =>
          generalize ba (Lib.itoa bs) = sbs at *
          generalize ba (Lib.itoa ca) = sca at *
          by_cases h : bs = 1 ∧ ca = 1
          · have HF := hide (HB0.out h)
            have hb : decide (bs = 1 ∧ ca = 1) = true := decide_eq_true h
            clear h HB0 HBt
            generalize decide (bs = 1 ∧ ca = 1) = dd at *
            subst hb
            go_wp2_with fail
            go_meet
            exact ⟨_, rfl, HF.out, HW.out⟩
          · have HF := hide (HBt.out h)
            have hb : decide (bs = 1 ∧ ca = 1) = false := decide_eq_false h
            clear h HB0 HBt
            generalize decide (bs = 1 ∧ ca = 1) = dd at *
            subst hb
            haveI := Gr.behindNE wc
            have e5 := fun u : Gr.Behind wc => u.cell m5
            have e6 := fun u : Gr.Behind wc => u.cell m6
            clear m5 m6
            go_wp2_with fail
            refine Gr.quiet_behind (by kernel_rfl) (by kernel_rfl) ?_
            repeat (go_big_quiet_step ((go_at_call 17; exact calls_b _ (dcall (by assumption) _))))
            refine wpQuiet_nil ?_
            intro _ hw'
            obtain ⟨u, hw''⟩ := hw'
            subst hw''
            have HW2 := hide (HW.out.trans (u.2.mono HW.out.size))
            clear e5 e6
            go_wp2_with fail
            go_meet
            exact ⟨_, rfl, HF.out, HW2.out⟩
        case rest =>
        obtain ⟨A3, rfl, HA3, HW⟩ := hcut
        clear HA2 HBt hAs z1 z2 d1 d2 m5 m6 HB0 HLl2 A2
        have hAs : A3.size ≤ 65536 + 240 := by rw [HA3.out, ba_size]; exact HLl3.out
        obtain ⟨⟨_, _, _, _, _, _, _, m7, _⟩, _⟩ := HC.out _ HW.out
        have HLl4 : Hid ((L3 ++ jitS ji).length ≤ 65536 + 280) := by
          show _ ≤ _
          rw [List.length_append]
          have := HLl3.out
          have := jit_len HXN.out.2.2.2.2.2.2
          omega
        have HBt := hide (jitE L3 ji)
        rw [← HA3.out] at HBt
        have d1 := Dc.mk1 HXN.out.2.2.2.2.2.2
        have z1 := dec_sz HXN.out.2.2.2.2.2.2
        have HB0 : Hid (ji = 0 → A3 = ba (L3 ++ jitS ji)) := fun h => by rw [HA3.out]; unfold jitS; rw [if_pos h, List.append_nil]
        generalize L3 ++ jitS ji = L4 at *
        go_upto_if 88 with fail
        go_cut [6] from 26 to 106 (fun v wx => ∃ C, v = .string C ∧ Hid (C = ba L4) ∧ Hid (Below w4.heap.size w4 wx))
        case first =>
          generalize ba (Lib.itoa ji) = sji at *
          by_cases h : ji = 0
          · have HF := hide (HB0.out h)
            have hb : (ji != 0) = false := by simp [h]
            clear h HB0 HBt
            go_wp2_with fail
            go_meet
            exact ⟨_, rfl, HF.out, HW.out⟩
          · have HF := hide (HBt.out h)
            have hb : (ji != 0) = true := by simp [h]
            clear h HB0 HBt
            go_wp2_with fail
            go_at_call 17
            refine (dcall d1 _).mono ?_
            rintro e w9 ⟨rfl, hb9⟩
            have HW2 := hide (HW.out.trans (hb9.mono HW.out.size))
            clear hb9
            go_wp2_with fail
            go_meet
            exact ⟨_, rfl, HF.out, HW2.out⟩
        case rest =>
        obtain ⟨A4, rfl, HA4, HW⟩ := hcut
        clear HA3 HBt hAs z1 d1 m7 HB0 HLl3 A3
        have hAs : A4.size ≤ 65536 + 280 := by rw [HA4.out, ba_size]; exact HLl4.out
        obtain ⟨⟨_, _, _, _, _, _, _, _, m8, m9⟩, hb2⟩ := HC.out _ HW.out
        obtain ⟨⟨c0, c1, c2⟩, _⟩ := HM.out _ hb2
        have HBc := hide hb2
        clear hb2
        have l1 := HXO.out.2.2.2.2.2.2.2.2
        have nc1 : Nc (.slice ne1 ne2 ne3) (.agg #[.string bn, .int .i64 dl, .slice (some ⟨g, off, none⟩) sn sc]) ⟨#[32, 32, 110, 101, 101, 100, 115]⟩ (ba (edgeT kwNeeds2 nl xs)) wc := ⟨fun u => by
          have m := HM.out _ (HBc.out.trans (u.2.mono HBc.out.size))
          exact NA.out kwNeeds2 (by decide) nl (ne1, ne2, ne3) u.1 m.2.2.1 (m.2.1.2.2.2 _ HXM.out).1 m.2.1 l1.2.2.1 l1.1⟩
        have nc2 : Nc (.slice af1 af2 af3) (.agg #[.string bn, .int .i64 dl, .slice (some ⟨g, off, none⟩) sn sc]) ⟨#[32, 32, 97, 102, 116, 101, 114]⟩ (ba (edgeT kwAfter2 al xs)) wc := ⟨fun u => by
          have m := HM.out _ (HBc.out.trans (u.2.mono HBc.out.size))
          exact NA.out kwAfter2 (by decide) al (af1, af2, af3) u.1 m.2.2.1 (m.2.1.2.2.2 _ HXM.out).2 m.2.1 l1.2.2.2 l1.2.1⟩
        have z1 : (ba (edgeT kwNeeds2 nl xs)).size ≤ 11000 := by rw [ba_size]; exact edgeT_le kwNeeds2 nl xs (fun x hx => (HO4.out x hx).1) (by decide) l1.1
        have z2 : (ba (edgeT kwAfter2 al xs)).size ≤ 11000 := by rw [ba_size]; exact edgeT_le kwAfter2 al xs (fun x hx => (HO4.out x hx).1) (by decide) l1.2.1
        rw [← HA4.out] at HLa
        clear l1 HXM NA HXO HXN HC HLl4 HA4
        generalize ba (edgeT kwNeeds2 nl xs) = t1 at *
        generalize ba (edgeT kwAfter2 al xs) = t2 at *
        haveI := Gr.behindNE wc
        have e0 := fun u : Gr.Behind wc => u.cell c0
        have e1 := fun u : Gr.Behind wc => u.cell c1
        have e2 := fun u : Gr.Behind wc => u.cell c2
        have e8 := fun u : Gr.Behind wc => u.cell m8
        have e9 := fun u : Gr.Behind wc => u.cell m9
        clear c0 c1 c2 m8 m9
        go_upto_region 16 with fail
        refine Gr.quiet_behind (by kernel_rfl) (by kernel_rfl) ?_
        repeat (go_big_quiet_step ((go_at_call 18; exact calls_b _ (ncall (by assumption) _))))
        refine wpQuiet_nil ?_
        intro _ hw'
        obtain ⟨u, hw''⟩ := hw'
        subst hw''
        have HW2 := hide (HBc.out.trans (u.2.mono HBc.out.size))
        clear e0 e1 e2 e8 e9 nc1 nc2
        go_wp2_with fail
        go_roundw
        case rel => exact ⟨i + 1, _, by go_num, rfl, by omega, HLa.out, HW2.out⟩
        case measure => show sn - ((i : Int) + 1).toNat < sn - (i : Int).toNat; omega
      · have hin : i = sn := by omega
        subst hin
        have HFin : Hid (A = ba (textOf nm dl xs)) := by
          show _ = _
          rw [HA.out, HSN.out, HAll.out]
        have i0 : ¬ (i : Int) < (i : Int) := by omega
        clear HA HI hp c0 c1
        go_wp2_with fail
        go_ret2
        rw [HTT.out, ← HFin.out, HN.out]
        exact ⟨rfl, HBE.out⟩
  · have h0' : ((r2 : Int) != 0) = true := by simp; omega
    go_wp2_with fail
    go_ret2
    rw [show txt nm dl xs = [] from HTX.out.trans (if_neg h0)]
    exact ⟨rfl, HB2.out⟩
end Tr
end U
end Go.Proofs.YtfoahfgehmghcaaGreatDoor
