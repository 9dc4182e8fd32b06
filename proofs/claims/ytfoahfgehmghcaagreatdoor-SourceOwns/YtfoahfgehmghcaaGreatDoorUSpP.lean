/- The document's Parse (escapementref11). -/
import Derived.Test.YtfoahfgehmghcaaGreatDoorUSp2
import Derived.Test.YtfoahfgehmghcaaGreatDoorUSpS
import Derived.Test.YtfoahfgehmghcaaGreatDoorUChk
import Derived.Test.YtfoahfgehmghcaaGreatDoorUTrA
import Derived.Deep.CutRange
namespace Go.Proofs.YtfoahfgehmghcaaGreatDoor
namespace U
namespace Sp
open Go.RowKit

theorem pr_err {w W : World} {a b c : Value} (hb : Below w.heap.size w W) (_hP : W.heap[w.heap.size]? = some (.cells #[a, b, c] 24 (0, 0))) (p k : Nat) (x y z : Value) : ParseEnd (.inl (p, k)) w (.returned (.tuple #[zPlan, .int .i64 (p : Int), .int .i64 (k : Int)])) (put3 W w.heap.size x y z) :=
  ⟨hb.trans ((put3_keep W w.heap.size x y z).below hb.size fun i e => by omega), .inl ⟨p, k, rfl, rfl⟩⟩
/-- the lines of a text, and where they lie -/
theorem step_nil (d : Dr) (p : Nat) : step d p [] = some d := rfl
/-- what stands behind the first loop -/
structure L1 (D : Nat) (w1 wr : World) (ls : List (List UInt8)) (RR : Nat ⊕ Dr) (i : Nat) (di : Dr) : Prop where
  df : DfAt D wr D di
  inv : DI di (i + 1)
  rd : readL (i + 1) (ls.drop i) di = RR
  bel : Below D w1 wr
  len : di.nds.length ≤ i
theorem drop_ls {ls : List (List UInt8)} {i : Nat} {x : List UInt8} (h : ls[i]? = some x) : ls.drop i = x :: ls.drop (i + 1) := by
  obtain ⟨hl, e⟩ := List.getElem?_eq_some_iff.1 h
  rw [List.drop_eq_getElem_cons hl, e]
theorem L1.some {D : Nat} {w1 wr w' : World} {ls : List (List UInt8)} {RR : Nat ⊕ Dr} {i : Nat} {di d' : Dr} (h : L1 D w1 wr ls RR i di) {x : List UInt8} (hx : ls[i]? = some x) (hs : step di (i + 1) (wordsOf x) = some d') (hd : DfAt D w' D d') (hb : Below D w1 w') : L1 D w1 w' ls RR (i + 1) d' := by
  refine ⟨hd, step_DI h.inv hs, ?_, hb, ?_⟩
  · have := h.rd
    rw [drop_ls hx, readL, hs] at this
    exact this
  · have hl := h.len
    cases hw : wordsOf x with
    | nil => rw [hw] at hs; cases hs; omega
    | cons f r =>
      rw [hw] at hs
      have := doLine_len (d := di) (d' := d') (pl := i + 1) (f := f) (ws := r) hs
      omega
theorem L1.none {D : Nat} {w1 wr : World} {ls : List (List UInt8)} {RR : Nat ⊕ Dr} {i : Nat} {di : Dr} (h : L1 D w1 wr ls RR i di) {x : List UInt8} (hx : ls[i]? = Option.some x) (hs : step di (i + 1) (wordsOf x) = Option.none) : RR = .inl (i + 1) := by
  rw [← h.rd, drop_ls hx, readL, hs]
set_option maxRecDepth 100000 in
set_option maxHeartbeats 8000000 in
theorem refParse_any (s : ByteArray) (w : World) (hss : s.size ≤ 9223372036854775807) :
    Calls Tryz.prog 12 #[.string s] w (ParseEnd (parse s.data.toList) w) := by
  have hlen : s.data.toList.length = s.size := by simp
  have PB0 := hide (heap_alloc_new w (.cells #[.string ⟨#[]⟩, .int .i64 0, .slice none 0 0] 24))
  have BW0 : Hid (Below w.heap.size w (w.alloc (.cells #[.string ⟨#[]⟩, .int .i64 0, .slice none 0 0] 24))) := (Below.refl _ w).alloc (Nat.le_refl _) _
  have HZ0 : Hid ((w.alloc (.cells #[.string ⟨#[]⟩, .int .i64 0, .slice none 0 0] 24)).heap.size = w.heap.size + 1) := by show _ = _; simp
  by_cases hs : s.size ≤ 65536
  · have HPA := hide (parse_doc s.data.toList (by omega))
    have LN := hide (fun W => lines_any s W hs)
    have hll := linesR_len s.data.toList []
    have hle := linesR_le s.data.toList []
    generalize parse s.data.toList = P at *
    generalize hls : linesR [] s.data.toList = ls at *
    have HLE : Hid (∀ x ∈ ls, x.length ≤ 65536) := fun x hx => by have := hle x hx; simp at this; omega
    have HRO : Hid (∀ d, readL 1 ls Dr.new = .inr d → DOk d) := fun d h => (readL_ok ls 1 Dr.new d dok_new HLE.out h).1
    generalize hRR : readL 1 ls Dr.new = RR at *
    have HRR := hide hRR
    generalize hn : ls.length = n at *
    have HN := hide hn
    have hn6 : n ≤ 65537 := by omega
    have i1 : ¬ (65536 : Int) < s.size := by omega
    clear hll hle hls hRR hn hlen
    go_enter Tryz.func12, Tryz.ntmps12
    go_upto_region 3 with fail
    generalize w.alloc (.cells #[.string ⟨#[]⟩, .int .i64 0, .slice none 0 0] 24) = w0 at *
    go_wp2_with fail
    go_at_call 23
    refine (LN.out w0).mono ?_
    rintro e w1 ⟨la, lc, rfl, ol, b1⟩
    rw [HN.out] at ol ⊢
    have DF0 := hide (DfAt.new w1 w1.heap.size (Nat.le_refl _))
    have BD0 : Hid (Below w1.heap.size w1 (w1.alloc (.cells #[.string ⟨#[]⟩, .int .i64 0, .slice none 0 0, .int .i64 0, .slice none 0 0, .slice none 0 0, .slice none 0 0, .slice none 0 0, .slice none 0 0] 63))) := (Below.refl _ w1).alloc (Nat.le_refl _) _
    have HOL := hide ol
    have pb1 := (b1.block w.heap.size (by rw [HZ0.out]; omega)).trans PB0.out
    have bw1 := BW0.out.trans (b1.mono BW0.out.size)
    have hDlt : w.heap.size < w1.heap.size := by have := b1.size; rw [HZ0.out] at this; omega
    have HM : Hid (∀ W, Below w1.heap.size w1 W → RdS W la ls ∧ (W.heap[w.heap.size]? = some (.cells #[.string ⟨#[]⟩, .int .i64 0, .slice none 0 0] 24 (0, 0))) ∧ Below w.heap.size w W ∧ w1.heap.size ≤ W.heap.size) := fun W b =>
      ⟨(sts_rd (own_below HOL.out b) HN.out.symm).1, (b.block w.heap.size hDlt).trans pb1, bw1.trans (b.mono (Nat.le_of_lt hDlt)), b.size⟩
    go_upto_region 5 with fail
    generalize w1.alloc (.cells #[.string ⟨#[]⟩, .int .i64 0, .slice none 0 0, .int .i64 0, .slice none 0 0, .slice none 0 0, .slice none 0 0, .slice none 0 0, .slice none 0 0] 63) = w2 at *
    clear ol b1 HOL pb1 bw1 PB0 BW0 HZ0 LN
    generalize hDD : w1.heap.size = D at *
    go_wp2_with fail
    go_loopw [7, 8] (fun iv _ wr => ∃ (i : Nat) (di : Dr), iv = .int .i64 (i : Nat) ∧ i ≤ n ∧ Hid (L1 D w1 wr ls RR i di)) (fun iv _ _ => n - (intOf iv).toNat)
    case atStart => exact ⟨0, Dr.new, rfl, Nat.zero_le _, ⟨DF0.out, DI.new, HRR.out, BD0.out, Nat.le_refl _⟩⟩
    case round =>
      obtain ⟨i, di, rfl, hi, HI⟩ := hrel
      clear DF0 BD0 HRR
      by_cases hlt : i < n
      · obtain ⟨x, hx⟩ : ∃ x, ls[i]? = some x := ⟨_, List.getElem?_eq_getElem (by rw [HN.out]; exact hlt)⟩
        obtain ⟨g, off, ha, _, hc⟩ := ((HM.out wr HI.out.bel).1).resolve_left (fun e => by rw [e] at hx; simp at hx)
        subst ha
        have cx := hc i x hx
        have ii : (i : Int) < n := by omega
        have hxl := HLE.out x (List.mem_of_getElem? hx)
        have WX := hide (words_any (ba x) wr (by rw [ba_size]; exact hxl))
        rw [ba_data] at WX
        have HNo := hide (fun hs => HI.out.none hx hs)
        have HSo := hide (fun w' d' hs hd hb => HI.out.some (w' := w') (d' := d') hx hs hd hb)
        have hwl : (wordsOf x).length ≤ 1000000 := by have := wordsOf_len x; omega
        have HWZ : Hid (∀ y ∈ wordsOf x, y.length ≤ 65536) := fun y hy => by have := wordsOf_le x y hy; omega
        generalize wordsOf x = ws at *
        clear hc hx
        go_wp2_with fail
        go_at_call 24
        refine WX.out.mono ?_
        rintro e w3 ⟨wa, wcp, rfl, ow, b3⟩
        have hsz3 : D ≤ w3.heap.size := by have := (HM.out wr HI.out.bel).2.2.2; have := b3.size; omega
        have B3 := hide (HI.out.bel.trans (b3.mono (HM.out wr HI.out.bel).2.2.2))
        have D3 := hide (HI.out.df.below b3)
        clear WX cx
        cases ws with
        | nil =>
          simp only [List.length_nil]
          have HS1 := hide (HSo.out w3 di (step_nil _ _) D3.out B3.out)
          clear HSo HNo ow b3
          go_wp2_with fail
          go_roundw
          · exact ⟨i + 1, di, rfl, by omega, HS1.out⟩
          · show n - ((i : Int) + 1).toNat < n - (i : Int).toNat
            omega
        | cons f r =>
          obtain ⟨rd3, hcap, _⟩ := sts_rd ow rfl
          have TK := hide (takes_any D D di (i + 1) wa wcp (f :: r) w3 D3.out HI.out.inv rd3 (by simp) HWZ.out hwl hcap (by have := HI.out.len; omega))
          rw [show ((i + 1 : Nat) : Int) = (i : Int) + 1 by omega] at TK
          have h0 : (0 : Int) < ((f :: r).length : Nat) := by simp
          generalize hst : step di (i + 1) (f :: r) = S at *
          generalize (f :: r).length = wn at *
          clear ow rd3 hcap b3
          cases S with
          | none =>
            have hR := HNo.out rfl
            clear HNo HSo
            have hP := HPA.out
            rw [hR] at hP
            simp only at hP
            subst hP
            go_wp2_with fail
            go_at_call 25
            refine TK.out.mono ?_
            rintro e w4 ⟨rfl, _, fq⟩
            have B4 := B3.out.trans (fq.below hsz3)
            obtain ⟨_, pb4, bw4, _⟩ := HM.out w4 B4
            have PB4 := hide pb4
            have BW4 := hide bw4
            have p0 := cell_blk pb4 0 (v := .string ⟨#[]⟩) rfl
            have p1 := cell_blk pb4 1 (v := .int .i64 0) rfl
            have p2 := cell_blk pb4 2 (v := .slice none 0 0) rfl
            have p0f := frozen_blk pb4 0
            have p1f := frozen_blk pb4 1
            have p2f := frozen_blk pb4 2
            clear pb4 bw4 B4 fq TK HPA
            simp only [Option.isSome_none]
            go_wp2_with fail
            refine bodyPost_ret (res_parse rfl _ _ w.heap.size _ _ _ rfl (put3_blk PB4.out _ _ _)) rfl ?_
            exact pr_err BW4.out PB4.out (i + 1) 111 _ _ _
          | some d' =>
            go_wp2_with fail
            go_at_call 25
            refine TK.out.mono ?_
            rintro e w4 ⟨rfl, hd4, fq⟩
            have HS1 := hide (HSo.out w4 d' rfl (hd4 d' rfl) (B3.out.trans (fq.below hsz3)))
            clear hd4 fq TK HSo HNo
            simp only [Option.isSome_some]
            go_wp2_with fail
            go_roundw
            · exact ⟨i + 1, d', rfl, by omega, HS1.out⟩
            · show n - ((i : Int) + 1).toNat < n - (i : Int).toNat
              omega
      · have hR : RR = .inr di := by
          rw [← HI.out.rd, List.drop_eq_nil_of_le (by rw [HN.out]; omega)]
          rfl
        have hP := HPA.out
        rw [hR] at hP
        simp only at hP
        have HOK := hide (HRO.out di (hR ▸ rfl))
        have ii : ¬ (i : Int) < n := by omega
        have HDI := hide HI.out.inv
        have HNMS : Hid (∀ k c, (nmsOf di.ms k c).length ≤ 1000000) := fun k c => by
          unfold nmsOf
          cases hm : mOf di.ms k c with
          | none => simp
          | some m => exact (HOK.out.2.2.2 m (mOf_some hm).1).2.1
        have E0 := hide (Ed.start HI.out.df HI.out.inv.bare)
        have hml : di.nds.length ≤ 1000000 := by have := HI.out.len; omega
        have BB := hide HI.out.bel
        obtain ⟨_, pb4, bw4, hsz4⟩ := HM.out wr HI.out.bel
        have PB4 := hide pb4
        have BW4 := hide bw4
        have c3 : wr.cell? ⟨D, 3, none⟩ = some (.int .i64 (di.place : Int)) := by
          obtain ⟨vn, vl, vN, vA, vL, vP, L, M, X⟩ := HI.out.df
          exact cell_blk X.cs 3 rfl
        have HP2 := hide hP
        clear hP hR HI HPA HRO HLE
        by_cases hp0 : di.place = 0
        · have hP := HP2.out
          rw [if_pos hp0] at hP
          subst hP
          rw [hp0] at c3
          have p0 := cell_blk pb4 0 (v := .string ⟨#[]⟩) rfl
          have p1 := cell_blk pb4 1 (v := .int .i64 0) rfl
          have p2 := cell_blk pb4 2 (v := .slice none 0 0) rfl
          have p0f := frozen_blk pb4 0
          have p1f := frozen_blk pb4 1
          have p2f := frozen_blk pb4 2
          clear pb4 bw4 HP2 E0
          go_wp2_with fail
          refine bodyPost_ret (res_parse rfl _ _ w.heap.size _ _ _ rfl (put3_blk PB4.out _ _ _)) rfl ?_
          exact pr_err BW4.out PB4.out 0 111 _ _ _
        · have ip : ((di.place : Int) == 0) = false := by simp; omega
          have HP3 : Hid (P = if atN di.nds di.ms di.nds.length ≠ 0 then .inl (atN di.nds di.ms di.nds.length, 112) else judge di (di.nds.mapIdx (outN di.nds di.ms)) (Gr.chk (ba di.nm) di.dl ((di.nds.mapIdx (outN di.nds di.ms)).map no))) := by
            have hP := HP2.out
            rwa [if_neg hp0] at hP
          generalize hm : di.nds.length = m at *
          have HMl := hide hm
          clear HP2 pb4 bw4 PB4 BW4 hm
          go_upto_region 13 with fail
          clear c3 ip hp0
          go_wp2_with fail
          go_loopw [9, 10, 11, 12, 13, 14] (fun av kv _ _ _ _ wy => ∃ k : Nat, av = .int .i64 (atN di.nds di.ms k : Nat) ∧ kv = .int .i64 (k : Nat) ∧ k ≤ m ∧ Hid (Ed D wy D di k ∧ Below D w1 wy)) (fun _ kv _ _ _ _ _ => m - (intOf kv).toNat)
          case atStart => exact ⟨0, rfl, rfl, Nat.zero_le _, E0.out, BB.out⟩
          case round =>
            obtain ⟨k, rfl, rfl, hk, HE⟩ := hrel
            clear E0 BB
            by_cases hkm : k < m
            · obtain ⟨x, hx⟩ : ∃ x, di.nds[k]? = some x := ⟨_, List.getElem?_eq_getElem (by rw [HMl.out]; exact hkm)⟩
              obtain ⟨⟨vn, vl, vN, vA, vL, vP, L, M, xs, X⟩, bD⟩ := HE.out
              obtain ⟨gV, cV, gN, cN, gA, cA, gL, cL, gP, cP, rfl, rfl, rfl, rfl, rfl⟩ := X.shape (by rw [HMl.out]; exact hk) (by rw [HMl.out]; omega)
              obtain ⟨⟨aN, nN, kN⟩, hsN⟩ : ∃ s, L[k]? = some s := ⟨_, List.getElem?_eq_getElem (by rw [X.s1.1, rowN_len, HMl.out]; exact hkm)⟩
              obtain ⟨⟨aA, nA, kA⟩, hsA⟩ : ∃ s, M[k]? = some s := ⟨_, List.getElem?_eq_getElem (by rw [X.s2.1, rowN_len, HMl.out]; exact hkm)⟩
              have hkd : k < di.nds.length := by rw [HMl.out]; exact hkm
              have hN1 : nN = (nmsOf di.ms k 0).length := (X.s1.2 k _ _ hsN (rowN_get di.ms 0 hkd)).1
              have hA1 : nA = (nmsOf di.ms k 1).length := (X.s2.2 k _ _ hsA (rowN_get di.ms 1 hkd)).1
              have EN := hide (fun W (Y : EdX D W D di k (vS gV di.nds.length cV) vl (vS gN di.nds.length cN) (vS gA di.nds.length cA) (vS gL di.nds.length cL) (vS gP di.nds.length cP) L M xs) => edges_any D D _ (xs.map (·.q)) di.nds aN kN (nmsOf di.ms k 0) W (Y.nm (by omega)) (Y.s1.2 k _ _ hsN (rowN_get di.ms 0 hkd)).2 (by rw [HMl.out]; exact hml) (HNMS.out k 0))
              have EA := hide (fun W (Y : EdX D W D di k (vS gV di.nds.length cV) vl (vS gN di.nds.length cN) (vS gA di.nds.length cA) (vS gL di.nds.length cL) (vS gP di.nds.length cP) L M xs) => edges_any D D _ (xs.map (·.q)) di.nds aA kA (nmsOf di.ms k 1) W (Y.nm (by omega)) (Y.s2.2 k _ _ hsA (rowN_get di.ms 1 hkd)).2 (by rw [HMl.out]; exact hml) (HNMS.out k 1))
              rw [← hN1] at EN
              rw [← hA1] at EA
              have CC := hide (fun W (Y : EdX D W D di k (vS gV di.nds.length cV) vl (vS gN di.nds.length cN) (vS gA di.nds.length cA) (vS gL di.nds.length cL) (vS gP di.nds.length cP) L M xs) => Y.c (by omega) hkd hsN hsA)
              have CD := hide (fun W xs' (Y : EdX D W D di (k + 1) (vS gV di.nds.length cV) vl (vS gN di.nds.length cN) (vS gA di.nds.length cA) (vS gL di.nds.length cL) (vS gP di.nds.length cP) L M xs') => Y.c (by omega) hkd hsN hsA)
              have ST := hide (fun W (Y : EdX D W D di k (vS gV di.nds.length cV) vl (vS gN di.nds.length cN) (vS gA di.nds.length cA) (vS gL di.nds.length cL) (vS gP di.nds.length cP) L M xs) s t => Y.step hx (g := gV) (cap := cV) (by rw [X.len (by omega)]; rfl) s t)
              have HX := hide X
              rw [HMl.out] at CC CD HX EN EA ST
              have HBD := hide bD
              have kkm : (k : Int) < m := by omega
              have hbump : Hid (atN di.nds di.ms (k + 1) = bump (bump (atN di.nds di.ms k) (lnOf di.ms k 0) (edg di.nds (nmsOf di.ms k 0)).isSome) (lnOf di.ms k 1) (edg di.nds (nmsOf di.ms k 1)).isSome) := rfl
              generalize edg di.nds (nmsOf di.ms k 0) = oN at *
              generalize edg di.nds (nmsOf di.ms k 1) = oA at *
              generalize lnOf di.ms k 0 = l0 at *
              generalize lnOf di.ms k 1 = l1 at *
              generalize atN di.nds di.ms k = A0 at *
              have K1 := CC.out _ HX.out
              have k2 := K1.d2
              have k5 := K1.d5
              have kn := K1.n
              clear K1 hN1 hA1 X bD HE hsN hsA
              go_wp2_with fail
              go_at_call 26
              refine (EN.out _ HX.out).mono ?_
              rintro e w5 ⟨⟨t1, t2, t3⟩, rfl, ls1, b5⟩
              have X5 := hide (HX.out.below b5)
              have BD5 := hide (HBD.out.trans (b5.mono (HM.out _ HBD.out).2.2.2))
              have LS1 := hide ls1
              clear k2 k5 kn b5 ls1 HX HBD EN
              have K1 := CC.out _ X5.out
              have k6 := K1.d6
              have ka := K1.a
              clear K1
              go_wp2_with fail
              go_at_call 26
              refine (EA.out _ X5.out).mono ?_
              rintro e w6 ⟨⟨u1, u2, u3⟩, rfl, ls2, b6⟩
              have X6 := hide (X5.out.below b6)
              have BD6 := hide (BD5.out.trans (b6.mono (HM.out _ BD5.out).2.2.2))
              have LS2 := hide ls2
              have LS1b := hide (LS1.out.below b6)
              clear k6 ka b6 ls2 X5 BD5 LS1 EA
              have K1 := CC.out _ X6.out
              have k2 := K1.d2
              obtain ⟨cur, hcur, ⟨z8, hz8⟩, z9, hz9⟩ := K1.v
              have HDV := hide K1.ne
              have v8 := cell_blk hcur (k * 10 + 8) hz8
              have v8f := frozen_blk hcur (k * 10 + 8)
              have HCU := hide hcur
              have HZ9 := hide hz9
              clear K1 hcur hz8 hz9
              go_upto_region 20 with fail
              have kc7 := keep_cell w6 gV (k * 10 + 8) (.slice t1 t2 t3)
              have k2b := kc7.cell k2 (fun e => HDV.out e)
              have hb7 := set_blk HCU.out (k * 10 + 8) (.slice t1 t2 t3)
              have v9 := cell_blk hb7 (k * 10 + 9) (v := z9) (by rw [Array.getElem?_setIfInBounds_ne (by omega)]; exact HZ9.out)
              have v9f := frozen_blk hb7 (k * 10 + 9)
              have S8 := ST.out w6 X6.out (t1, t2, t3) (u1, u2, u3) LS1b.out LS2.out
              simp only at S8
              have HS8 := hide S8
              clear kc7 hb7 S8 k2 v8 v8f HCU HZ9 HDV ST CC LS1b LS2 X6
              go_upto_region 21 with fail
              generalize ((w6.setCell ⟨gV, k * 10 + 8, none⟩ (.slice t1 t2 t3)).setCell ⟨gV, k * 10 + 9, none⟩ (.slice u1 u2 u3)) = w8 at *
              obtain ⟨xs', X8⟩ := HS8.out.1
              have K8 := CD.out w8 xs' X8
              have k7 := K8.d7
              have kl := K8.l
              have k8 := K8.d8
              have kp := K8.p
              have HF8 : Hid (Ed D w8 D di (k + 1) ∧ Below D w1 w8) := ⟨⟨_, _, _, _, _, _, _, _, _, X8⟩, BD6.out.trans (HS8.out.2.below (HM.out _ BD6.out).2.2.2)⟩
              clear K8 X8 HS8 BD6 CD k2b v9 v9f
              generalize oN.isSome = aN1 at *
              generalize oA.isSome = aA1 at *
              go_upto_region 21 with fail
              go_cut [124] from 56 to 155 (fun v wx => v = .bool (decide (aN1 = false ∧ (A0 = 0 ∨ l0 < A0))) ∧ wx = w8)
              case first =>
                cases aN1 with
                | true =>
                  have HT : Hid (decide (true = false ∧ (A0 = 0 ∨ l0 < A0)) = false) := decide_eq_false fun h => by cases h.1
                  go_wp2_with fail
                  go_meet
                  rw [HT.out]
                  exact ⟨rfl, rfl⟩
                | false =>
                  by_cases hA : A0 = 0
                  · have hAb : ((A0 : Int) == 0) = true := by simp; omega
                    have HT : Hid (decide (false = false ∧ (A0 = 0 ∨ l0 < A0)) = true) := decide_eq_true ⟨rfl, .inl hA⟩
                    clear hA
                    go_wp2_with fail
                    go_meet
                    rw [HT.out]
                    exact ⟨rfl, rfl⟩
                  · have hAb : ((A0 : Int) == 0) = false := by simp; omega
                    by_cases hL : l0 < A0
                    · have hLb : (l0 : Int) < A0 := by omega
                      have HT : Hid (decide (false = false ∧ (A0 = 0 ∨ l0 < A0)) = true) := decide_eq_true ⟨rfl, .inr hL⟩
                      clear hA hL
                      go_wp2_with fail
                      go_meet
                      rw [HT.out]
                      exact ⟨rfl, rfl⟩
                    · have hLb : ¬ (l0 : Int) < A0 := by omega
                      have HT : Hid (decide (false = false ∧ (A0 = 0 ∨ l0 < A0)) = false) := decide_eq_false fun h => h.2.elim hA hL
                      clear hA hL
                      go_wp2_with fail
                      go_meet
                      rw [HT.out]
                      exact ⟨rfl, rfl⟩
              case rest =>
              obtain ⟨rfl, hwc⟩ := hcut
              subst hwc
              go_upto_if 124 with fail
              go_cut [9] from 56 to 155 (fun v wx => v = .int .i64 ((bump A0 l0 aN1 : Nat) : Int) ∧ wx = wc)
              case first =>
                by_cases hT : aN1 = false ∧ (A0 = 0 ∨ l0 < A0)
                · have hd := decide_eq_true hT
                  have HB : Hid (bump A0 l0 aN1 = l0) := by show _ = _; unfold bump; rw [if_pos hT]
                  generalize hdd : decide (aN1 = false ∧ (A0 = 0 ∨ l0 < A0)) = T at *
                  subst hd
                  clear hT hdd
                  go_wp2_with fail
                  go_meet
                  rw [HB.out]
                  exact ⟨rfl, rfl⟩
                · have hd := decide_eq_false hT
                  have HB : Hid (bump A0 l0 aN1 = A0) := by show _ = _; unfold bump; rw [if_neg hT]
                  generalize hdd : decide (aN1 = false ∧ (A0 = 0 ∨ l0 < A0)) = T at *
                  subst hd
                  clear hT hdd
                  go_wp2_with fail
                  go_meet
                  rw [HB.out]
                  exact ⟨rfl, rfl⟩
              case rest =>
              obtain ⟨rfl, hwc⟩ := hcut
              subst hwc
              generalize hA1 : bump A0 l0 aN1 = A1 at *
              go_upto_region 23 with fail
              go_cut [148] from 56 to 155 (fun v wx => v = .bool (decide (aA1 = false ∧ (A1 = 0 ∨ l1 < A1))) ∧ wx = wc)
              case first =>
                cases aA1 with
                | true =>
                  have HT : Hid (decide (true = false ∧ (A1 = 0 ∨ l1 < A1)) = false) := decide_eq_false fun h => by cases h.1
                  go_wp2_with fail
                  go_meet
                  rw [HT.out]
                  exact ⟨rfl, rfl⟩
                | false =>
                  by_cases hA : A1 = 0
                  · have hAb : ((A1 : Int) == 0) = true := by simp; omega
                    have HT : Hid (decide (false = false ∧ (A1 = 0 ∨ l1 < A1)) = true) := decide_eq_true ⟨rfl, .inl hA⟩
                    clear hA
                    go_wp2_with fail
                    go_meet
                    rw [HT.out]
                    exact ⟨rfl, rfl⟩
                  · have hAb : ((A1 : Int) == 0) = false := by simp; omega
                    by_cases hL : l1 < A1
                    · have hLb : (l1 : Int) < A1 := by omega
                      have HT : Hid (decide (false = false ∧ (A1 = 0 ∨ l1 < A1)) = true) := decide_eq_true ⟨rfl, .inr hL⟩
                      clear hA hL
                      go_wp2_with fail
                      go_meet
                      rw [HT.out]
                      exact ⟨rfl, rfl⟩
                    · have hLb : ¬ (l1 : Int) < A1 := by omega
                      have HT : Hid (decide (false = false ∧ (A1 = 0 ∨ l1 < A1)) = false) := decide_eq_false fun h => h.2.elim hA hL
                      clear hA hL
                      go_wp2_with fail
                      go_meet
                      rw [HT.out]
                      exact ⟨rfl, rfl⟩
              case rest =>
              obtain ⟨rfl, hwc⟩ := hcut
              subst hwc
              go_upto_if 148 with fail
              by_cases hT : aA1 = false ∧ (A1 = 0 ∨ l1 < A1)
              · have hd := decide_eq_true hT
                have HB : Hid (bump A1 l1 aA1 = l1) := by show _ = _; unfold bump; rw [if_pos hT]
                generalize hdd : decide (aA1 = false ∧ (A1 = 0 ∨ l1 < A1)) = T at *
                subst hd
                clear hT hdd
                go_wp2_with fail
                go_roundw
                · exact ⟨k + 1, by rw [hbump.out, HB.out], by go_num, by omega, HF8.out⟩
                · show m - ((k : Int) + 1).toNat < m - (k : Int).toNat
                  omega
              · have hd := decide_eq_false hT
                have HB : Hid (bump A1 l1 aA1 = A1) := by show _ = _; unfold bump; rw [if_neg hT]
                generalize hdd : decide (aA1 = false ∧ (A1 = 0 ∨ l1 < A1)) = T at *
                subst hd
                clear hT hdd
                go_wp2_with fail
                go_roundw
                · exact ⟨k + 1, by rw [hbump.out, HB.out], by go_num, by omega, HF8.out⟩
                · show m - ((k : Int) + 1).toNat < m - (k : Int).toNat
                  omega
            · obtain rfl : k = m := by omega
              obtain ⟨⟨vn, vl, vN, vA, vL, vP, L, M, xs, X⟩, bD⟩ := HE.out
              have hxl := X.len (by rw [HMl.out]; exact hk)
              obtain ⟨va, vc, hvn⟩ : ∃ va vc, vn = .slice va k vc := by
                obtain ⟨va, vc, hvn⟩ := own_shape (X.g.rws.own 0 _ rfl)
                have hvn : vn = .slice va (xs.map (·.q)).length vc := hvn
                rw [List.length_map, hxl, HMl.out] at hvn
                exact ⟨va, vc, hvn⟩
              subst hvn
              clear hxl
              have k2 := cell_blk X.g.blk 2 (v := .slice va k vc) rfl
              have ik : ¬ (k : Int) < k := by omega
              obtain ⟨_, pb8, bw8, hsz8⟩ := HM.out wr bD
              have HBD := hide bD
              have HX := hide X
              by_cases hA : atN di.nds di.ms k = 0
              · have HP4 : Hid (P = judge di (di.nds.mapIdx (outN di.nds di.ms)) (Gr.chk (ba di.nm) di.dl ((di.nds.mapIdx (outN di.nds di.ms)).map no))) := by
                  have := HP3.out
                  rwa [if_neg (fun h => h hA)] at this
                have X2 := X
                rw [show k = di.nds.length from HMl.out.symm] at X2
                have HND := hide X2.nds
                have hol : (di.nds.mapIdx (outN di.nds di.ms)).length = k := by simp [HMl.out]
                have k0 := cell_blk X.g.blk 0 (v := .string (ba di.nm)) rfl
                have k1 := cell_blk X.g.blk 1 (v := .int .i64 di.dl) rfl
                obtain ⟨ys, hys, hrp⟩ := NdsAt.rd (a := va) (n := di.nds.length) (c := vc) X2.nds (by rw [hol]; omega)
                rw [HMl.out] at hrp HND
                have hyl : ys.length = k := by have := congrArg List.length hys; simpa [hol] using this
                have CK := hide (Gr.refCheck_any (ba di.nm) di.dl (va, k, vc) ys wr.heap.size wr hrp (Nat.le_refl _) ⟨by rw [ba_size]; have := HOK.out.2.1; omega, fun y hy => by
                  have hm : er y ∈ ys.map er := List.mem_map_of_mem hy
                  rw [hys] at hm
                  obtain ⟨z, hz, e⟩ := List.mem_map.1 hm
                  have e1 : y.q.nm = ba z.nm := (congrArg (fun z : Gr.No => z.q.nm) e).symm
                  rw [e1, ba_size]
                  obtain ⟨j, hj⟩ := List.getElem?_of_mem hz
                  rw [List.getElem?_mapIdx] at hj
                  obtain ⟨z0, hz0, e2⟩ := Option.map_eq_some_iff.1 hj
                  have e3 : z.nm = z0.nm := by rw [← e2]; rfl
                  have := (HOK.out.2.2.1 z0 (List.mem_of_getElem? hz0)).1
                  rw [e3]
                  omega⟩)
                have hce : Gr.chk (ba di.nm) di.dl ys = Gr.chk (ba di.nm) di.dl ((di.nds.mapIdx (outN di.nds di.ms)).map no) := by rw [← chk_er, hys]
                have hcl := chk_le (ba di.nm) di.dl ys
                rw [hce] at CK hcl
                rw [hyl] at hcl
                generalize Gr.chk (ba di.nm) di.dl ((di.nds.mapIdx (outN di.nds di.ms)).map no) = C at *
                obtain ⟨C1, C2⟩ := C
                simp only at CK hcl
                have hA' : ((atN di.nds di.ms k : Nat) : Int) = 0 := by rw [hA]; rfl
                rw [hA]
                have HLP : Hid (di.places.length = k) := by show _ = _; rw [HDI.out.lens, HMl.out]
                clear hys hrp hyl hce hA HP3 X X2 hA' hol
                generalize hOut : di.nds.mapIdx (outN di.nds di.ms) = OUT at *
                have HOL : Hid (OUT.length = k) := by show _ = _; rw [← hOut]; simp [HMl.out]
                clear hOut
                go_wp2_with fail
                go_at_call 16
                refine CK.out.mono ?_
                rintro e w9 ⟨rfl, k9⟩
                have b9 := k9.below (Nat.le_refl _) (fun _ f => f.elim)
                have X9 := HX.out.below b9
                have ND9 := hide (HND.out.below b9)
                have BD9 := HBD.out.trans (b9.mono hsz8)
                obtain ⟨_, pb9, bw9, _⟩ := HM.out w9 BD9
                have PB9 := hide pb9
                have BW9 := hide bw9
                have p0 := cell_blk pb9 0 (v := .string ⟨#[]⟩) rfl
                have p1 := cell_blk pb9 1 (v := .int .i64 0) rfl
                have p2 := cell_blk pb9 2 (v := .slice none 0 0) rfl
                have p0f := frozen_blk pb9 0
                have p1f := frozen_blk pb9 1
                have p2f := frozen_blk pb9 2
                have hPD : D ≠ w.heap.size := by omega
                clear k0 k1 k2 k9 pb8 bw8 pb9 bw9 CK
                by_cases hC2 : C2 = 0
                · have hP := HP4.out
                  unfold judge at hP
                  rw [if_pos hC2] at hP
                  subst hP
                  have e2 : ((C2 : Int) != 0) = false := by simp; omega
                  have k0 := cell_blk X9.g.blk 0 (v := .string (ba di.nm)) rfl
                  have k1 := cell_blk X9.g.blk 1 (v := .int .i64 di.dl) rfl
                  have k2 := cell_blk X9.g.blk 2 (v := .slice va k vc) rfl
                  clear X9 HP4 hC2 HX HND HBD b9
                  go_wp2_with fail
                  refine bodyPost_ret (res_parse rfl _ _ w.heap.size _ _ _ rfl (put3_blk PB9.out _ _ _)) rfl ?_
                  have kk := put3_keep w9 w.heap.size (.string (ba di.nm)) (.int .i64 di.dl) (.slice va k vc)
                  refine ⟨BW9.out.trans (kk.below BW9.out.size fun i e => by omega), .inr ⟨⟨di.nm, di.dl, OUT⟩, va, vc, rfl, ?_, ?_, ?_⟩⟩
                  · show _ = Ending.returned (.tuple #[.agg #[.string (ba di.nm), .int .i64 di.dl, .slice va OUT.length vc], .int .i64 0, .int .i64 0])
                    rw [HOL.out]
                    rfl
                  · obtain ⟨xs9, x1, x2, x3⟩ := ND9.out
                    have nd3 : NdsAt w.heap.size w9 (.slice va k vc) OUT := ⟨xs9, x1, ownsRow_base x2 (by omega), x3⟩
                    have nd4 : NdsAt w.heap.size (put3 w9 w.heap.size (.string (ba di.nm)) (.int .i64 di.dl) (.slice va k vc)) (.slice va k vc) OUT := nd3.keepP kk fun g cs t e hc => by
                      subst e
                      rw [PB9.out] at hc
                      injection hc with hc
                      injection hc with _ hc
                      subst hc
                      exact ⟨by decide, by decide⟩
                    show NdsAt w.heap.size _ (.slice va OUT.length vc) OUT
                    rw [HOL.out]
                    exact nd4
                  · show OUT.length ≤ 1000000
                    rw [HOL.out]; exact hml
                · have e2 : ((C2 : Int) != 0) = true := by simp; omega
                  have kk := put3_keep w9 w.heap.size (.string ⟨#[]⟩) (.int .i64 0) (.slice none 0 0)
                  by_cases hC1 : C1 = 0
                  · have hP := HP4.out
                    unfold judge at hP
                    rw [if_neg hC2, if_pos hC1] at hP
                    simp only at hP
                    subst hP
                    have e1 : ¬ (0 : Int) < C1 := by omega
                    have k3 := cell_blk X9.g.blk 3 (v := .int .i64 (di.place : Int)) rfl
                    have k3' : (((w9.setCell ⟨w.heap.size, 0, none⟩ (.string ⟨#[]⟩)).setCell ⟨w.heap.size, 1, none⟩ (.int .i64 0)).setCell ⟨w.heap.size, 2, none⟩ (.slice none 0 0)).drew.cell? ⟨D, 3, none⟩ = some (.int .i64 (di.place : Int)) := kk.cell k3 (fun e => hPD e)
                    clear X9 HP4 hC2 hC1 HX HND HBD b9 kk
                    go_wp2_with fail
                    go_region
                    all_goals go_wp2_with fail
                    all_goals refine bodyPost_ret (res_parse rfl _ _ w.heap.size _ _ _ rfl (put3_blk (w := w9) PB9.out _ _ _)) rfl ?_
                    all_goals exact ⟨(BW9.out.trans ((put3_keep w9 w.heap.size _ _ _).below BW9.out.size fun i e => by omega)).drew, .inl ⟨_, _, rfl, rfl⟩⟩
                  · have hP := HP4.out
                    unfold judge at hP
                    rw [if_neg hC2, if_neg hC1] at hP
                    simp only at hP
                    obtain ⟨c1, rfl⟩ : ∃ c, C1 = c + 1 := ⟨C1 - 1, by omega⟩
                    obtain ⟨ln, hln⟩ : ∃ l, di.places[c1]? = some l := ⟨_, List.getElem?_eq_getElem (by rw [HLP.out]; omega)⟩
                    have hgd : di.places.getD (c1 + 1 - 1) 0 = ln := by rw [show c1 + 1 - 1 = c1 by omega, List.getD_eq_getElem?_getD, hln]; rfl
                    rw [hgd] at hP
                    subst hP
                    obtain ⟨gl, cl, hvl, _, hcl2⟩ := own_some (X9.g.rws.own 1 _ rfl) (by show 0 < di.places.length; rw [HLP.out]; omega)
                    have hvl : vl = .slice (some ⟨gl, 0, none⟩) di.places.length cl := hvl
                    have kl := (hcl2 c1 (.int .i64 (ln : Int)) (by show (ivs di.places)[c1]? = _; simp [ivs, hln])).1
                    have k4 := cell_blk X9.g.blk 4 (v := vl) rfl
                    rw [hvl, HLP.out] at k4
                    have hPl : gl ≠ w.heap.size := fun e => by
                      have := (own_blk (X9.g.rws.own 1 _ rfl) (g := gl) (by show Value.ownBlock vl = _; rw [hvl]; rfl)).1
                      omega
                    have k4' : (((w9.setCell ⟨w.heap.size, 0, none⟩ (.string ⟨#[]⟩)).setCell ⟨w.heap.size, 1, none⟩ (.int .i64 0)).setCell ⟨w.heap.size, 2, none⟩ (.slice none 0 0)).drew.cell? ⟨D, 4, none⟩ = some (.slice (some ⟨gl, 0, none⟩) k cl) := kk.cell k4 (fun e => hPD e)
                    have kl' : (((w9.setCell ⟨w.heap.size, 0, none⟩ (.string ⟨#[]⟩)).setCell ⟨w.heap.size, 1, none⟩ (.int .i64 0)).setCell ⟨w.heap.size, 2, none⟩ (.slice none 0 0)).drew.cell? ⟨gl, c1, none⟩ = some (.int .i64 (ln : Int)) := kk.cell kl (fun e => hPl e)
                    have e1 : (0 : Int) < ((c1 + 1 : Nat) : Int) := by omega
                    have e3 : ((c1 + 1 : Nat) : Int) - 1 = c1 := by omega
                    have e4 : (c1 : Int) < k := by omega
                    rw [show ((c1 + 1 : Nat) : Int) = (c1 : Int) + 1 by omega] at e1 e3
                    clear X9 HP4 hC2 hC1 HX HND HBD b9 kk hcl2 hvl hgd hln
                    simp only [show ((c1 + 1 : Nat) : Int) = (c1 : Int) + 1 by omega]
                    go_wp2_with fail
                    go_region
                    all_goals go_wp2_with fail
                    all_goals refine bodyPost_ret (res_parse rfl _ _ w.heap.size _ _ _ rfl (put3_blk (w := w9) PB9.out _ _ _)) rfl ?_
                    all_goals exact ⟨(BW9.out.trans ((put3_keep w9 w.heap.size _ _ _).below BW9.out.size fun i e => by omega)).drew, .inl ⟨_, _, rfl, rfl⟩⟩
              · have hP := HP3.out
                rw [if_pos hA] at hP
                subst hP
                have hA0 : (0 : Int) < ((atN di.nds di.ms k : Nat) : Int) := by omega
                have PB8 := hide pb8
                have BW8 := hide bw8
                have p0 := cell_blk pb8 0 (v := .string ⟨#[]⟩) rfl
                have p1 := cell_blk pb8 1 (v := .int .i64 0) rfl
                have p2 := cell_blk pb8 2 (v := .slice none 0 0) rfl
                have p0f := frozen_blk pb8 0
                have p1f := frozen_blk pb8 1
                have p2f := frozen_blk pb8 2
                generalize atN di.nds di.ms k = A0 at *
                clear pb8 bw8 HX HBD X bD HE HP3 hA
                go_wp2_with fail
                refine bodyPost_ret (res_parse rfl _ _ w.heap.size _ _ _ rfl (put3_blk PB8.out _ _ _)) rfl ?_
                exact pr_err BW8.out PB8.out A0 112 _ _ _
  · have i1 : (65536 : Int) < s.size := by omega
    have hP : parse s.data.toList = .inl (0, 110) := by
      unfold parse
      rw [if_pos (by omega)]
    rw [hP]
    have p0 := cell_blk PB0.out 0 (v := .string ⟨#[]⟩) rfl
    have p1 := cell_blk PB0.out 1 (v := .int .i64 0) rfl
    have p2 := cell_blk PB0.out 2 (v := .slice none 0 0) rfl
    have p0f := frozen_blk PB0.out 0
    have p1f := frozen_blk PB0.out 1
    have p2f := frozen_blk PB0.out 2
    clear hP
    go_enter Tryz.func12, Tryz.ntmps12
    go_upto_region 1 with fail
    generalize w.alloc (.cells #[.string ⟨#[]⟩, .int .i64 0, .slice none 0 0] 24) = w0 at *
    go_wp2_with fail
    refine bodyPost_ret (res_parse rfl _ _ w.heap.size _ _ _ rfl (put3_blk PB0.out _ _ _)) rfl ?_
    exact pr_err BW0.out PB0.out 0 110 _ _ _
end Sp
end U
end Go.Proofs.YtfoahfgehmghcaaGreatDoor
