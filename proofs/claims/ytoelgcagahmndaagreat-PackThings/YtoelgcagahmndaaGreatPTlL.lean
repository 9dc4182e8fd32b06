import Derived.Test.YtoelgcagahmndaaGreatPTl6
import Derived.Test.YtoelgcagahmndaaGreatPWsA
import Derived.Test.YtoelgcagahmndaaGreatPKnown
import Derived.Test.YtoelgcagahmndaaGreatPRdM
import Derived.Test.YtoelgcagahmndaaGreatPBackV
import Derived.BigQuiet
import Derived.Deep.CutBlock
import Derived.Deep.CutRange
import Derived.Test.YtoelgcagahmndaaGreatPWsM
/- PackThings: the walk (PTlW.part: up to the first loop). -/
namespace Go.Proofs.YtoelgcagahmndaaGreat
namespace Wm
open Go.RowKit Go.Deep

theorem cells4 {w : World} {b : Nat} {x0 x1 x2 x3 : Value} {T : TypeId} (h : w.heap[b]? = some (.cells #[x0, x1, x2, x3] T (0, 0))) :
    w.cell? ⟨b, 0, none⟩ = some x0 ∧ w.cell? ⟨b, 1, none⟩ = some x1 ∧ w.cell? ⟨b, 2, none⟩ = some x2 ∧ w.cell? ⟨b, 3, none⟩ = some x3 := by
  refine ⟨?_, ?_, ?_, ?_⟩ <;> (rw [cell_of_row _ _ _ _ _ _ h]; rfl)
theorem headL_ref (mo : Int) (n k : Nat) : putW (headW mo n) ⟨[], k, 0⟩ = headL (min mo 16777216) n ⟨[], k, 0⟩ := by
  rw [putW_zero rfl]
  unfold headW headL
  by_cases h : mo < (n : Int) ∨ 16777216 < n
  · rw [if_pos h, if_pos (by omega)]
  · rw [if_neg h, if_neg (by omega)]
theorem drewN_below (w : World) (k : Nat) : Below w.heap.size w (w.drewN k) := ⟨rfl, rfl, rfl, Nat.le_refl _, fun _ _ => rfl⟩
/-- the law's boxes -/
structure Bt (w0 w : World) (pb cb mb fb lb : Nat) (vp : Value) (c most : Int) : Prop where
  p : w.heap[pb]? = some (slB vp)
  c : w.heap[cb]? = some (numB c)
  m : w.heap[mb]? = some (numB most)
  f : w.heap[fb]? = some (.cells (thF pb cb) 37 (0, 0))
  l : w.heap[lb]? = some (.cells (thL mb fb) 30 (0, 0))
  gp : w0.heap.size ≤ pb
  gc : w0.heap.size ≤ cb
  bl : Below w0.heap.size w0 w
theorem Bt.new {w0 w w' : World} {pb cb mb fb lb : Nat} {vp : Value} {c most : Int} (h : Bt w0 w pb cb mb fb lb vp c most) (b : Below w.heap.size w w') : Bt w0 w' pb cb mb fb lb vp c most :=
  ⟨blkB h.p b, blkB h.c b, blkB h.m b, blkB h.f b, blkB h.l b, h.gp, h.gc, h.bl.trans (b.mono h.bl.size)⟩
theorem Bt.puts {w0 w w' : World} {pb cb mb fb lb : Nat} {vp vp' : Value} {c most : Int} (h : Bt w0 w pb cb mb fb lb vp c most) (hk : Keep (fun k => k = pb) w w') (hp : w'.heap[pb]? = some (slB vp')) : Bt w0 w' pb cb mb fb lb vp' c most :=
  ⟨hp, hk.blk h.c (fun e => neT h.c h.p (by decide) e), hk.blk h.m (fun e => neT h.m h.p (by decide) e), hk.blk h.f (fun e => neT h.f h.p (by decide) e), hk.blk h.l (fun e => neT h.l h.p (by decide) e), h.gp, h.gc, h.bl.trans (hk.below h.bl.size fun k e => by rw [e]; exact h.gp)⟩
theorem alloc_setL {w : World} (o : Array Value) (T : TypeId) (cs : Array Value) : ((w.alloc (.cells o T)).setRow w.heap.size cs).heap[w.heap.size]? = some (.cells cs T (0, 0)) ∧ Below w.heap.size w ((w.alloc (.cells o T)).setRow w.heap.size cs) :=
  ⟨setRow_heap _ _ _ _ _ _ (heap_alloc_new w (.cells o T)), ((Below.refl _ _).alloc (Nat.le_refl _) _).trans ((keep_row _ _ _).below (by simp) fun k e => by rw [e]; exact Nat.le_refl _)⟩
set_option maxRecDepth 100000 in
set_option maxHeartbeats 40000000 in
theorem things_walk (mo room0 : Int) (aL : Option Addr) (n cL : Nat) (xs : List Tg) (aR : Option Addr) (nR cR : Nat) (lR : List Nat) (w : World) (h : RdT (fun k => k < w.heap.size) w aL n xs) (hcL : n ≤ cL) (hx : Fit xs) (hr : Rd w aR nR lR) (hz : aR = none → cR = 0) :
    Calls Tryz.prog 3 #[.agg #[.int .i64 mo, .int .i64 room0, .slice aL n cL, .slice aR nR cR]] w fun en w' => en = .returned (.bool true) ∧ Below w.heap.size w w' := by
  have hmf : ∀ (fn : Fn) (first cap : Array Value) (w : World), (Instr.makeFunc fn first cap).run Tryz.prog w = .ok (.func fn first cap) w := fun _ _ _ _ => rfl
  have hn := h.2.1
  have HL := hide h
  have HFx := hide hx
  have HNX := hide h.1
  have HRd := hide hr
  have HZ := hide hz
  have HI2 : Hid (∀ a b : Value, (Tryz.prog.info? 33).map (·.size) = some (#[a, b] : Array Value).size) := fun a b => by rw [info_thing]; rfl
  have HIL : Hid (∀ m o : Nat, (Tryz.prog.info? 30).map (·.size) = some (thL m o).size) := fun m o => by kernel_rfl
  have HOL : Hid (∀ m o : Nat, (thL m o).all (·.oneCell') = true) := fun m o => by simp [thL, Value.oneCell']
  have HB0 : Hid (Below w.heap.size w (w.alloc (.cells #[.int .i64 mo, .int .i64 room0, .slice aL n cL, .slice aR nR cR] 25))) := (Below.refl _ _).alloc (Nat.le_refl _) _
  have HX0 := hide (heap_alloc_new w (.cells #[.int .i64 mo, .int .i64 room0, .slice aL n cL, .slice aR nR cR] 25))
  clear h hr hz hx
  go_enter Tryz.func3, Tryz.ntmps3
  go_upto_region 1 with fail
  change Code.wp _ _ _ _ (w.alloc (.cells #[.int .i64 mo, .int .i64 room0, .slice aL n cL, .slice aR nR cR] 25))
  generalize w.alloc (.cells #[.int .i64 mo, .int .i64 room0, .slice aL n cL, .slice aR nR cR] 25) = W0 at *
  go_wp2_with fail
  refine (known_any _).mono ?_
  rintro e w1 ⟨rfl, hb1⟩
  have hX1 := blkB HX0.out hb1
  have HB1 := hide (HB0.out.trans (hb1.mono HB0.out.size))
  clear hb1 HX0 HB0
  obtain ⟨y0, y1, y2, y3⟩ := cells4 hX1
  clear hX1
  go_upto_region 8 with fail
  clear y0 y1 y2 y3
  have hb2 : Below w1.heap.size w1 (w1.alloc (.cells #[.slice none 0 0] 22)) := (Below.refl _ _).alloc (Nat.le_refl _) _
  have HX2 := hide (heap_alloc_new w1 (.cells #[.slice none 0 0] 22))
  have HB2 := hide hb2
  clear hb2
  go_upto_region 9 with fail
  change Code.wp _ _ _ _ (w1.alloc (.cells #[.slice none 0 0] 22))
  generalize w1.alloc (.cells #[.slice none 0 0] 22) = w2 at *
  have hb3 : Below w2.heap.size w2 (w2.alloc (.cells #[.int .i64 0] 3)) := (Below.refl _ _).alloc (Nat.le_refl _) _
  have HX3 := hide (heap_alloc_new w2 (.cells #[.int .i64 0] 3))
  have HB3 := hide hb3
  clear hb3
  go_upto_region 10 with fail
  change Code.wp _ _ _ _ (w2.alloc (.cells #[.int .i64 0] 3))
  generalize w2.alloc (.cells #[.int .i64 0] 3) = w3 at *
  go_wp2_with fail
  refine (MakeT _ _ _ _ _).mono ?_
  rintro e w4 ⟨rfl, hb4⟩
  have HB4 := hide hb4
  clear hb4
  have HLT := hide (listsT w1.heap.size w2.heap.size mo w4)
  go_wp2_with fail
  refine (HLT.out).mono ?_
  rintro e w5 ⟨mb, fb, rfl, hm5, hf5, gm5, gf5, hb5⟩
  have HM5 := hide hm5
  have HF5 := hide hf5
  have HB5 := hide hb5
  clear hm5 hf5 gm5 gf5 hb5 HLT
  obtain ⟨hx6, hb6⟩ := alloc_setL (w := w5) #[.nilFunc, .nilFunc] 30 (thL mb fb)
  have HX6 := hide hx6
  have HB6 := hide hb6
  clear hx6 hb6
  go_upto_region 11 with (refine wpList_store_row rfl 30 _ _ rfl w5.heap.size (thL mb fb) rfl rfl 30 _ (heap_alloc_new _ _) (HIL.out _ _) rfl (HOL.out _ _) ?_)
  change Code.wp _ _ _ _ ((w5.alloc (.cells #[.nilFunc, .nilFunc] 30)).setRow w5.heap.size (thL mb fb))
  generalize (w5.alloc (.cells #[.nilFunc, .nilFunc] 30)).setRow w5.heap.size (thL mb fb) = w6 at *
  have HBT : Hid (Bt w w6 w1.heap.size w2.heap.size mb fb w5.heap.size (.slice none 0 0) 0 (min mo 16777216)) := by
    have b2 := HB1.out.trans (HB2.out.mono HB1.out.size)
    have b3 := b2.trans (HB3.out.mono b2.size)
    have b4 := b3.trans (HB4.out.mono b3.size)
    have b5 := b4.trans (HB5.out.mono b4.size)
    exact ⟨blkB (blkB (blkB (blkB HX2.out HB3.out) HB4.out) HB5.out) HB6.out, blkB (blkB (blkB HX3.out HB4.out) HB5.out) HB6.out, blkB HM5.out HB6.out, blkB HF5.out HB6.out, HX6.out, HB1.out.size, b2.size, b5.trans (HB6.out.mono b5.size)⟩
  clear HB1 HX2 HB2 HX3 HB3 HB4 HM5 HF5 HB5 HX6 HB6
  generalize w1.heap.size = pb at *
  generalize w2.heap.size = cb at *
  generalize w5.heap.size = lb at *
  obtain ⟨most, hmost⟩ : ∃ m, min mo 16777216 = m := ⟨_, rfl⟩
  rw [hmost] at HBT
  have hm16 : most ≤ 16777216 := by omega
  have HMO := hide hmost
  clear hmost
  have HL6 : Hid (RdT (fun k => k < w.heap.size) w6 aL n xs) := RdT.keep HL.out (Keep.ofBelow (S := fun _ => False) HBT.out.bl (Nat.le_refl _)) fun _ _ h => h
  have HBY := hide (bytesT pb cb mb fb most room0 hm16 aL n cL xs (fun k => k < w.heap.size) w6 HBT.out.p HL6.out HFx.out (fun k hk => ⟨by have := HBT.out.gp; have hk' : k < w.heap.size := hk; omega, Nat.lt_of_lt_of_le hk HBT.out.bl.size⟩) HBT.out.m HBT.out.f)
  go_wp2_with (refine wpList_load_row rfl 30 _ rfl lb rfl 30 (thL mb fb) (0, 0) _ HBT.out.l Tryz.underlying30 rfl (HIL.out _ _) ?_)
  go_at_call 12
  refine (HBY.out).mono ?_
  rintro e w7 ⟨⟨k1, vx, vp, hk1, rfl, ho7, hfn7, hp7, hrow7, hgp7, hf7, hst7⟩, hkp7⟩
  obtain ⟨ax, cx, hvx⟩ := ownsRow_shape ho7
  subst hvx
  have HK1 := hide hk1
  have HO7 := hide ho7
  have HFN7 := hide hfn7
  have HRW7 := hide hrow7
  have HF7 := hide hf7
  have HST7 := hide hst7
  have HBT7 := hide (HBT.out.puts hkp7 hp7)
  have HL7 : Hid (RdT (fun k => k < w.heap.size) w7 aL n xs) := RdT.keep HL6.out hkp7 fun k hk e => by have := HBT.out.gp; have h1 : k < w.heap.size := hk; have h2 : k = pb := e; omega
  clear hk1 ho7 hfn7 hp7 hrow7 hgp7 hf7 hst7 hkp7 HBY HBT HL6 HL
  obtain ⟨s1, hs1⟩ : ∃ s1, headL most n ⟨[], room room0, 0⟩ = s1 := ⟨_, rfl⟩
  rw [hs1] at HO7 HFN7 HF7 HST7 ⊢
  have HS1 := hide hs1
  clear hs1
  obtain ⟨S1, hS1⟩ : ∃ S1, allW ((layF xs).take k1) s1 = S1 := ⟨_, rfl⟩
  rw [hS1] at HO7 HFN7 HST7 ⊢
  have HSS1 := hide hS1
  clear hS1
  go_wp2_with fail
  refine (RNewWriter_any room0 _).mono ?_
  rintro e w8 ⟨rfl, h8⟩
  have H8 := hide h8
  clear h8
  have HQ := hide (Nat.le_refl w7.heap.size)
  obtain ⟨q, hq⟩ : ∃ q, w7.heap.size = q := ⟨_, rfl⟩
  rw [hq]
  have HQE := hide hq
  clear hq HQ
  have H8' : Hid (VAt (fun k => w7.heap.size ≤ k) w7 q ⟨[], room room0, 0⟩ w8) := by show VAt _ _ _ _ _; rw [← HQE.out]; exact H8.out
  clear H8
  go_wp2_with fail
  refine (RHead_any (fun k => w7.heap.size ≤ k) w7 q mo n (by omega) _ _ H8'.out).mono ?_
  rintro e w9 ⟨rfl, h9⟩
  rw [headL_ref, HMO.out, HS1.out] at h9
  have H9 := hide h9
  clear h9 H8'
  go_upto_block 0 with fail
  go_cut [14, 15, 16] from 56 to 90 (fun a _ _ wx => ∃ k : Nat, a = .int .i64 (k : Nat) ∧ k ≤ n ∧ Hid ((∀ i, i < k → (allW ((layF xs).take i) s1).fault = 0) ∧ (k = n ∨ (allW ((layF xs).take k) s1).fault ≠ 0) ∧ VAt (fun k => w7.heap.size ≤ k) w7 q (allW ((layF xs).take k) s1) wx))
  case first => as_aux_lemma =>
    go_wp2_with fail
    go_loopw [14, 15] (fun a i wx => ∃ k : Nat, a = .int .i64 (k : Nat) ∧ i = .int .i64 (k : Nat) ∧ k ≤ n ∧ Hid ((∀ i, i < k → (allW ((layF xs).take i) s1).fault = 0) ∧ VAt (fun k => w7.heap.size ≤ k) w7 q (allW ((layF xs).take k) s1) wx)) (fun _ i _ => n - (intOf i).toNat)
    case atStart => exact ⟨0, rfl, rfl, Nat.zero_le _, (fun i hi => by omega), H9.out⟩
    case round =>
      clear H9
      obtain ⟨k, rfl, rfl, hk, HD⟩ := hrel
      by_cases hlt : k < n
      · obtain ⟨av, cv, c0, _, c2, _, hl0, hl1⟩ := HD.out.2.see
        have hlt' : (k : Int) < (n : Int) := by omega
        by_cases hzk : (allW ((layF xs).take k) s1).fault = 0
        · have c2' : wr.cell? ⟨q, 2, none⟩ = some (.int .i64 0) := by rw [c2, hzk]; rfl
          obtain ⟨x, hx⟩ : ∃ x, xs[k]? = some x := ⟨_, List.getElem?_eq_getElem (by have := HNX.out; omega)⟩
          obtain ⟨b, off, rfl, hrow⟩ : ∃ b off, aL = some ⟨b, off, none⟩ ∧ wr.rangeAt b (off + k * 2) (Tg.row x) := by
            rcases (RdT.keep HL7.out HD.out.2.keep fun k hk e => by have h1 : k < w.heap.size := hk; have h2 : w7.heap.size ≤ k := e; have := HBT7.out.bl.size; omega).2.2 with h0 | ⟨b, off, rfl, db, hr⟩
            · omega
            · exact ⟨b, off, rfl, hr k x hx⟩
          have HFX := hide (HFx.out x (List.mem_of_getElem? hx))
          have hfk : (layF xs)[k]? = some (layE x.1 x.2) := by unfold layF; rw [List.getElem?_map, hx]; rfl
          have HSC := hide (allW_succ (layF xs) k _ hfk s1)
          obtain ⟨nn, st⟩ := x
          have HRW : Hid (wr.rangeAt b (off + k * 2) [.int .i64 nn, .string st]) := hrow
          have HF1 : Hid (∀ i, i < k + 1 → (allW ((layF xs).take i) s1).fault = 0) := fun i hi => by
            rcases Nat.lt_or_ge i k with h | h
            · exact HD.out.1 i h
            · obtain rfl : i = k := by omega
              exact hzk
          have HV := hide HD.out.2
          clear hx hrow hfk c2 HD
          generalize allW ((layF xs).take k) s1 = sk at *
          have HTW : Hid (thingW (layE nn st) sk = if (layE nn st sk).laid.length = sk.laid.length then (layE nn st sk).fail 22 else layE nn st sk) := by show _ = _; unfold thingW; rw [if_pos hzk]
          have HZk := hide hzk
          clear hzk
          go_wp2_with (refine wpList_load_mid rfl 33 _ rfl b (off + k * 2) rfl [.int .i64 nn, .string st] _ HRW.out Tryz.underlying33 rfl (HI2.out _ _) ?_)
          go_at_call 15
          refine (layed_any (fun k => w7.heap.size ≤ k) w7 q sk nn HFX.out.1 st HFX.out.2 _ HV.out).mono ?_
          rintro e w10 ⟨rfl, h10⟩
          have HV10 := hide h10
          obtain ⟨av2, cv2, d0, _, _, _, hl2, hl3⟩ := h10.see
          clear h10 c0 c2' HV
          by_cases hq : (layE nn st sk).laid.length = sk.laid.length
          · have hqq : (((layE nn st sk).laid.length : Int) == (sk.laid.length : Int)) = true := by rw [hq]; exact beq_self_eq_true _
            have HQq := hide hq
            clear hq
            go_wp2_with fail
            refine (Go.Proofs.YtoelgcagahmndaaGreat.wrong_any (fun k => w7.heap.size ≤ k) w7 q (layE nn st sk) 22 _ HV10.out).mono ?_
            rintro e w11 ⟨rfl, h11⟩
            have HV11 := hide h11
            clear h11 d0
            go_wp2_with fail
            go_roundw
            case rel => exact ⟨k + 1, by go_num, by go_num, by omega, HF1.out, by rw [HSC.out, HTW.out, if_pos HQq.out]; exact HV11.out⟩
            case measure => simp [intOf]; omega
          · have hqq : (((layE nn st sk).laid.length : Int) == (sk.laid.length : Int)) = false := by rw [beq_eq_false_iff_ne]; omega
            have HQq := hide hq
            clear hq
            go_wp2_with fail
            go_roundw
            case rel => exact ⟨k + 1, by go_num, by go_num, by omega, HF1.out, by rw [HSC.out, HTW.out, if_neg HQq.out]; exact HV10.out⟩
            case measure => simp [intOf]; omega
        · have hzz : ((((allW ((layF xs).take k) s1).fault : Nat) : Int) == 0) = false := by simpa using hzk
          have HZk := hide hzk
          clear hzk
          go_wp2_with fail
          go_meet
          exact ⟨k, rfl, hk, HD.out.1, .inr HZk.out, HD.out.2⟩
      · obtain rfl : k = n := by omega
        have hlt' : ¬ (k : Int) < (k : Int) := by omega
        go_wp2_with fail
        go_meet
        exact ⟨k, rfl, Nat.le_refl _, HD.out.1, .inl rfl, HD.out.2⟩
  case rest =>
    obtain ⟨k2, rfl, hk2, HD⟩ := hcut
    have hkk : k2 = k1 := stop_uniq (F := fun i => (allW ((layF xs).take i) s1).fault) (n := xs.length) HD.out.1 HF7.out (HD.out.2.1.imp (fun e => e.trans HNX.out) id) (HST7.out.imp id fun h => by show (allW ((layF xs).take k1) s1).fault ≠ 0; rw [HSS1.out]; exact h) (by rw [← HNX.out]; exact hk2) HK1.out
    subst hkk
    have hv := HD.out.2.2
    rw [HSS1.out] at hv
    have HV := hide hv
    clear HD H9 hv
    go_wp2_with fail
    refine (RDone_any (fun k => w7.heap.size ≤ k) w7 q S1 _ HV.out).mono ?_
    rintro e w11 ⟨vy, rfl, ho11, hb11, _⟩
    obtain ⟨ay, cy, hvy⟩ := ownsRow_shape ho11
    subst hvy
    have hbw : Below w7.heap.size w7 w11 := (HV.out.keep.below (Nat.le_refl _) fun k h => h).trans (hb11.mono HV.out.keep.size)
    have HX11 := hide (rd_out HO7.out HFN7.out.1 (by have := HFN7.out.2; omega) hbw)
    have HY11 := hide (rd_out (ownsRow_base ho11 (Nat.zero_le _)) HFN7.out.1 (by have := HFN7.out.2; omega) (Below.refl _ _))
    have HBT11 := hide (HBT7.out.new hbw)
    have HL11 : Hid (RdT (fun k => k < w.heap.size) w11 aL n xs) := RdT.keep HL7.out (Keep.ofBelow (S := fun _ => False) hbw (Nat.le_refl _)) fun _ _ h => h
    have HRW11 := hide (ownsRow_keepB HRW7.out hbw)
    have hkl : (xs.take k2).length = k2 := by rw [List.length_take]; have := HK1.out; omega
    have hk16 : k2 ≤ 16777217 := by
      rcases Nat.eq_zero_or_pos k2 with h0 | h0
      · omega
      · have h1 : s1.fault = 0 := HF7.out 0 h0
        by_cases hb : most < (n : Int)
        · rw [← HS1.out] at h1
          unfold headL at h1
          rw [if_pos hb] at h1
          exact absurd h1 (fail_fault (by decide))
        · omega
    clear ho11 hb11 hbw HO7 HFN7 HBT7 HL7 HRW7 HV
    obtain ⟨ap, cp, hvp, hcp, hrp⟩ := own_rdT HRW11.out (by rw [hkl]; exact hk16)
    rw [hkl] at hvp hrp
    subst hvp
    have HRP := hide hrp
    have HKL := hide hkl
    clear hrp hcp hkl
    generalize told S1 = L at *
    obtain ⟨p0, _⟩ := slB_cell HBT11.out.p
    have c0 := (numB_cell HBT11.out.c).1
    have hsl := sliceT aL n cL k2 (by omega)
    have HAl : Hid (∀ k, Calls Tryz.prog 18 #[.slice ax L.length cx, .int .i64 (S1.fault : Nat), .slice ay L.length cy, .int .i64 (S1.fault : Nat)] (w11.drewN k) fun en w' => en = .returned (.bool true) ∧ ∃ m, w' = w11.drewN m) := fun k => (alike_same ax ay L.length cx L.length cy _ L _ (HX11.out.keep (drewN_below _ _)) (HY11.out.keep (drewN_below _ _))).mono fun en w' h => ⟨h.1, k, h.2⟩
    have HTs : Hid (∀ k, Calls Tryz.prog 19 #[.slice ap k2 cp, .slice aL k2 cL] (w11.drewN k) fun en w' => en = .returned (.bool true) ∧ ∃ m, w' = w11.drewN m) := fun k => (things_same _ _ ap aL k2 cp cL (xs.take k2) (w11.drewN k) (RdT.keep HRP.out (Keep.ofBelow (S := fun _ => False) (drewN_below _ _) (Nat.le_refl _)) fun _ _ h => h) (RdT.keep (HL11.out.front hk2) (Keep.ofBelow (S := fun _ => False) (drewN_below _ _) (Nat.le_refl _)) fun _ _ h => h)).mono fun en w' h => ⟨h.1, by obtain ⟨m, e⟩ := h.2; exact ⟨k + m, by rw [e, drewN_add]⟩⟩
    go_upto_region 24 with fail
    go_quiet (first
      | (go_at_call 18; exact (HAl.out _))
      | (go_at_call 19; exact (HTs.out _)))
    have HB12 := hide (drewN_below w11 nq)
    have HBT12 := hide (HBT11.out.new HB12.out)
    have HRW12 := hide (ownsRow_keepB HRW11.out HB12.out)
    generalize w11.drewN nq = w12 at *
    clear HB12 HBT11 HRW11 HAl HTs HRP HL11 HX11 HY11 p0 c0 hsl HF7 HST7 HSS1 HS1 HFx
    go_wp2_with fail
    refine (NewReader_any aR nR cR lR _ (HRd.out.keep HBT12.out.bl) HZ.out).mono ?_
    rintro e w13 ⟨r, rfl, hr13, hge13, hb13⟩
    have HR13 := hide hr13
    have HBT13 := hide (HBT12.out.new hb13)
    have HGR : Hid (w.heap.size ≤ r) := Nat.le_trans HBT12.out.bl.size hge13
    clear hr13 hge13 hb13 HBT12 HRW12
    obtain ⟨t, ht⟩ : ∃ t, newR lR = t := ⟨_, rfl⟩
    rw [ht] at HR13
    have HTt := hide ht
    clear ht
    have HTA := hide (takeAny r pb cb mb fb mo t w13 HR13.out HBT13.out.c (by rw [HMO.out]; exact HBT13.out.m) HBT13.out.f)
    go_wp2_with (refine wpList_load_row rfl 30 _ rfl lb rfl 30 (thL mb fb) (0, 0) _ HBT13.out.l Tryz.underlying30 rfl (HIL.out _ _) ?_)
    go_at_call 21
    refine (HTA.out).mono ?_
    rintro e w14 ⟨hk14, j, hj, hc14, hf14, hs14, hr14, v, rfl, hv14⟩
    have hN := hdN_le mo t
    obtain ⟨N, hNe⟩ : ∃ N, hdN mo t = N := ⟨_, rfl⟩
    obtain ⟨σ, hσe⟩ : ∃ σ, takeR (headR mo) t = σ := ⟨_, rfl⟩
    rw [hNe] at hj hs14 hN
    rw [hσe] at hf14 hs14 hr14 hv14
    have HNe := hide hNe
    have Hσe := hide hσe
    obtain ⟨Lx, hLx⟩ : ∃ Lx : List Tg, (if (allR getE j σ).fault = 0 then valsT σ j else []) = Lx := ⟨_, rfl⟩
    rw [hLx] at hv14
    have HLx := hide hLx
    have hLl : Lx.length ≤ 16777217 := by
      rw [← hLx]
      split
      · rw [valsT_len]; omega
      · exact Nat.zero_le _
    obtain ⟨aX, cX, hvX, _, hrX⟩ := own_rdT hv14 hLl
    subst hvX
    have HJ := hide hj
    have HC14 := hide hc14
    have HF14 := hide hf14
    have HS14 := hide hs14
    have HR14 := hide hr14
    have HV14 := hide hv14
    have HB14 : Hid (Below w.heap.size w w14) := HBT13.out.bl.trans (hk14.below HBT13.out.bl.size fun k e => by
      rcases e with rfl | rfl
      · exact HGR.out
      · exact HBT13.out.gc)
    have HP14 := hide (hk14.blk HBT13.out.p (by
      obtain ⟨_, hrb, _⟩ := Rr.noU HR13.out
      rintro (e | e)
      · exact neT HBT13.out.p hrb (by decide) e
      · exact neT HBT13.out.p HBT13.out.c (by decide) e))
    clear hk14 hj hc14 hf14 hs14 hr14 hv14 hrX hNe hσe hLx HTA HBT13 HR13
    go_wp2_with fail
    refine (RNewReader_any aR nR cR lR _ (HRd.out.keep HB14.out) HZ.out).mono ?_
    rintro e w15 ⟨m, rfl, hq15, hge15, hb15⟩
    rw [HTt.out] at hq15
    have HQ15 := hide hq15
    have HGM : Hid (w14.heap.size ≤ m ∧ w.heap.size ≤ m) := ⟨hge15, Nat.le_trans HB14.out.size hge15⟩
    have HB15 := hide hb15
    clear hq15 hge15 hb15
    go_wp2_with fail
    refine (RHeadZ m mo t _ HQ15.out).mono ?_
    rintro e w16 ⟨rfl, hq16, hk16'⟩
    rw [okR_cast]
    have hNN : okR (headR mo) t (headV mo t) 0 = N := HNe.out
    rw [hNN]
    rw [Hσe.out] at hq16
    have HQ16 := hide hq16
    have HK16 : Hid (Keep (fun k => k = m) w14 w16) := (Keep.ofBelow (S := fun k => k = m) HB15.out (Nat.le_refl _)).more hk16'
    clear hq16 hk16' hNN HQ15 HB15
    go_upto_block 2 with fail
    go_cut [14, 23, 24, 25] from 130 to 160 (fun a y _ _ wx => ∃ k : Nat, a = .int .i64 (k : Nat) ∧ k ≤ N ∧ Hid ((∀ i, i < k → (allR getE i σ).fault = 0) ∧ (k = N ∨ (allR getE k σ).fault ≠ 0) ∧ Qr wx m (allR getE k σ) ∧ wx.ownsRow w16.heap.size 33 2 y k (flT (valsT σ k)) ∧ Keep (fun k => k = m) w16 wx))
    case first => as_aux_lemma =>
      have HML : Hid (m < w16.heap.size) := HQ16.out.lt
      go_wp2_with fail
      go_loopw [14, 23, 24] (fun a y i wx => ∃ k : Nat, a = .int .i64 (k : Nat) ∧ i = .int .i64 (k : Nat) ∧ k ≤ N ∧ Hid ((∀ i, i < k → (allR getE i σ).fault = 0) ∧ Qr wx m (allR getE k σ) ∧ wx.ownsRow w16.heap.size 33 2 y k (flT (valsT σ k)) ∧ Keep (fun k => k = m) w16 wx)) (fun _ _ i _ => N - (intOf i).toNat)
      case atStart => exact ⟨0, rfl, rfl, Nat.zero_le _, (fun i hi => by omega), HQ16.out, World.ownsRow_nil _ _ _ _, Keep.refl _ _⟩
      case round =>
        clear HQ16
        obtain ⟨k, rfl, rfl, hk, HD⟩ := hrel
        by_cases hlt : k < N
        · have hlt' : (k : Int) < (N : Int) := by omega
          obtain ⟨_, _, _, c1, c2, _⟩ := HD.out.2.1.see
          by_cases hzk : (allR getE k σ).fault = 0
          · have c2' : wr.cell? ⟨m, 2, none⟩ = some (.int .i64 0) := by rw [c2, hzk]; rfl
            have HSU : Hid (allR getE (k + 1) σ = if (getE (allR getE k σ)).taken = (allR getE k σ).taken then (getE (allR getE k σ)).fail 22 else getE (allR getE k σ)) := by show thingR getE (allR getE k σ) = _; unfold thingR; rw [if_pos hzk]
            have HVS := hide (valsT_succ σ k)
            have HVT : Hid (valT σ k = (getN (allR getE k σ), getS (allR getE k σ))) := rfl
            have HVL := hide (valsT_len σ k)
            have HF1 : Hid (∀ i, i < k + 1 → (allR getE i σ).fault = 0) := fun i hi => by
              rcases Nat.lt_or_ge i k with h | h
              · exact HD.out.1 i h
              · obtain rfl : i = k := by omega
                exact hzk
            have htk : (allR getE k σ).taken ≤ 16777216 := Nat.le_trans HD.out.2.1.tak HD.out.2.1.top
            generalize allR getE k σ = sk at *
            clear c2 hzk
            go_wp2_with fail
            refine (got_any m sk _ HD.out.2.1).mono ?_
            rintro e w20 ⟨rfl, hq20, hk20⟩
            have hOB : ∀ i, u23.ownBlock = some i → w16.heap.size ≤ i := fun i e => (HD.out.2.2.1.lt i e).1
            have ho20 := ownsRow_keepS HD.out.2.2.1 hk20 fun i hi e => by have h1 := hOB i e; have h2 : i = m := hi; have h3 := HML.out; omega
            have hb21 : Below w20.heap.size w20 (w20.alloc (.cells #[.int .i64 (getN sk), .string (getS sk)] 33)) := (Below.refl _ _).alloc (Nat.le_refl _) _
            have ho21 := ownsRow_keepB ho20 hb21
            have hk20' := HD.out.2.2.2.more hk20
            obtain ⟨a5, c5, w22, hr22, ho22, hg22, hn22⟩ := append_thing (b := w16.heap.size) (xs := valsT σ k) (by rw [HVL.out]; exact ho21) (by have := hk20'.size; have := hb21.size; omega) (by rw [HVL.out]; omega) (getN sk, getS sk) (heap_alloc_new w20 (.cells #[.int .i64 (getN sk), .string (getS sk)] 33)) 22
            have hkg : Keep (fun i => u23.ownBlock = some i) (w20.alloc (.cells #[.int .i64 (getN sk), .string (getS sk)] 33)) w22 := Keep.grown hg22 fun k e => e
            have HR22 := hide hr22
            have HO22 := hide ho22
            have HQ22 := hide ((hq20.below hb21).stay hkg fun j hj e => by have h1 := hOB j e; have h3 := HML.out; omega)
            have HK22 := hide ((hk20'.more (Keep.ofBelow hb21 (Nat.le_refl _))).trans hkg fun i e => .inr (hOB i e))
            clear hq20 hk20 hOB ho20 hb21 ho21 hk20' hr22 ho22 hg22 hn22 hkg HD c1 c2'
            obtain ⟨_, _, _, d1, _, _⟩ := HQ22.out.see
            have htk2 : (getE sk).taken ≤ 16777216 := Nat.le_trans HQ22.out.tak HQ22.out.top
            have HOf : Hid (w22.ownsRow w16.heap.size 33 2 (.slice a5 ((valsT σ k).length + 1) c5) (k + 1) (flT (valsT σ (k + 1)))) := by
              show World.ownsRow _ _ _ _ _ _ _
              rw [HVS.out, HVT.out]
              have := HO22.out
              rw [HVL.out] at this ⊢
              exact this
            by_cases hq : (getE sk).taken = sk.taken
            · have hqq : (((getE sk).taken : Int) == (sk.taken : Int)) = true := by rw [hq]; exact beq_self_eq_true _
              have HS1' : Hid (allR getE (k + 1) σ = (getE sk).fail 22) := by show _ = _; rw [HSU.out, if_pos hq]
              clear hq
              go_wp2_with (refine wpList_append_run rfl _ _ 22 rfl _ _ rfl rfl HR22.out ?_)
              go_at_call 25
              refine (wrong_any m (getE sk) 22 _ HQ22.out).mono ?_
              rintro e w23 ⟨rfl, hq23, hk23⟩
              have HQ23 := hide hq23
              have HO23 := hide (ownsRow_keepS HOf.out hk23 fun i hi e => by have h1 := (HOf.out.lt i e).1; have h2 : i = m := hi; have h3 := HML.out; omega)
              have HK23 := hide (HK22.out.more hk23)
              clear hq23 hk23 d1
              go_wp2_with fail
              go_roundw
              case rel => exact ⟨k + 1, by go_num, by go_num, by omega, HF1.out, by rw [HS1'.out]; exact HQ23.out, HO23.out, HK23.out⟩
              case measure => simp [intOf]; omega
            · have hqq : (((getE sk).taken : Int) == (sk.taken : Int)) = false := by rw [beq_eq_false_iff_ne]; omega
              have HS1' : Hid (allR getE (k + 1) σ = getE sk) := by show _ = _; rw [HSU.out, if_neg hq]
              clear hq
              go_wp2_with (refine wpList_append_run rfl _ _ 22 rfl _ _ rfl rfl HR22.out ?_)
              go_roundw
              case rel => exact ⟨k + 1, by go_num, by go_num, by omega, HF1.out, by rw [HS1'.out]; exact HQ22.out, HOf.out, HK22.out⟩
              case measure => simp [intOf]; omega
          · have hzz : ((((allR getE k σ).fault : Nat) : Int) == 0) = false := by simpa using hzk
            have HZk := hide hzk
            clear hzk
            go_wp2_with fail
            go_meet
            exact ⟨k, rfl, hk, HD.out.1, .inr HZk.out, HD.out.2.1, HD.out.2.2.1, HD.out.2.2.2⟩
        · obtain rfl : k = N := by omega
          have hlt' : ¬ (k : Int) < (k : Int) := by omega
          go_wp2_with fail
          go_meet
          exact ⟨k, rfl, Nat.le_refl _, HD.out.1, .inl rfl, HD.out.2.1, HD.out.2.2.1, HD.out.2.2.2⟩
    case rest =>
      obtain ⟨k3, rfl, hk3, HD⟩ := hcut
      have hkj : k3 = j := stop_uniq (F := fun i => (allR getE i σ).fault) (n := N) HD.out.1 HF14.out HD.out.2.1 HS14.out hk3 HJ.out
      subst hkj
      have hk17 : Keep (fun k => k = m) w14 wc := HK16.out.more HD.out.2.2.2.2
      have hml := HGM.out.1
      have HR17 := hide (HR14.out.stay hk17 fun k hk e => by have h1 := HR14.out.lt; have h2 : k = m := e; omega)
      have hv17 := ownsRow_keepS HV14.out hk17 fun i hi e => by have h1 := (HV14.out.lt i e).2; have h2 : i = m := hi; omega
      obtain ⟨aX2, cX2, hvX2, _, hrX2⟩ := own_rdT hv17 hLl
      injection hvX2 with e1 e2 e3
      subst e1 e3
      have HRX := hide hrX2
      have HP17 := hide (hk17.blk HP14.out (fun e => by have h1 := (Array.getElem?_eq_some_iff.1 HP14.out).1; have h2 : pb = m := e; omega))
      have HC17 := hide (hk17.blk HC14.out (fun e => by have h1 := (Array.getElem?_eq_some_iff.1 HC14.out).1; have h2 : cb = m := e; omega))
      have HB17 : Hid (Below w.heap.size w wc) := HB14.out.trans (hk17.below HB14.out.size fun k e => by rw [e]; exact HGM.out.2)
      have HRY := hide HD.out.2.2.2.1
      have HQ17 := hide HD.out.2.2.1
      obtain ⟨τ, hτ⟩ : ∃ τ, allR getE k3 σ = τ := ⟨_, rfl⟩
      rw [hτ] at HLx HR17 HQ17
      clear hk17 hv17 hrX2 e2 hτ HD HK16 HQ16 HR14 HV14 HP14 HC14 HB14 HF14 HS14 hml
      obtain ⟨_, _, _, cm1, cm2, _⟩ := HQ17.out.see
      obtain ⟨p0, _⟩ := slB_cell HP17.out
      have c0 := (numB_cell HC17.out).1
      have hle : (k2 : Int) ≤ (n : Int) := by omega
      by_cases hzt : τ.fault = 0
      · as_aux_lemma =>
        have cm2' : wc.cell? ⟨m, 2, none⟩ = some (.int .i64 0) := by rw [cm2, hzt]; rfl
        have hLe : valsT σ k3 = Lx := by have := HLx.out; rw [if_pos hzt] at this; exact this
        have hrow := HRY.out
        obtain ⟨aY, cY, hvY, _, hrY⟩ := own_rdT (xs := Lx) (b := w16.heap.size) (v := u23) (by rw [← hLe, valsT_len]; exact hrow) hLl
        subst hvY
        have HRYd := hide hrY
        have hft : (τ.fault : Int) = 0 := by omega
        clear hrow hrY hLe hzt cm2
        have HTs : Hid (∀ k, Calls Tryz.prog 19 #[.slice aX Lx.length cX, .slice aY Lx.length cY] (wc.drewN k) fun en w' => en = .returned (.bool true) ∧ ∃ m, w' = wc.drewN m) := fun k => (things_same _ _ aX aY Lx.length cX cY Lx (wc.drewN k) (RdT.keep HRX.out (Keep.ofBelow (S := fun _ => False) (drewN_below _ _) (Nat.le_refl _)) fun _ _ h => h) (RdT.keep HRYd.out (Keep.ofBelow (S := fun _ => False) (drewN_below _ _) (Nat.le_refl _)) fun _ _ h => h)).mono fun en w' h => ⟨h.1, by obtain ⟨m, e⟩ := h.2; exact ⟨k + m, by rw [e, drewN_add]⟩⟩
        have HAt : Hid (∀ k, Calls Tryz.prog 26 #[.pointer (some ⟨r, 0, none⟩)] (wc.drewN k) fun en w' => en = .returned (.int .i64 (τ.taken : Nat)) ∧ ∃ m, w' = wc.drewN m) := fun k => (at_any r τ _ (HR17.out.below (drewN_below _ _))).mono fun en w' h => ⟨h.1, k, h.2⟩
        have HEr : Hid (∀ k, Calls Tryz.prog 27 #[.pointer (some ⟨r, 0, none⟩)] (wc.drewN k) fun en w' => en = .returned (.int .i64 (τ.fault : Nat)) ∧ ∃ m, w' = wc.drewN m) := fun k => (err_any r τ _ (HR17.out.below (drewN_below _ _))).mono fun en w' h => ⟨h.1, k, h.2⟩
        go_upto_region 44 with fail
        go_quiet (first
          | (go_at_call 19; exact (HTs.out _))
          | (go_at_call 26; exact (HAt.out _))
          | (go_at_call 27; exact (HEr.out _)))
        go_wp2_with fail
        go_ret
        exact ⟨by simp, HB17.out.trans ((drewN_below _ _).mono HB17.out.size)⟩
      · as_aux_lemma =>
        have hzz : (((τ.fault : Nat) : Int) == 0) = false := by simpa using hzt
        have hLe : Lx = [] := by have := HLx.out; rw [if_neg hzt] at this; exact this.symm
        have HRYd : Hid (RdT (fun _ => True) wc none Lx.length Lx) := by
          show RdT _ _ _ _ _
          rw [hLe]
          exact ⟨rfl, Nat.zero_le _, .inl rfl⟩
        have hLz : Lx.length = 0 := by rw [hLe]; rfl
        clear hzt hLe
        have HTs : Hid (∀ k, Calls Tryz.prog 19 #[.slice aX Lx.length cX, .slice none Lx.length 0] (wc.drewN k) fun en w' => en = .returned (.bool true) ∧ ∃ m, w' = wc.drewN m) := fun k => (things_same _ _ aX none Lx.length cX 0 Lx (wc.drewN k) (RdT.keep HRX.out (Keep.ofBelow (S := fun _ => False) (drewN_below _ _) (Nat.le_refl _)) fun _ _ h => h) (RdT.keep HRYd.out (Keep.ofBelow (S := fun _ => False) (drewN_below _ _) (Nat.le_refl _)) fun _ _ h => h)).mono fun en w' h => ⟨h.1, by obtain ⟨m, e⟩ := h.2; exact ⟨k + m, by rw [e, drewN_add]⟩⟩
        have HAt : Hid (∀ k, Calls Tryz.prog 26 #[.pointer (some ⟨r, 0, none⟩)] (wc.drewN k) fun en w' => en = .returned (.int .i64 (τ.taken : Nat)) ∧ ∃ m, w' = wc.drewN m) := fun k => (at_any r τ _ (HR17.out.below (drewN_below _ _))).mono fun en w' h => ⟨h.1, k, h.2⟩
        have HEr : Hid (∀ k, Calls Tryz.prog 27 #[.pointer (some ⟨r, 0, none⟩)] (wc.drewN k) fun en w' => en = .returned (.int .i64 (τ.fault : Nat)) ∧ ∃ m, w' = wc.drewN m) := fun k => (err_any r τ _ (HR17.out.below (drewN_below _ _))).mono fun en w' h => ⟨h.1, k, h.2⟩
        go_upto_region 44 with fail
        rw [hLz] at HTs ⊢
        go_quiet (first
          | (go_at_call 19; exact (HTs.out _))
          | (go_at_call 26; exact (HAt.out _))
          | (go_at_call 27; exact (HEr.out _)))
        go_wp2_with fail
        go_ret
        exact ⟨by simp, HB17.out.trans ((drewN_below _ _).mono HB17.out.size)⟩
end Wm
end Go.Proofs.YtoelgcagahmndaaGreat

/- PackThings: the row. -/
namespace Go.Proofs.YtoelgcagahmndaaGreat
open Go.ChangeShapes Go.WideShapes Go.ChangeAt Go.RowKit Go.Joins Go.Deep

namespace Wm
theorem bytes_thing : Tryz.prog.bytesOf 33 = 24 := by kernel_rfl
theorem cells_thing : Tryz.prog.cellsOf 33 = 2 := by kernel_rfl
theorem cells_int1 : Tryz.prog.cellsOf 3 = 1 := by kernel_rfl
theorem cells_str1 : Tryz.prog.cellsOf 9 = 1 := by kernel_rfl
theorem thing_open {H : Type} {enc : TypeId × Value → H} {W : World} {fuel : Nat} {cs : List Value} {y : DataW H × List MemPlace} (hlen : cs.length = 2)
    (h : DataW.trod enc Tryz.prog W 0 (fun _ => true) true fuel 33 cs = some y) (hw : ∀ k ∈ y.1.weights Tryz.prog 33, k ≤ reachBytes) :
    ∃ x : Tg, cs = Tg.row x ∧ x.1 ≤ 9223372036854775807 ∧ x.2.size ≤ 140737488351232 := by
  match cs, hlen with
  | [c2, c3], _ =>
    obtain ⟨z0, z1, k, hz, _, k0, k1⟩ := trod_struct2 Tryz.underlying33 h
    have k0' : DataW.trod enc Tryz.prog W 0 (fun _ => true) true k 3 [c2] = some z0 := by simpa [cells_int1] using k0
    have k1' : DataW.trod enc Tryz.prog W 0 (fun _ => true) true k 9 [c3] = some z1 := by simpa [cells_str1] using k1
    obtain ⟨a2, e2, _, wf2⟩ := DataW.trod_int Tryz.underlying3 k0'
    obtain ⟨a3, e3, he3, _⟩ := DataW.trod_string Tryz.underlying9 k1'
    rw [hz] at hw
    have hw23 := weigh_field Tryz.underlying33 hw (j := 1) rfl rfl
    have hs3 : a3.size ≤ 140737488351232 := by
      have := hw23 a3.data.toList.length (by rw [he3]; simp [DataW.weights])
      simpa [reachBytes] using this
    simp at e2 e3
    subst e2 e3
    exact ⟨(a2, a3), rfl, (bounds_i64 wf2).2, hs3⟩
theorem open_things {H : Type} {enc : TypeId × Value → H} {W : World} {fuel : Nat} {v : Value} {x : DataW H × List MemPlace}
    (hf : DataW.trod enc Tryz.prog W 0 (fun _ => true) true fuel 22 [v] = some x) (hw : ∀ k ∈ x.1.weights Tryz.prog 22, k ≤ reachBytes) : ∃ a n c xs, v = .slice a n c ∧ RdT (fun k => k < W.heap.size) W a n xs ∧ n ≤ c ∧ Fit xs := by
  rcases open_slice Tryz.underlying22 hf with ⟨hcs, _⟩ | ⟨y, len, cap, m, k, D, Pl, hcs, _, hl, hm, hmm, hx, hel⟩
  · simp at hcs
    subst hcs
    exact ⟨none, 0, 0, [], rfl, ⟨rfl, Nat.zero_le _, .inl rfl⟩, Nat.le_refl _, fun q hq => by cases hq⟩
  · simp at hcs
    subst hcs
    simp only [if_true] at hmm
    subst hmm
    rw [Prod.ext_iff] at hx
    have hreach : m * 24 ≤ 140737488351232 := by
      have := hw (((((List.range len).map D).length + ((List.range (m - len)).map fun j => D (len + j)).length)) * 24) (by
        rw [hx.1]
        simp [DataW.weights, Tryz.underlying22, bytes_thing])
      simp only [List.length_map, List.length_range, reachBytes] at this
      omega
    rw [cells_thing] at hel
    obtain ⟨b, off, spot⟩ := y
    have key : ∀ i, i < len → ∃ q : Tg, (q.1 ≤ 9223372036854775807 ∧ q.2.size ≤ 140737488351232) ∧ ∀ j x, (Tg.row q)[j]? = some x → W.cell? ((⟨b, off, spot⟩ : Addr).add (i * 2 + j)) = some x := by
      intro i hi
      obtain ⟨cs', h1, h2⟩ := hel i (by omega)
      obtain ⟨_, hlen, hcell⟩ := World.cells?_some h1
      have hwi : ∀ k ∈ (D i).weights Tryz.prog 33, k ≤ reachBytes := fun k hk => hw k (by
        rw [hx.1]
        simp only [DataW.weights, Tryz.underlying22, List.mem_cons, List.mem_append]
        exact .inr (.inl (mem_weightsAll (d := D i) (List.mem_map.2 ⟨i, List.mem_range.2 hi, rfl⟩) hk)))
      obtain ⟨q, hq1, hq2⟩ := thing_open hlen h2 hwi
      refine ⟨q, hq2, fun j x hjx => ?_⟩
      have hj : j < 2 := (List.getElem?_eq_some_iff.1 hjx).1
      have := hcell j hj
      rw [addr_add_add] at this
      rw [this, hq1]; exact hjx
    have : Inhabited Tg := ⟨(0, ⟨#[]⟩)⟩
    obtain ⟨f, hf'⟩ := choose_lt key
    refine ⟨_, len, _, (List.range len).map f, rfl, ⟨by simp, (by show len ≤ _; omega), ?_⟩, hl, fun q hq => ?_⟩
    · by_cases h0 : len = 0
      · exact .inl h0
      · right
        have hspot : spot = none := by simpa [Addr.add] using World.cell?_spot ((hf' 0 (by omega)).2 0 _ rfl)
        subst hspot
        have hadd : ∀ i, (⟨b, off, none⟩ : Addr).add i = ⟨b, off + i, none⟩ := fun i => by unfold Addr.add; split <;> simp_all
        refine ⟨b, off, rfl, ?_, fun i q hq j u hu => ?_⟩
        · have := (hf' 0 (by omega)).2 0 _ rfl
          rw [hadd] at this
          exact block_lt_of_cell this
        · have hi : i < len := by have := (List.getElem?_eq_some_iff.1 hq).1; simpa using this
          obtain rfl : f i = q := by
            rw [List.getElem?_map, List.getElem?_range hi] at hq
            simpa using hq
          have := (hf' i hi).2 j u hu
          rw [hadd] at this
          rw [Nat.add_assoc]; exact this
    · obtain ⟨i, hi, rfl⟩ := List.mem_map.1 hq
      exact (hf' i (List.mem_range.1 hi)).1
theorem cells_of_tlist : Tryz.prog.cellsOf 22 = 1 := by kernel_rfl
theorem cells_of_blist : Tryz.prog.cellsOf 23 = 1 := by kernel_rfl
theorem cells_of_trow : Tryz.prog.cellsOf 25 = 4 := by kernel_rfl
theorem array4t {α : Type} {cs : Array α} (h : cs.size = 4) : ∃ c0 c1 c2 c3, cs = #[c0, c1, c2, c3] := by
  obtain ⟨l⟩ := cs
  match l, h with
  | [c0, c1, c2, c3], _ => exact ⟨c0, c1, c2, c3, rfl⟩
end Wm
namespace PackThings
set_option maxRecDepth 100000 in
theorem lifted (os : Os) (started : os.Started) (H : Type) (enc : TypeId × Value → H) :
    ReturnsInHanded {} Tryz.checked os 3 .any (Rows.packThingsSpec.pre6 enc Tryz.prog Tryz.f3 Rows.packThingsRow.domain false) (Rows.packThingsSpec.post enc Tryz.prog Tryz.f3 false true false false) := by
  refine returnsInHanded_of_change_sized (C := Tryz.checked) own started (by kernel_rfl) Tryz.func3
    (ChangeSpec.witness6 (enc := enc) (C := Tryz.checked) false ⟨#[], #[.agg #[.int .i64 0, .int .i64 0, .slice none 0 0, .slice none 0 0]], []⟩ 8 (by kernel_rfl) (by kernel_rfl) (by kernel_rfl) (by kernel_rfl)) ?_
  intro W base args ds gs before hval0 hW _ hsz0 _
  have hsz : (DataW.weightsEach Tryz.prog (Tryz.f3.params.toList ++ Rows.packThingsSpec.plain.varTypes Tryz.prog) (ds ++ gs)).all (· ≤ reachBytes) = true := hsz0
  have hval : ∀ (j : Nat) t v, Tryz.f3.params[j]? = some t → args[j]? = some v → Value.okWide Tryz.prog W .any base t v := hval0
  have hW' := hW
  obtain ⟨p, q, hA0, hV, rfl, hfz, hnd⟩ := hW
  have hA : DataW.TrodAll enc Tryz.prog W 0 (fun _ => true) true Tryz.f3.params.toList args.toList ds p := hA0
  rw [Tryz.params3] at hA hval hsz
  obtain ⟨v0, d0, rfl, rfl, h0⟩ := trodAll_one hA
  obtain ⟨rfl, rfl⟩ := trodVars_none hV
  have lt0 : ∀ x ∈ p, x.block < W.heap.size := by obtain ⟨m, hm⟩ := h0; exact DataW.trod_lt m _ _ _ hm
  obtain ⟨cs, rfl, hcs⟩ := okWide_struct Tryz.underlying25 (hval 0 25 v0 rfl rfl)
  obtain ⟨c0, c1, c2, c3, rfl⟩ := Wm.array4t (hcs.trans Wm.cells_of_trow)
  have h0' := h0
  obtain ⟨fuel, hf⟩ := h0'
  obtain ⟨xs, n, _, hx, _, hlen, hff⟩ := DataW.trod_struct Tryz.underlying25 hf
  match xs, hlen with
  | [y0, y1, y2, y3], _ =>
    simp only [Prod.mk.injEq] at hx
    have hd : d0 = .agg [y0.1, y1.1, y2.1, y3.1] := by simpa using hx.1
    have g0 : DataW.trod enc Tryz.prog W 0 (fun _ => true) true n 3 [c0] = some y0 := by simpa [Value.cells, Wm.cells_int1] using hff 0 _ rfl
    have g1 : DataW.trod enc Tryz.prog W 0 (fun _ => true) true n 3 [c1] = some y1 := by simpa [Value.cells, Wm.cells_int1] using hff 1 _ rfl
    have g2 : DataW.trod enc Tryz.prog W 0 (fun _ => true) true n 22 [c2] = some y2 := by simpa [Value.cells, Wm.cells_of_tlist] using hff 2 _ rfl
    have g3 : DataW.trod enc Tryz.prog W 0 (fun _ => true) true n 23 [c3] = some y3 := by simpa [Value.cells, Wm.cells_of_blist] using hff 3 _ rfl
    have hw0 := weigh hsz (j := 0) rfl rfl
    rw [hd] at hw0
    have hw2 := weigh_field Tryz.underlying25 hw0 (j := 2) rfl rfl
    have hw3 := weigh_field Tryz.underlying25 hw0 (j := 3) rfl rfl
    obtain ⟨a0, e0, _, wf0⟩ := DataW.trod_int Tryz.underlying3 g0
    obtain ⟨a1, e1, _, wf1⟩ := DataW.trod_int Tryz.underlying3 g1
    obtain ⟨b2, m2, l2, ts, rfl, hts, hcl, hfit⟩ := Wm.open_things g2 hw2
    obtain ⟨b3, m3, l3, lR, rfl, hl3, _, hz3⟩ := trod_bytes_any g3 hw3
    simp at e0 e1
    subst e0 e1
    clear hA0 hval0
    refine (Wm.things_walk a0 a1 b2 m2 l2 ts b3 m3 l3 lR W hts hcl hfit hl3 hz3).mono fun e W' ⟨he, bel⟩ => ?_
    subst he
    exact ⟨_, rfl, _, _, _, [], _, [], hW', trodAll_mk1 (shut_bool Tryz.underlying4 _), trodAll_mk1 (Below.trod laidOut (by kernel_rfl) (of_decide_eq_true (by kernel_rfl)) h0 bel lt0), rfl, bel.frame _, fun h => by cases h⟩

theorem over : Rows.packThingsRow.holds Tryz.pinned (OpenSpec.ofChange Rows.packThingsSpec) :=
  OpenClaim.holds_of_wide 3 Tryz.f3 rfl rfl rfl rfl rfl rfl rfl ⟨rfl, rfl, rfl, rfl, rfl⟩ rfl rfl rfl rfl rfl (by kernel_rfl) Tryz.func3 (by kernel_rfl)
    (of_decide_eq_true (by kernel_rfl)) (by unfold Func.isWrapper; first | (rw [if_pos (by decide +kernel)]; kernel_rfl) | (rw [if_neg (by decide +kernel)]; exact ⟨rfl, rfl⟩))
    (fun os started H enc _ => lifted os started H enc)
end PackThings

theorem packThings_holds : Rows.PackThingsSaid := PackThings.over
#print axioms packThings_holds
end Go.Proofs.YtoelgcagahmndaaGreat
