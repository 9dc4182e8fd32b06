import Derived.Test.YtinhpanpjamjlaaGreatPPaS
import Derived.Test.YtinhpanpjamjlaaGreatPSam
import Derived.Test.YtinhpanpjamjlaaGreatPKnown
import Derived.Deep.MidRow
import Derived.Deep.CutRange
import Derived.Deep.RegionHeld3
import Derived.Test.YtinhpanpjamjlaaGreatPPaO
/- PackParts: the walk. -/
namespace Go.Proofs.YtinhpanpjamjlaaGreat
namespace Wm
open Go.RowKit Go.Deep

/-- a step put into a writer of its own -/
theorem fresh_put {w0 wr w2 : World} {q : Sp} (hok : q.Ok (fun k => k < w0.heap.size) w0) (hbl : Below w0.heap.size w0 wr) (h2 : WAt (fun k => wr.heap.size ≤ k) wr wr.heap.size s00 w2) :
    q.Ok (fun b => ¬ (wr.heap.size ≤ b) ∧ b < wr.heap.size) w2 := by
  have b2 : Below w0.heap.size w0 w2 := hbl.trans (h2.keep.below hbl.size fun i hi => Nat.le_trans hbl.size hi)
  exact hok.keep b2 fun k hk => ⟨by have := hbl.size; omega, Nat.lt_of_lt_of_le hk hbl.size⟩
set_option maxRecDepth 100000 in
set_option maxHeartbeats 4000000 in
theorem parts_walk (a : Option Addr) (n c : Nat) (qs : List Sp) (w : World) (h : RdSp w a n qs) (hmo : ∀ q ∈ qs, q.mo ≤ 9223372036854775807) :
    Calls Tryz.prog 5 #[.slice a n c] w fun en w' => en = .returned (.bool true) ∧ Below w.heap.size w w' := by
  have hn := h.2.1
  have HQ := hide h
  have HMo := hide hmo
  clear h hmo
  go_enter Tryz.func5, Tryz.ntmps5
  go_wp2_with fail
  refine (known_any _).mono ?_
  rintro e w1 ⟨rfl, hb1⟩
  have HB1 := hide hb1
  clear hb1
  go_wp2_with fail
  refine (fresh_any _).mono ?_
  rintro e w2 ⟨rfl, h2⟩
  obtain ⟨vW, S2⟩ := S1.begin HB1.out h2
  have HS2 := hide S2
  clear S2 h2
  generalize w1.heap.size = p at *
  clear HB1
  go_wp2_with fail
  go_loopw [5, 6] (fun v iv wr => ∃ (i : Nat) (a5 : Option Addr) (c5 : Nat), v = .slice a5 (acc (qs.take i)).length c5 ∧ iv = .int .i64 (i : Nat) ∧ i ≤ n ∧ Hid (∃ u, S1 w wr p u (acc (qs.take i)) (.slice a5 (acc (qs.take i)).length c5))) (fun _ iv _ => n - (intOf iv).toNat)
  case atStart => exact ⟨0, none, 0, rfl, rfl, Nat.zero_le _, _, HS2.out⟩
  case round => as_aux_lemma =>
    clear HS2
    obtain ⟨i, a5, c5, rfl, rfl, hi, HI⟩ := hrel
    obtain ⟨v, HS⟩ : ∃ v, Hid (S1 w wr p v (acc (qs.take i)) (.slice a5 (acc (qs.take i)).length c5)) := HI.out
    clear HI
    by_cases hlt : i < n
    · as_aux_lemma =>
      obtain ⟨x, b, off, hx, ea, hok, hrow⟩ := HQ.out.row hlt
      subst ea
      have hlt' : (i : Int) < (n : Int) := by omega
      have HR := hide (acc_succ hx)
      have hLle := acc_le (qs.take i)
      generalize acc (qs.take i) = L at *
      have HRW := hide hrow
      have HOk := hide hok
      have HP : Hid (∀ (S : Nat → Prop) (w0 : World) (p : Nat) (s : K.WS) (W' : World), WAt S w0 p s W' → x.Ok (fun b => ¬ S b ∧ b < w0.heap.size) W' → Calls Tryz.prog 9 #[.pointer (some ⟨p, 0, none⟩), .agg x.row.toArray] W' fun en w' => en = .returned (.tuple #[]) ∧ WAt S w0 p (x.eff s) w') := fun S w0 p s W' h ok => put_any S w0 p s x W' h ok
      have HI3 := hide (show (Tryz.prog.info? 35).map (·.size) = some x.row.length by rw [info_step]; rfl)
      clear hok hx hrow
      generalize x.row = cs at *
      go_wp2_with fail
      refine (fresh_any _).mono ?_
      rintro e w3 ⟨rfl, h3⟩
      have H3 := hide h3
      have HF3 := hide (fresh_put HOk.out HS.out.bl h3)
      have HS3 := hide (HS.out.keepW h3.keep)
      clear h3
      go_wp2_with (refine wpList_load_mid rfl 35 _ rfl b (off + i * 11) rfl cs _ (HRW.out _ HS3.out.bl) Tryz.underlying35 rfl HI3.out ?_)
      go_at_call 9
      refine (HP.out _ _ _ _ _ H3.out HF3.out).mono ?_
      rintro e w4 ⟨rfl, h4⟩
      have H4 := hide h4
      clear h4
      go_wp2_with fail
      refine (Done_any _ _ _ _ _ H4.out).mono ?_
      rintro e w5 ⟨vx, rfl, ho5, hb5, hf5⟩
      obtain ⟨ax, cx, hvx⟩ := ownsRow_shape ho5
      subst hvx
      have HS5 := hide ((HS.out.keepW H4.out.keep).new hb5)
      have HNb : Hid (∀ k, Wset p v k → (Value.slice ax (told (x.eff s00)).length cx).ownBlock ≠ some k) := fun k hk e => by
        have h6 := (ho5.lt k e).1
        have h7 := wset_ltW HS.out.wr hk
        have h8 := H4.out.keep.size
        omega
      have HO5 := hide (ownsRow_base ho5 (Nat.zero_le _))
      have HF5 := hide hf5
      clear ho5 hb5 hf5 H3 H4 HF3 HS3
      by_cases hz : (x.eff s00).fault = 0
      · have ht : told (x.eff s00) = (x.eff s00).laid := if_pos hz
        have HM : Hid (L.length + (x.eff s00).laid.length ≤ 16777216 → x.eff ⟨L, 16777216, 0⟩ = ⟨L ++ (x.eff s00).laid, 16777216, 0⟩) := fun h => eff_more hz h
        have HA1 : Hid (L.length + (x.eff s00).laid.length ≤ 16777216 → acc (qs.take (i + 1)) = L ++ (x.eff s00).laid) := fun h => by rw [HR.out]; exact acc1_yes ⟨hz, h⟩
        have HA0 : Hid (¬ L.length + (x.eff s00).laid.length ≤ 16777216 → acc (qs.take (i + 1)) = L) := fun h => by rw [HR.out]; exact acc1_no fun h2 => h h2.2
        rw [hz, ht]
        rw [ht] at HNb HO5 HF5
        clear ht hz HR
        have hbl : (x.eff s00).laid.length ≤ 16777216 := HF5.out.2
        generalize (x.eff s00).laid = bs at *
        by_cases hfit : L.length + bs.length ≤ 16777216
        · have hfit' : ¬ ((16777216 : Int) < (L.length : Int) + (bs.length : Int)) := by omega
          go_wp2_with (refine wpList_load_mid rfl 35 _ rfl b (off + i * 11) rfl cs _ (HRW.out _ HS5.out.bl) Tryz.underlying35 rfl HI3.out ?_)
          go_at_call 9
          refine (HP.out _ _ _ _ _ HS5.out.atW (HOk.out.keep HS5.out.bl HS5.out.dW)).mono ?_
          rintro e w6 ⟨rfl, h6⟩
          rw [HM.out hfit] at h6
          have H6 := hide h6
          have HRw := hide (ownsRow_keepS HS5.out.row h6.keep HS5.out.ne)
          have HRb := hide (rd_out2 (ownsRow_keepS HO5.out h6.keep HNb.out) HF5.out.1 (by omega))
          have HZ6 : Hid (w.heap.size ≤ w6.heap.size) := Nat.le_trans HS5.out.bl.size h6.keep.size
          clear h6
          go_wp2_with (at_builtin; refine wpList_append_rd rfl _ _ rfl (.slice a5 L.length c5) L w.heap.size rfl HRw.out ax bs.length cx bs rfl HRb.out.1 HRb.out.2 (by omega) HZ6.out ?_; intro v7 w7 ho7 hg7 hn7; obtain ⟨u7, hu7⟩ := HS5.out.step H6.out ho7 hg7 hn7; obtain ⟨a7, c7, hv7⟩ := ownsRow_shape ho7; subst hv7; have HU7 := hide hu7; clear ho7 hg7 hn7 hu7)
          have hA := HA1.out hfit
          exact ⟨⟨i + 1, a7, c7, by rw [hA, List.length_append], by go_num, by omega, by rw [hA]; exact ⟨_, HU7.out⟩⟩, by simp [intOf]; omega⟩
        · have hfit' : (16777216 : Int) < (L.length : Int) + (bs.length : Int) := by omega
          have hA := HA0.out hfit
          have HA := hide hA
          clear hA
          go_wp2_with fail
          exact ⟨⟨i + 1, a5, c5, by rw [HA.out], by go_num, by omega, by rw [HA.out]; exact ⟨_, HS5.out⟩⟩, by simp [intOf]; omega⟩
      · have HA : Hid (acc (qs.take (i + 1)) = L) := by show _ = _; rw [HR.out]; exact acc1_no fun h2 => hz h2.1
        have hne : (((x.eff s00).fault : Int) != 0) = true := by simp only [bne_iff_ne, ne_eq]; omega
        have ht : told (x.eff s00) = [] := if_neg hz
        rw [ht]
        clear hz ht
        generalize (x.eff s00).fault = ft at *
        go_wp2_with fail
        exact ⟨⟨i + 1, a5, c5, by rw [HA.out], by go_num, by omega, by rw [HA.out]; exact ⟨_, HS5.out⟩⟩, by simp [intOf]; omega⟩
    · as_aux_lemma =>
      obtain rfl : i = n := by omega
      have HE : Hid (qs.take i = qs) := by show _ = _; rw [List.take_of_length_le (by have := HQ.out.1; omega)]
      rw [HE.out] at HS ⊢
      have hLle := acc_le qs
      have HAll := hide (fun j => acc_pre qs j)
      have HAr : Hid (∀ j x, qs[j]? = some x → acc (qs.take (j + 1)) = acc1 (acc (qs.take j)) x) := fun j x h => acc_succ h
      have HAw : Hid (acc (qs.take i) = acc qs) := by show _ = _; rw [HE.out]
      generalize hL : acc qs = L at *
      clear hL HE
      go_wp2_with fail
      refine (Done_any _ _ _ _ _ HS.out.atW).mono ?_
      rintro e w3 ⟨vx, rfl, ho3, hb3, hf3⟩
      rw [show told ⟨L, 16777216, 0⟩ = L from rfl] at ho3 hf3
      obtain ⟨ax, cx, hvx⟩ := ownsRow_shape ho3
      subst hvx
      have HRa := hide (rd_out2 (ownsRow_base ho3 (Nat.zero_le _)) hf3.1 (by omega))
      have HRl := hide (rd_out2 (ownsRow_keepB HS.out.row hb3) hf3.1 (by omega))
      have k1 := conv_rd HRa.out.1 cx
      have k2 := conv_rd HRl.out.1 c5
      have HB3 := hide (HS.out.bl.trans (hb3.mono HS.out.bl.size))
      have HFi := hide hf3
      clear ho3 hb3 hf3 HS HRl
      generalize hstr : str L = SL at *
      clear hstr
      go_wp2_with fail
      refine (NewReader_any ax L.length cx L _ HRa.out.1 HRa.out.2).mono ?_
      rintro e w4 ⟨r, rfl, hr4, hge4, hb4⟩
      rw [show newR L = ⟨L, 0, 0⟩ from if_pos hLle] at hr4
      have HB4 := hide (HB3.out.trans (hb4.mono HB3.out.size))
      have HRg : Hid (w.heap.size ≤ r) := Nat.le_trans HB3.out.size hge4
      have HR4 := hide hr4
      clear hr4 hge4 hb4 HB3 HRa k1 k2
      go_wp2_with fail
      go_loopw [13] (fun iv wr => ∃ j : Nat, iv = .int .i64 (j : Nat) ∧ j ≤ i ∧ Hid (Rr wr r ⟨L, (acc (qs.take j)).length, 0⟩ ∧ Below w.heap.size w wr)) (fun iv _ => i - (intOf iv).toNat)
      case atStart => exact ⟨0, rfl, Nat.zero_le _, HR4.out, HB4.out⟩
      case round => as_aux_lemma =>
        clear HR4 HB4
        obtain ⟨j, rfl, hj, HD⟩ := hrel
        by_cases hjl : j < i
        · as_aux_lemma =>
          obtain ⟨x, b, off, hx, ea, hok, hrow⟩ := HQ.out.row hjl
          subst ea
          have hjl' : (j : Int) < (i : Int) := by omega
          have HR := hide (HAr.out j x hx)
          obtain ⟨tl, htl⟩ := HAll.out j
          obtain ⟨tl2, htl2⟩ := HAll.out (j + 1)
          have HTl := hide htl
          have HTl2 := hide htl2
          have hmx := HMo.out x (List.mem_of_getElem? hx)
          clear htl htl2
          generalize acc (qs.take j) = P at *
          have hPle : P.length ≤ L.length := by have := congrArg List.length HTl.out; rw [List.length_append] at this; omega
          have HRW := hide hrow
          have HOk := hide hok
          have HP : Hid (∀ (S : Nat → Prop) (w0 : World) (p : Nat) (s : K.WS) (W' : World), WAt S w0 p s W' → x.Ok (fun b => ¬ S b ∧ b < w0.heap.size) W' → Calls Tryz.prog 9 #[.pointer (some ⟨p, 0, none⟩), .agg x.row.toArray] W' fun en w' => en = .returned (.tuple #[]) ∧ WAt S w0 p (x.eff s) w') := fun S w0 p s W' h ok => put_any S w0 p s x W' h ok
          have HTk : Hid (∀ (r : Nat) (s : K.RS) (W' : World), Rr W' r s → Calls Tryz.prog 21 #[.pointer (some ⟨r, 0, none⟩), .agg x.row.toArray] W' (TkE r (x.rd s) (x.td s) W')) := fun r s W' h => took_any r s x W' h hok.w1 hok.w2
          have HI3 := hide (show (Tryz.prog.info? 35).map (·.size) = some x.row.length by rw [info_step]; rfl)
          have HAg := hide (step_again x hmx hok.n2 hok.x)
          clear hok hx hrow hmx
          go_wp2_with fail
          refine (fresh_any _).mono ?_
          rintro e w5 ⟨rfl, h5⟩
          have H5 := hide h5
          have HF5 := hide (fresh_put HOk.out HD.out.2 h5)
          have HB5 := hide (HD.out.2.trans (h5.keep.below HD.out.2.size fun k hk => Nat.le_trans HD.out.2.size hk))
          clear h5
          go_wp2_with (refine wpList_load_mid rfl 35 _ rfl b (off + j * 11) rfl x.row _ (HRW.out _ HB5.out) Tryz.underlying35 rfl HI3.out ?_)
          go_at_call 9
          refine (HP.out _ _ _ _ _ H5.out HF5.out).mono ?_
          rintro e w6 ⟨rfl, h6⟩
          have H6 := hide h6
          clear h6
          go_wp2_with fail
          refine (Done_any _ _ _ _ _ H6.out).mono ?_
          rintro e w7 ⟨vb, rfl, ho7, hb7, hf7⟩
          obtain ⟨ab, cb, hvb⟩ := ownsRow_shape ho7
          subst hvb
          have HBw : Hid (Below wr.heap.size wr w7) := (H6.out.keep.below (Nat.le_refl _) fun _ h => h).trans (hb7.mono H6.out.keep.size)
          have HR7 := hide (HD.out.1.below HBw.out)
          have HB7 := hide (HD.out.2.trans (HBw.out.mono HD.out.2.size))
          have HO7 := hide (ownsRow_base ho7 (Nat.zero_le _))
          have HF7 := hide hf7
          clear ho7 hb7 hf7 H5 H6 HF5 HB5 HBw HD
          by_cases hz : (x.eff s00).fault = 0
          · obtain ⟨bs, hbs, T, hT⟩ := HAg.out hz
            have hbs' : x.eff s00 = ⟨bs, 16777216, 0⟩ := hbs
            have HT := hide hT
            have HA1 : Hid (P.length + bs.length ≤ 16777216 → acc (qs.take (j + 1)) = P ++ bs) := fun h => by rw [HR.out]; rw [acc1_yes ⟨hz, by rw [hbs']; exact h⟩, hbs']
            have HA0 : Hid (¬ P.length + bs.length ≤ 16777216 → acc (qs.take (j + 1)) = P) := fun h => by rw [HR.out]; exact acc1_no fun h2 => h (by have := h2.2; rw [hbs'] at this; exact this)
            have ht : told (x.eff s00) = bs := by rw [hbs']; rfl
            have hft : (x.eff s00).fault = 0 := hz
            rw [hft, ht]
            rw [ht] at HO7 HF7
            clear ht hz hbs hbs' HR hT HAg hft
            have hbl : bs.length ≤ 16777216 := HF7.out.2
            by_cases hfit : P.length + bs.length ≤ L.length
            · have hPb : P.length + bs.length ≤ 16777216 := by omega
              have HA := hide (HA1.out hPb)
              have HDr : Hid (L.drop P.length = bs ++ tl2) := by
                show _ = _
                have h2 := HTl2.out
                rw [HA.out, List.append_assoc] at h2
                rw [h2, List.drop_left']
                rfl
              have HT1 := hide (HT.out ⟨L, P.length, 0⟩ tl2 rfl HFi.out.1 HDr.out)
              have HT2 := hide (HT.out ⟨bs, 0, 0⟩ [] rfl HF7.out.1 (by show bs.drop 0 = _; simp))
              have hfit' : ¬ ((L.length : Int) < (P.length : Int) + (bs.length : Int)) := by omega
              clear HA1 HA0 HTl HTl2 HT HP
              go_wp2_with (first
                | (go_at_call 17; refine (at_any r _ _ HR7.out).mono ?_; rintro e w7' ⟨rfl, rfl⟩)
                | (refine wpList_load_mid rfl 35 _ rfl b (off + j * 11) rfl x.row _ (HRW.out _ HB7.out) Tryz.underlying35 rfl HI3.out ?_))
              go_at_call 21
              refine (HTk.out r _ _ HR7.out).mono ?_
              rintro e w8 ⟨v8, rfl, htd8, hr8, hk8⟩
              rw [HT1.out.1] at hr8
              rw [HT1.out.2] at htd8
              have HTD8 := hide htd8
              obtain ⟨aT, nT, cT, aL, nL, cL, aD, nD, cD, ev8, _, _, _⟩ := htd8
              subst ev8
              have hr7lt := HR7.out.lt
              have HB8 : Hid (Below w.heap.size w w8) := HB7.out.trans (hk8.below HB7.out.size fun k e => by rw [e]; exact HRg.out)
              have HO8 := hide (ownsRow_keepT HO7.out HR7.out hk8 (by decide))
              have HR8 := hide hr8
              have hr8lt : r < w8.heap.size := hr8.lt
              have HTG := hide (heap_alloc_new w8 (.cells z7 52))
              have HI7 : Hid ((Tryz.prog.info? 52).map (·.size) = some (#[.int .i64 T.N, .int .u64 (T.W : Nat), .bool T.F, .string T.S, .slice aT nT cT, .slice aL nL cL, .slice aD nD cD] : Array Value).size) := by show _ = _; rw [info_told]; rfl
              have HO7' : Hid ((#[.int .i64 T.N, .int .u64 (T.W : Nat), .bool T.F, .string T.S, .slice aT nT cT, .slice aL nL cL, .slice aD nD cD] : Array Value).all (·.oneCell') = true) := by show _ = _; simp [Value.oneCell']
              clear hr8 hk8 HR7 HB7 HO7 hr7lt
              go_wp2_with (refine wpList_store_row rfl 52 _ _ rfl w8.heap.size #[.int .i64 T.N, .int .u64 (T.W : Nat), .bool T.F, .string T.S, .slice aT nT cT, .slice aL nL cL, .slice aD nD cD] rfl rfl 52 _ HTG.out HI7.out rfl HO7'.out ?_)
              have HX9 : Hid (((w8.alloc (.cells z7 52)).setRow w8.heap.size #[.int .i64 T.N, .int .u64 (T.W : Nat), .bool T.F, .string T.S, .slice aT nT cT, .slice aL nL cL, .slice aD nD cD]).heap[w8.heap.size]? = some (.cells #[.int .i64 T.N, .int .u64 (T.W : Nat), .bool T.F, .string T.S, .slice aT nT cT, .slice aL nL cL, .slice aD nD cD] 52 (0, 0))) := setRow_heap _ _ _ _ _ _ HTG.out
              have HB9 : Hid (Below w8.heap.size w8 ((w8.alloc (.cells z7 52)).setRow w8.heap.size #[.int .i64 T.N, .int .u64 (T.W : Nat), .bool T.F, .string T.S, .slice aT nT cT, .slice aL nL cL, .slice aD nD cD])) := ((Below.refl _ _).alloc (Nat.le_refl _) _).trans ((keep_row _ _ _).below (by simp) fun k e => by rw [e]; exact Nat.le_refl _)
              change Calls Tryz.prog _ _ ((w8.alloc (.cells z7 52)).setRow w8.heap.size #[.int .i64 T.N, .int .u64 (T.W : Nat), .bool T.F, .string T.S, .slice aT nT cT, .slice aL nL cL, .slice aD nD cD]) _
              generalize (w8.alloc (.cells z7 52)).setRow w8.heap.size #[.int .i64 T.N, .int .u64 (T.W : Nat), .bool T.F, .string T.S, .slice aT nT cT, .slice aL nL cL, .slice aD nD cD] = w9 at *
              have HRb := hide (rd_out2 (ownsRow_keepB HO8.out HB9.out) HF7.out.1 (by omega))
              refine (NewReader_any ab bs.length cb bs _ HRb.out.1 HRb.out.2).mono ?_
              rintro e w10 ⟨y, rfl, hr10, hge10, hb10⟩
              rw [show newR bs = ⟨bs, 0, 0⟩ from if_pos hbl] at hr10
              have hG9 : w8.heap.size < w9.heap.size := (Array.getElem?_eq_some_iff.1 HX9.out).1
              have hyr : r < y := by have := HB9.out.size; omega
              have hyG : ¬ w8.heap.size = y := by omega
              have hyw : w.heap.size ≤ y := by have := HB8.out.size; omega
              have HRy : Hid (Rr w10.drew y ⟨bs, 0, 0⟩) := hr10.below (Below.refl _ _).drew
              have HB10 : Hid (Below w8.heap.size w8 w10.drew) := (HB9.out.trans (hb10.mono HB9.out.size)).drew
              have HBd : Hid (Below w.heap.size w w10.drew) := HB8.out.trans (HB10.out.mono HB8.out.size)
              have HXd : Hid (w10.drew.heap[w8.heap.size]? = some (.cells #[.int .i64 T.N, .int .u64 (T.W : Nat), .bool T.F, .string T.S, .slice aT nT cT, .slice aL nL cL, .slice aD nD cD] 52 (0, 0))) := keepBlk HX9.out hb10.drew
              have HTDd := hide (HTD8.out.keep (Keep.ofBelow (S := fun _ => False) HB10.out (Nat.le_refl _)) (fun _ f => f.elim))
              have HRrd := hide (HR8.out.below HB10.out)
              have HSf : Hid (∀ W' : World, W'.heap[w8.heap.size]? = some (.cells #[.int .i64 T.N, .int .u64 (T.W : Nat), .bool T.F, .string T.S, .slice aT nT cT, .slice aL nL cL, .slice aD nD cD] 52 (0, 0)) → Below w.heap.size w W' → (fun W' : World => W'.cell? ⟨w8.heap.size, 0, none⟩ = some (.int .i64 T.N) ∧ W'.cell? ⟨w8.heap.size, 1, none⟩ = some (.int .u64 (T.W : Nat)) ∧ W'.cell? ⟨w8.heap.size, 2, none⟩ = some (.bool T.F) ∧ W'.cell? ⟨w8.heap.size, 3, none⟩ = some (.string T.S) ∧ W'.cell? ⟨w8.heap.size, 4, none⟩ = some (.slice aT nT cT) ∧ W'.cell? ⟨w8.heap.size, 5, none⟩ = some (.slice aL nL cL) ∧ W'.cell? ⟨w8.heap.size, 6, none⟩ = some (.slice aD nD cD) ∧ W'.cell? ⟨b, off + j * 11, none⟩ = some (.int .i64 x.wh) ∧ W'.cell? ⟨b, off + j * 11 + 1, none⟩ = some (.int .i64 x.le) ∧ W'.cell? ⟨b, off + j * 11 + 2, none⟩ = some (.int .i64 x.mo) ∧ W'.cell? ⟨b, off + j * 11 + 3, none⟩ = some (.int .i64 x.nn) ∧ W'.cell? ⟨b, off + j * 11 + 4, none⟩ = some (.int .u64 (x.X : Nat)) ∧ W'.cell? ⟨b, off + j * 11 + 5, none⟩ = some (.bool x.F) ∧ W'.cell? ⟨b, off + j * 11 + 6, none⟩ = some (.string x.st) ∧ W'.cell? ⟨b, off + j * 11 + 7, none⟩ = some (.slice x.aB x.nB x.cB) ∧ W'.cell? ⟨b, off + j * 11 + 8, none⟩ = some (.slice x.aL x.nL x.cL) ∧ W'.cell? ⟨b, off + j * 11 + 9, none⟩ = some (.slice x.aT x.nT x.cT) ∧ W'.cell? ⟨b, off + j * 11 + 10, none⟩ = some (.slice x.aD x.nD x.cD)) W') := fun W' k hb => ⟨(cells7 k).1, (cells7 k).2.1, (cells7 k).2.2.1, (cells7 k).2.2.2.1, (cells7 k).2.2.2.2.1, (cells7 k).2.2.2.2.2.1, (cells7 k).2.2.2.2.2.2, HRW.out W' hb 0 _ rfl, HRW.out W' hb 1 _ rfl, HRW.out W' hb 2 _ rfl, HRW.out W' hb 3 _ rfl, HRW.out W' hb 4 _ rfl, HRW.out W' hb 5 _ rfl, HRW.out W' hb 6 _ rfl, HRW.out W' hb 7 _ rfl, HRW.out W' hb 8 _ rfl, HRW.out W' hb 9 _ rfl, HRW.out W' hb 10 _ rfl⟩
              have HAl : Hid ((acc (qs.take (j + 1))).length = P.length + bs.length) := by show _ = _; rw [HA.out, List.length_append]
              clear hr10 hge10 hb10 HB9 HX9 HRb HO8 HTD8 HR8 HTG HI7 HO7' hG9 HT1 HI3
              go_upto_region 36 with fail
              go_region_held3 (fun W' : World => W'.cell? ⟨w8.heap.size, 0, none⟩ = some (.int .i64 T.N) ∧ W'.cell? ⟨w8.heap.size, 1, none⟩ = some (.int .u64 (T.W : Nat)) ∧ W'.cell? ⟨w8.heap.size, 2, none⟩ = some (.bool T.F) ∧ W'.cell? ⟨w8.heap.size, 3, none⟩ = some (.string T.S) ∧ W'.cell? ⟨w8.heap.size, 4, none⟩ = some (.slice aT nT cT) ∧ W'.cell? ⟨w8.heap.size, 5, none⟩ = some (.slice aL nL cL) ∧ W'.cell? ⟨w8.heap.size, 6, none⟩ = some (.slice aD nD cD) ∧ W'.cell? ⟨b, off + j * 11, none⟩ = some (.int .i64 x.wh) ∧ W'.cell? ⟨b, off + j * 11 + 1, none⟩ = some (.int .i64 x.le) ∧ W'.cell? ⟨b, off + j * 11 + 2, none⟩ = some (.int .i64 x.mo) ∧ W'.cell? ⟨b, off + j * 11 + 3, none⟩ = some (.int .i64 x.nn) ∧ W'.cell? ⟨b, off + j * 11 + 4, none⟩ = some (.int .u64 (x.X : Nat)) ∧ W'.cell? ⟨b, off + j * 11 + 5, none⟩ = some (.bool x.F) ∧ W'.cell? ⟨b, off + j * 11 + 6, none⟩ = some (.string x.st) ∧ W'.cell? ⟨b, off + j * 11 + 7, none⟩ = some (.slice x.aB x.nB x.cB) ∧ W'.cell? ⟨b, off + j * 11 + 8, none⟩ = some (.slice x.aL x.nL x.cL) ∧ W'.cell? ⟨b, off + j * 11 + 9, none⟩ = some (.slice x.aT x.nT x.cT) ∧ W'.cell? ⟨b, off + j * 11 + 10, none⟩ = some (.slice x.aD x.nD x.cD)) (first | (exact HSf.out _ HXd.out HBd.out) | (exact HSf.out _ HX12.out HB12.out) | (exact HSf.out _ HX11.out HB11.out) | go_keep) (first
                | (go_at_call 23; refine (same_any _ v11 T _ HTD811.out HTD11.out).mono ?_; rintro e w12 ⟨rfl, hb12⟩; have HB12 := hide (HB11.out.trans (hb12.mono HB11.out.size)); have HX12 := hide (keepBlk HX11.out hb12); have HRr12 := hide (HRr11.out.below hb12); clear hb12)
                | (go_at_call 21; refine (HTk.out y ⟨bs, 0, 0⟩ _ HRy.out).mono ?_; rintro e w11 ⟨v11, rfl, htd11, hr11, hk11⟩; rw [HT2.out.2] at htd11; have HTD11 := hide htd11; have HTD811 := hide (HTDd.out.keep hk11 (fun k e _ => by rw [e]; exact Rr.isR HRy.out)); have HB11 := hide (HBd.out.trans (hk11.below HBd.out.size fun k e => by rw [e]; exact hyw)); have HX11 := hide (hk11.blk HXd.out hyG); have HRr11 := hide (HRrd.out.stay hk11 (fun k hk e => by have : k = y := e; omega)); clear htd11 hr11 hk11)
                | (go_at_call 18; refine (err_any r _ _ HRr12.out).mono ?_; rintro e w13 ⟨rfl, rfl⟩))
              go_wp2_with fail
              exact ⟨⟨j + 1, by go_num, by omega, by rw [HAl.out]; exact ⟨HRr12.out, HB12.out⟩⟩, by simp [intOf]; omega⟩
            · have HA : Hid (acc (qs.take (j + 1)) = P) := by
                show _ = _
                by_cases h1 : P.length + bs.length ≤ 16777216
                · exfalso
                  have h2 := HTl2.out
                  rw [HA1.out h1] at h2
                  have h3 := congrArg List.length h2
                  rw [List.length_append, List.length_append] at h3
                  omega
                · exact HA0.out h1
              have hfit' : (L.length : Int) < (P.length : Int) + (bs.length : Int) := by omega
              clear HA1 HA0 HTl HTl2
              go_wp2_with (go_at_call 17; refine (at_any r _ _ HR7.out).mono ?_; rintro e w8 ⟨rfl, rfl⟩)
              exact ⟨⟨j + 1, by go_num, by omega, by rw [HA.out]; exact ⟨HR7.out, HB7.out⟩⟩, by simp [intOf]; omega⟩
          · have HA : Hid (acc (qs.take (j + 1)) = P) := by show _ = _; rw [HR.out]; exact acc1_no fun h2 => hz h2.1
            have hne : (((x.eff s00).fault : Int) != 0) = true := by simp only [bne_iff_ne, ne_eq]; omega
            have ht : told (x.eff s00) = [] := if_neg hz
            rw [ht]
            clear hz ht HTl HTl2
            generalize (x.eff s00).fault = ft at *
            go_wp2_with fail
            exact ⟨⟨j + 1, by go_num, by omega, by rw [HA.out]; exact ⟨HR7.out, HB7.out⟩⟩, by simp [intOf]; omega⟩
        · obtain rfl : j = i := by omega
          have HRe := hide HD.out.1
          rw [HAw.out] at HRe
          have HBe := hide HD.out.2
          clear HD
          go_wp2_with fail
          refine (End_any r _ _ HRe.out).mono ?_
          rintro e w5 ⟨rfl, hb5⟩
          have he : endR ⟨L, L.length, 0⟩ = 0 := by unfold endR; rw [if_neg (by simp)]
          rw [he]
          have HE5 := hide (HBe.out.trans (hb5.mono HBe.out.size))
          clear hb5
          go_wp2_with fail
          go_ret
          exact ⟨by simp, HE5.out⟩
end Wm
end Go.Proofs.YtinhpanpjamjlaaGreat

/- PackParts: the row. -/
namespace Go.Proofs.YtinhpanpjamjlaaGreat
open Go.ChangeShapes Go.WideShapes Go.ChangeAt Go.RowKit Go.Joins

namespace PackParts
set_option maxRecDepth 100000 in
theorem lifted (os : Os) (started : os.Started) (H : Type) (enc : TypeId × Value → H) :
    ReturnsInHanded {} Tryz.checked os 5 .any (Rows.packPartsSpec.pre6 enc Tryz.prog Tryz.f5 Rows.packPartsRow.domain false) (Rows.packPartsSpec.post enc Tryz.prog Tryz.f5 false true false false) := by
  refine returnsInHanded_of_change_sized (C := Tryz.checked) own started (by kernel_rfl) Tryz.func5
    (ChangeSpec.witness6 (enc := enc) (C := Tryz.checked) false ⟨#[], #[.slice none 0 0], []⟩ 8 (by kernel_rfl) (by kernel_rfl) (by kernel_rfl) (by kernel_rfl)) ?_
  intro W base args ds gs before hval0 hW _ hsz0 _
  have hsz : (DataW.weightsEach Tryz.prog (Tryz.f5.params.toList ++ Rows.packPartsSpec.plain.varTypes Tryz.prog) (ds ++ gs)).all (· ≤ reachBytes) = true := hsz0
  have hval : ∀ (j : Nat) t v, Tryz.f5.params[j]? = some t → args[j]? = some v → Value.okWide Tryz.prog W .any base t v := hval0
  have hW' := hW
  obtain ⟨p, q, hA0, hV, rfl, hfz, hnd⟩ := hW
  have hA : DataW.TrodAll enc Tryz.prog W 0 (fun _ => true) true Tryz.f5.params.toList args.toList ds p := hA0
  rw [Tryz.params5] at hA hval hsz
  obtain ⟨v1, d1, rfl, rfl, h1⟩ := trodAll_one hA
  obtain ⟨rfl, rfl⟩ := trodVars_none hV
  have lt1 : ∀ x ∈ p, x.block < W.heap.size := by obtain ⟨m, hm⟩ := h1; exact DataW.trod_lt m _ _ _ hm
  obtain ⟨a1, n1, c1, rfl⟩ := okWide_slice Tryz.underlying22 (hval 0 22 v1 rfl rfl)
  obtain ⟨qs, hqs, hmo⟩ := Wm.open_steps2 h1 (weigh hsz (j := 0) rfl rfl)
  clear hA0 hval0
  refine (Wm.parts_walk a1 n1 c1 qs W hqs hmo).mono fun e W' ⟨he, bel⟩ => ?_
  subst he
  exact ⟨_, rfl, _, _, _, [], _, [], hW', trodAll_mk1 (shut_bool Tryz.underlying4 _), trodAll_mk1 (Below.trod laidOut (by kernel_rfl) (of_decide_eq_true (by kernel_rfl)) h1 bel lt1), rfl, bel.frame _, fun h => by cases h⟩

theorem over : Rows.packPartsRow.holds Tryz.pinned (OpenSpec.ofChange Rows.packPartsSpec) :=
  OpenClaim.holds_of_wide 5 Tryz.f5 rfl rfl rfl rfl rfl rfl rfl ⟨rfl, rfl, rfl, rfl, rfl⟩ rfl rfl rfl rfl rfl (by kernel_rfl) Tryz.func5 (by kernel_rfl)
    (of_decide_eq_true (by kernel_rfl)) (by unfold Func.isWrapper; first | (rw [if_pos (by decide +kernel)]; kernel_rfl) | (rw [if_neg (by decide +kernel)]; exact ⟨rfl, rfl⟩))
    (fun os started H enc _ => lifted os started H enc)
end PackParts

theorem packParts_holds : Rows.PackPartsSaid := PackParts.over
#print axioms packParts_holds
end Go.Proofs.YtinhpanpjamjlaaGreat
