/- Codec: a list of nodes put: putAll, Lists. -/
import Derived.Test.YtbjcckfhfbjchaaGreatCDs
import Derived.Test.YtbjcckfhfbjchaaGreatPRow
import Derived.Test.YtbjcckfhfbjchaaGreatGBase
namespace Go.Proofs.YtbjcckfhfbjchaaGreat
namespace Cd
open Go.RowKit Go.Deep

/-- nodes that can be read, in blocks of D -/
def ElsN (D : Nat → Prop) (w : World) (a : Option Addr) (n : Nat) (qs : List Gr.Nd) : Prop :=
  n = qs.length ∧ n ≤ 16777216 ∧ (n = 0 ∨ ∃ b off, a = some ⟨b, off, none⟩ ∧ D b ∧ ∀ i q, qs[i]? = some q → w.rangeAt b (off + i * 10) q.row)
set_option maxRecDepth 10000 in
set_option maxHeartbeats 2000000 in
theorem putAllNd (D S : Nat → Prop) (wf w0 : World) (p : Nat) (fn1 fn2 : FuncId) (cap1 cap2 : Array Value) (a : Option Addr) (n c : Nat) (qs : List Gr.Nd) (fs : List (K.WS → K.WS)) (s : K.WS) (w : World)
    (ha : Agree D wf w0) (hd : ∀ k, D k → ¬ S k) (h : WAt S w0 p s w) (he : ElsN D wf a n qs) (hl : fs.length = n) (hp : ∀ (i : Nat) q f, qs[i]? = some q → fs[i]? = some f → PutsG D wf fn1 cap1 (.agg q.row.toArray) f)
    (hc : ∀ args w, (callFunc fn1 args).run Tryz.prog w = .ok (.enter fn1 args) w) :
    Calls Tryz.prog 116 #[.pointer (some ⟨p, 0, none⟩), .agg #[.func (.func fn1) #[] cap1, .func (.func fn2) #[] cap2], .slice a n c] w fun en w' => en = .returned (.tuple #[]) ∧ WAt S w0 p (allW fs s) w' := by
  have HA := hide ha
  have HD := hide hd
  have HE := hide he
  have HL := hide hl
  have HP := hide hp
  have HC := hide hc
  have hn := he.2.1
  have hba := (Below.refl w.heap.size w).alloc (Nat.le_refl _) (.cells #[.func (.func fn1) #[] cap1, .func (.func fn2) #[] cap2] 119)
  have HH := hide (h.below hba)
  have HX := hide (heap_alloc_new w (.cells #[.func (.func fn1) #[] cap1, .func (.func fn2) #[] cap2] 119))
  clear ha hd he hl hp hc h hba
  go_enter Tryz.func116, Tryz.ntmps116
  go_wp2
  generalize w.alloc (.cells #[.func (.func fn1) #[] cap1, .func (.func fn2) #[] cap2] 119) = wa at *
  generalize w.heap.size = bx at *
  go_loopw [11] (fun i wx => ∃ k : Nat, k ≤ n ∧ i = .int .i64 (k : Nat) ∧ WAt S w0 p (allW (fs.take k) s) wx ∧ wx.heap[bx]? = some (.cells #[.func (.func fn1) #[] cap1, .func (.func fn2) #[] cap2] 119 (0, 0))) (fun i _ => n - (intOf i).toNat)
  case atStart => exact ⟨0, Nat.zero_le _, rfl, HH.out, HX.out⟩
  case round =>
    obtain ⟨k, hk, rfl, hw, hbx⟩ := hrel
    have HW := hide hw
    have HBX := hide hbx
    clear hw hbx
    by_cases hlt : k < n
    · obtain ⟨f, hf⟩ : ∃ f, fs[k]? = some f := ⟨_, List.getElem?_eq_getElem (by have := HL.out; omega)⟩
      obtain ⟨x, hx⟩ : ∃ x, qs[k]? = some x := ⟨_, List.getElem?_eq_getElem (by have := HE.out.1; omega)⟩
      have HAG := hide (HA.out.keep HW.out.keep HD.out)
      obtain ⟨b, off, rfl, hrow⟩ : ∃ b off, a = some ⟨b, off, none⟩ ∧ wr.rangeAt b (off + k * 10) x.row := by
        rcases HE.out.2.2 with h0 | ⟨b, off, rfl, db, hr⟩
        · omega
        · exact ⟨b, off, rfl, fun j u hu => HAG.out.cell (hr k x hx j u hu) db⟩
      have hpf := HP.out k x f hx hf
      have HSC := hide (allW_succ fs k f hf s)
      have HST := hide (allW_stop fs k s)
      obtain ⟨nm, la, bu, cl, be, ba, ca, ji, ⟨x1, x2, x3⟩, ⟨y1, y2, y3⟩⟩ := x
      have HPF : Hid (PutsG D wf fn1 cap1 (.agg #[.string nm, .int .i64 la, .int .i64 bu, .int .i64 cl, .int .i64 be, .int .i64 ba, .int .i64 ca, .int .i64 ji, .slice x1 x2 x3, .slice y1 y2 y3]) f) := hpf
      have HRW : Hid (wr.rangeAt b (off + k * 10) [.string nm, .int .i64 la, .int .i64 bu, .int .i64 cl, .int .i64 be, .int .i64 ba, .int .i64 ca, .int .i64 ji, .slice x1 x2 x3, .slice y1 y2 y3]) := hrow
      have HI : Hid ((Tryz.prog.info? 57).map (·.size) = some (#[.string nm, .int .i64 la, .int .i64 bu, .int .i64 cl, .int .i64 be, .int .i64 ba, .int .i64 ca, .int .i64 ji, .slice x1 x2 x3, .slice y1 y2 y3] : Array Value).size) := sizeNd
      have HO1 := hide (onesNd nm la bu cl be ba ca ji x1 x2 x3 y1 y2 y3)
      have HIF : Hid ((Tryz.prog.info? 119).map (·.size) = some (#[.func (.func fn1) #[] cap1, .func (.func fn2) #[] cap2] : Array Value).size) := by show _ = _; kernel_rfl
      clear hf hx hrow hpf
      have HA0 := hide (heap_alloc_new wr (.cells #[.string ⟨#[]⟩, .int .i64 0, .int .i64 0, .int .i64 0, .int .i64 0, .int .i64 0, .int .i64 0, .int .i64 0, .slice none 0 0, .slice none 0 0] 57))
      have hx5 := setRow_heap (wr.alloc (.cells #[.string ⟨#[]⟩, .int .i64 0, .int .i64 0, .int .i64 0, .int .i64 0, .int .i64 0, .int .i64 0, .int .i64 0, .slice none 0 0, .slice none 0 0] 57)) wr.heap.size _ #[.string nm, .int .i64 la, .int .i64 bu, .int .i64 cl, .int .i64 be, .int .i64 ba, .int .i64 ca, .int .i64 ji, .slice x1 x2 x3, .slice y1 y2 y3] _ _ HA0.out
      have hb5 : Below wr.heap.size wr ((wr.alloc (.cells #[.string ⟨#[]⟩, .int .i64 0, .int .i64 0, .int .i64 0, .int .i64 0, .int .i64 0, .int .i64 0, .int .i64 0, .slice none 0 0, .slice none 0 0] 57)).setRow wr.heap.size #[.string nm, .int .i64 la, .int .i64 bu, .int .i64 cl, .int .i64 be, .int .i64 ba, .int .i64 ca, .int .i64 ji, .slice x1 x2 x3, .slice y1 y2 y3]) :=
        ((Below.refl _ _).alloc (Nat.le_refl _) _).trans ((keep_row _ _ _).below (by simp) fun k e => by rw [e]; exact Nat.le_refl _)
      have HX5 := hide hx5
      have HB5 := hide hb5
      clear hx5 hb5
      go_upto_region 4 with (first
        | (refine wpList_load_mid rfl 57 _ rfl b (off + k * 10) rfl [.string nm, .int .i64 la, .int .i64 bu, .int .i64 cl, .int .i64 be, .int .i64 ba, .int .i64 ca, .int .i64 ji, .slice x1 x2 x3, .slice y1 y2 y3] _ HRW.out Tryz.underlying57 rfl HI.out ?_)
        | (refine wpList_store_row rfl 57 _ _ rfl wr.heap.size #[.string nm, .int .i64 la, .int .i64 bu, .int .i64 cl, .int .i64 be, .int .i64 ba, .int .i64 ca, .int .i64 ji, .slice x1 x2 x3, .slice y1 y2 y3] rfl rfl 57 _ HA0.out HI.out rfl HO1.out ?_))
      change Code.wp _ _ _ _ ((wr.alloc (.cells #[.string ⟨#[]⟩, .int .i64 0, .int .i64 0, .int .i64 0, .int .i64 0, .int .i64 0, .int .i64 0, .int .i64 0, .slice none 0 0, .slice none 0 0] 57)).setRow wr.heap.size #[.string nm, .int .i64 la, .int .i64 bu, .int .i64 cl, .int .i64 be, .int .i64 ba, .int .i64 ca, .int .i64 ji, .slice x1 x2 x3, .slice y1 y2 y3])
      generalize (wr.alloc (.cells #[.string ⟨#[]⟩, .int .i64 0, .int .i64 0, .int .i64 0, .int .i64 0, .int .i64 0, .int .i64 0, .int .i64 0, .slice none 0 0, .slice none 0 0] 57)).setRow wr.heap.size #[.string nm, .int .i64 la, .int .i64 bu, .int .i64 cl, .int .i64 be, .int .i64 ba, .int .i64 ca, .int .i64 ji, .slice x1 x2 x3, .slice y1 y2 y3] = W5 at *
      have HW5 := hide (HW.out.below HB5.out)
      have HAG5 := hide (HA.out.keep HW5.out.keep HD.out)
      have HF5 := hide (blkB HBX.out HB5.out)
      generalize wr.heap.size = tb at *
      clear HW HAG HBX HRW HA0 HB5
      obtain ⟨v, hv, hw2, hs⟩ := HW5.out.rebase
      obtain ⟨av, cv, rfl, _⟩ := ownsRow_rd hv.row hv.byt (by have := hv.len; have := hv.top; omega)
      have c0 := cell0 hv.blk
      have c2 := cell2 hv.blk
      obtain ⟨e0, e1⟩ := cells2 HF5.out
      have HV := hide hv
      have HW2 := hide hw2
      have HS := hide hs
      clear hv hw2 hs
      generalize hsk : allW (fs.take k) s = sk at *
      clear hsk
      by_cases hz : sk.fault = 0
      · have HZ := hide hz
        have c2' : W5.cell? ⟨p, 2, none⟩ = some (.int .i64 0) := by rw [c2, hz]; rfl
        clear c2 hz
        have HTW : Hid (thingW f sk = if (f sk).laid.length = sk.laid.length then (f sk).fail 22 else f sk) := by show _ = _; unfold thingW; rw [if_pos HZ.out]
        have HPU := hide (PutNd (Wset p (.slice av sk.laid.length cv)) W5 p fn1 fn2 cap1 cap2 nm la bu cl be ba ca ji x1 x2 x3 y1 y2 y3 f sk _ HW2.out (HPF.out p _ W5 HAG5.out (disjoint_step HA.out HD.out HS.out)) HC.out)
        go_upto_region 7 with (first
          | (refine wpList_load_row rfl 57 _ rfl tb rfl 57 #[.string nm, .int .i64 la, .int .i64 bu, .int .i64 cl, .int .i64 be, .int .i64 ba, .int .i64 ca, .int .i64 ji, .slice x1 x2 x3, .slice y1 y2 y3] (0, 0) _ HX5.out Tryz.underlying57 rfl HI.out ?_)
          | (go_at_call 160; refine HPU.out.mono ?_; rintro e w2 ⟨rfl, h2⟩))
        rw [putW_zero HZ.out] at h2
        have HBX2 := hide (h2.keep.blk HF5.out (HV.out.not HF5.out (by decide) (by decide)))
        have H3 := hide (HW5.out.step HS.out h2)
        obtain ⟨v2, hv2, hw3, hs3⟩ := H3.out.rebase
        obtain ⟨a2, cc2, rfl, _⟩ := ownsRow_rd hv2.row hv2.byt (by have := hv2.len; have := hv2.top; omega)
        have d0 := cell0 hv2.blk
        have HV2 := hide hv2
        have HW3 := hide hw3
        have HS3 := hide hs3
        have hl2 : (f sk).laid.length ≤ 16777216 := Nat.le_trans hv2.len hv2.top
        have hl1 : sk.laid.length ≤ 16777216 := Nat.le_trans HV.out.len HV.out.top
        clear h2 hv2 hw3 hs3 HPU c0 c2' e0 e1
        by_cases hq : (f sk).laid.length = sk.laid.length
        · have hqq : (((f sk).laid.length : Int) == (sk.laid.length : Int)) = true := by rw [hq]; exact beq_self_eq_true _
          have HQ := hide hq
          clear hq
          go_wp2_with fail
          refine (Fail_any (Wset p (.slice a2 (f sk).laid.length cc2)) w2 p (f sk) _ HW3.out).mono ?_
          rintro e w3 ⟨rfl, h4⟩
          have HBX3 := hide (h4.keep.blk HBX2.out (HV2.out.not HBX2.out (by decide) (by decide)))
          have H4 := hide (H3.out.step HS3.out h4)
          clear h4
          go_wp2
          refine ⟨⟨k + 1, by omega, by go_num, ?_, HBX3.out⟩, by simp [intOf]; omega⟩
          rw [HSC.out, HTW.out, if_pos HQ.out]
          exact H4.out
        · have hqq : (((f sk).laid.length : Int) == (sk.laid.length : Int)) = false := by rw [beq_eq_false_iff_ne]; omega
          have HQ := hide hq
          clear hq
          go_wp2
          refine ⟨⟨k + 1, by omega, by go_num, ?_, HBX2.out⟩, by simp [intOf]; omega⟩
          rw [HSC.out, HTW.out, if_neg HQ.out]
          exact H3.out
      · have hzz : (((sk.fault : Nat) : Int) == 0) = false := by simpa using hz
        have HZ := hide hz
        clear hz
        go_wp2
        first | go_end0 | refine bodyPost_ret (results_none rfl _ _ _) rfl ?_
        refine ⟨rfl, ?_⟩
        rw [HST.out HZ.out]
        exact HW5.out
    · go_wp2
      go_end0
      refine ⟨rfl, ?_⟩
      have := HW.out
      rw [List.take_of_length_le (by have := HL.out; omega)] at this
      exact this
set_option maxRecDepth 10000 in
theorem putListNd (D S : Nat → Prop) (wf w0 : World) (p m o : Nat) (most : Int) (fn1 fn2 : FuncId) (cap1 cap2 : Array Value) (a : Option Addr) (n c : Nat) (vs : List Gr.Nd) (fs : List (K.WS → K.WS)) (s : K.WS) (w : World)
    (ha : Agree D wf w0) (hd : ∀ k, D k → ¬ S k) (h : WAt S w0 p s w) (he : ElsN D wf a n vs) (hl : fs.length = n) (hp : ∀ (i : Nat) q f, vs[i]? = some q → fs[i]? = some f → PutsG D wf fn1 cap1 (.agg q.row.toArray) f)
    (hc : ∀ args w, (callFunc fn1 args).run Tryz.prog w = .ok (.enter fn1 args) w) (dm : D m) (dO : D o) (hm : wf.cell? ⟨m, 0, none⟩ = some (.int .i64 most)) (ho : wf.heap[o]? = some (.cells #[.func (.func fn1) #[] cap1, .func (.func fn2) #[] cap2] 119 (0, 0))) :
    Calls Tryz.prog 114 #[.pointer (some ⟨p, 0, none⟩), .slice a n c, .pointer (some ⟨m, 0, none⟩), .pointer (some ⟨o, 0, none⟩)] w fun en w' => en = .returned (.tuple #[]) ∧ WAt S w0 p (listW most fs s) w' := by
  have hag := ha.keep h.keep hd
  have hm' := hag.cell hm dm
  have HO := hide ho
  have HA := hide ha
  have HD := hide hd
  have HE := hide he
  have HL := hide hl
  have HP := hide hp
  have HC := hide hc
  have HH := hide h
  have HDO := hide dO
  have hn := he.2.1
  clear ha hd he hl hp hc h hm ho hag dm dO
  generalize hs' : listW most fs s = s'
  have HS := hide hs'
  clear hs'
  by_cases hb : most < (n : Int)
  · have HS' : Hid (s.fail 20 = s') := by show _ = _; rw [← HS.out]; unfold listW; rw [if_pos (by rw [HL.out]; exact hb)]
    go_enter Tryz.func114, Tryz.ntmps114
    go_wp2_with fail
    refine (fail_any S w0 p s 20 (by decide) _ HH.out).mono ?_
    rintro e w1 ⟨rfl, h1⟩
    rw [HS'.out] at h1
    go_wp2
    first | go_end0 | refine bodyPost_ret (results_none rfl _ _ _) rfl ?_
    exact ⟨rfl, h1⟩
  · have HS' : Hid (allW fs (s.lay (K.num n)) = s') := by show _ = _; rw [← HS.out]; unfold listW; rw [if_neg (by rw [HL.out]; exact hb), HL.out]
    go_enter Tryz.func114, Tryz.ntmps114
    go_wp2_with fail
    refine (numberBytes_any n (by omega) _).mono ?_
    rintro e w1 ⟨ah, ch, rfl, hrh, h0h, hb1⟩
    have HRH := hide hrh
    have H0H := hide h0h
    have HH1 := hide (HH.out.below hb1)
    clear hrh h0h hb1
    go_wp2_with fail
    refine (lay_any S w0 p s ah _ ch _ _ HH1.out HRH.out H0H.out).mono ?_
    rintro e w2 ⟨rfl, h2⟩
    have hbo := (HA.out.keep h2.keep HD.out o HDO.out).2.trans HO.out
    have e0 : w2.cell? ⟨o, 0, none⟩ = some (.func (.func fn1) #[] cap1) := by rw [cell_of_row _ _ _ _ _ _ hbo]; rfl
    have e1 : w2.cell? ⟨o, 1, none⟩ = some (.func (.func fn2) #[] cap2) := by rw [cell_of_row _ _ _ _ _ _ hbo]; rfl
    have H2 := hide h2
    clear h2 hbo
    go_wp2_with fail
    refine (putAllNd D S wf w0 p fn1 fn2 cap1 cap2 a n c vs fs _ _ HA.out HD.out H2.out HE.out HL.out HP.out HC.out).mono ?_
    rintro e w3 ⟨rfl, h3⟩
    rw [HS'.out] at h3
    go_wp2
    go_end0
    exact ⟨rfl, h3⟩
theorem ent_putListNd (args : Array Value) (w : World) : (callFunc 114 args).run Tryz.prog w = .ok (.enter 114 args) w :=
  callFunc_enter Tryz.func114 (by kernel_rfl) (by kernel_rfl) args w
theorem putsListNd (D : Nat → Prop) (wf : World) (m o : Nat) (most : Int) (fn1 fn2 : FuncId) (cap1 cap2 : Array Value) (a : Option Addr) (n c : Nat) (vs : List Gr.Nd) (fs : List (K.WS → K.WS))
    (he : ElsN D wf a n vs) (hl : fs.length = n) (hp : ∀ (i : Nat) q f, vs[i]? = some q → fs[i]? = some f → PutsG D wf fn1 cap1 (.agg q.row.toArray) f)
    (hc : ∀ args w, (callFunc fn1 args).run Tryz.prog w = .ok (.enter fn1 args) w) (dm : D m) (dO : D o) (hm : wf.cell? ⟨m, 0, none⟩ = some (.int .i64 most)) (ho : wf.heap[o]? = some (.cells #[.func (.func fn1) #[] cap1, .func (.func fn2) #[] cap2] 119 (0, 0))) :
    PutsG D wf 114 #[.pointer (some ⟨m, 0, none⟩), .pointer (some ⟨o, 0, none⟩)] (.slice a n c) (listW most fs) :=
  fun p S w1 ha hd w2 s h _ => putListNd D S wf w1 p m o most fn1 fn2 cap1 cap2 a n c vs fs s w2 ha hd h he hl hp hc dm dO hm ho
end Cd
end Go.Proofs.YtbjcckfhfbjchaaGreat
