/- Codec: the laws' planOf, walked (written by cgp_gen.py). -/
import Derived.Test.YtbjcckfhfbjchaaGreatCGo
import Derived.Great.BuildSlice
import Derived.Deep.Cut
namespace Go.Proofs.YtbjcckfhfbjchaaGreat
namespace Cd
open Go.RowKit Go.Deep

theorem wp_build_nd {w : World} {ops : Array Oper} {rest : List Oper} {o : Oper} {a : Act} {Q : Exit → Act → World → Prop} (hgd : o.guard = none) (t : Tmp) (ho : o.op = Op.buildSlice 28 1 #[(0, .tmp t)]) (x0 x1 x2 x3 x4 x5 x6 x7 x8 x9 : Value) (hx : a.tmps[t]?.getD undef = .agg #[x0, x1, x2, x3, x4, x5, x6, x7, x8, x9])
    (h : wpList Tryz.prog ops Q rest (a.put o.dst (.slice (some ⟨w.heap.size, 0, none⟩) 1 1)) (w.alloc (.cells #[x0, x1, x2, x3, x4, x5, x6, x7, x8, x9] 57))) : wpList Tryz.prog ops Q (o :: rest) a w := by
  refine wpList_plain hgd fun K hK => ?_
  have h2 := hK _ _ h
  clear hK h
  obtain ⟨d, op, ty, pos, af, gd⟩ := o
  simp only at ho hgd h2
  subst ho
  unfold Oper.wp
  go_simp
  exact h2
theorem NdV.cut2 {d : Nv} {w : World} {v : Value} (h : NdV d w v) : ∃ x0 x1 x2 x3 x4 x5 x6 x7 a1 n1 c1 a2 n2 c2, v = .agg #[.string x0, .int .i64 x1, .int .i64 x2, .int .i64 x3, .int .i64 x4, .int .i64 x5, .int .i64 x6, .int .i64 x7, .slice a1 n1 c1, .slice a2 n2 c2] ∧ n1 = d.1.2.length ∧ n2 = d.2.length := by
  obtain ⟨a1, n1, c1, a2, n2, c2, e, h1, h2⟩ := h
  exact ⟨_, _, _, _, _, _, _, _, a1, n1, c1, a2, n2, c2, e, h1.1, h2.1⟩
set_option maxRecDepth 100000 in
set_option maxHeartbeats 8000000 in
theorem planOf12_any (s : Option Addr × Nat × Nat) (rs : List Ra) (dl : Int) (B : Nat) (w : World) (h : RdA B w s rs) (hd : In64 dl) :
    Calls Tryz.prog 10 #[.slice s.1 s.2.1 s.2.2, .int .i64 dl] w fun e w' => ∃ v, e = .returned v ∧ PlV (plv rs dl) w' v ∧ Below w.heap.size w w' := by
  obtain ⟨a, n, c⟩ := s
  have HN : Hid (n = rs.length) := h.1
  have hn2 : n ≤ 1300000000000 := h.2.1
  have HR := hide h
  have CN : Hid (∀ W, Calls Tryz.prog 22 #[.int .i64 dl, .int .i64 3] W fun e w' => e = .returned (.string (str (nmv dl 3))) ∧ Below W.heap.size W w') := fun W => name12_any dl 3 (by decide) hd.1 hd.2 W
  have CD := hide (fun W => delay12_val dl 1 (by decide) (by decide) hd W)
  obtain ⟨NM, hNM⟩ : ∃ x, str (nmv dl 3) = x := ⟨_, rfl⟩
  obtain ⟨dv, hdv⟩ : ∃ x, 1 + pkk dl (1099511627777 - 1) = x := ⟨_, rfl⟩
  rw [hNM] at CN
  rw [hdv] at CD
  have FIN : Hid (∀ W ds xa xn xc, ds = (if pls rs (min rs.length 64) = [] then [litV] else pls rs (min rs.length 64)) → NsV ds W (.slice xa xn xc) → PlV (plv rs dl) W (.agg #[.string NM, .int .i64 dv, .slice xa xn xc])) := by
    intro W ds xa xn xc e hn
    refine ⟨xa, xn, xc, ?_, ?_⟩
    · show _ = Value.agg #[.string (str (nmv dl 3)), .int .i64 (1 + pkk dl 1099511627776), .slice xa xn xc]
      rw [hNM, show 1 + pkk dl 1099511627776 = dv from hdv]
    · show NsV (if pls rs (min rs.length 64) = [] then [litV] else pls rs (min rs.length 64)) W _
      rw [← e]
      exact hn
  have hx0 := heap_alloc_new w (.cells #[.string ⟨#[]⟩, .int .i64 0, .slice none 0 0] 30)
  have hb0 : Below w.heap.size w (w.alloc (.cells #[.string ⟨#[]⟩, .int .i64 0, .slice none 0 0] 30)) := (Below.refl _ _).alloc (Nat.le_refl _) _
  have HX0 := hide hx0
  have HB0 := hide hb0
  have HS0 := hide (blk_lt hx0)
  clear h hd hNM hdv hx0 hb0
  go_enter Tryz.func10, Tryz.ntmps10
  go_upto_region 1 with fail
  generalize w.alloc (.cells #[.string ⟨#[]⟩, .int .i64 0, .slice none 0 0] 30) = w0 at *
  go_upto_region 2 with (first
    | (go_at_call 23; refine (CD.out _).mono ?_; rintro e w' ⟨rfl, hw⟩; rw [hw]; clear hw w')
    | (go_at_call 22; refine (CN.out _).mono ?_; rintro e w2 ⟨rfl, hb2⟩))
  have hb3 : Below w2.heap.size w2 (w2.alloc (.cells #[.string NM, .int .i64 dv, .slice none 0 0] 30)) := (Below.refl _ _).alloc (Nat.le_refl _) _
  have hx3 := heap_alloc_new w2 (.cells #[.string NM, .int .i64 dv, .slice none 0 0] 30)
  have hb23 := hb2.trans (hb3.mono hb2.size)
  have HP0 : Hid (PQ w (w2.alloc (.cells #[.string NM, .int .i64 dv, .slice none 0 0] 30)) w.heap.size w2.heap.size (w2.alloc (.cells #[.string NM, .int .i64 dv, .slice none 0 0] 30)).heap.size NM dv [] [] (.slice none 0 0)) :=
    ⟨hx3, blkB HX0.out hb23, World.ownsRow_nil _ _ _ _, rfl, (fun i q d hq _ => by simp at hq), HB0.out.trans (hb23.mono HB0.out.size), Nat.le_refl _⟩
  have HDD : Hid (w2.heap.size < (w2.alloc (.cells #[.string NM, .int .i64 dv, .slice none 0 0] 30)).heap.size ∧ w.heap.size < (w2.alloc (.cells #[.string NM, .int .i64 dv, .slice none 0 0] 30)).heap.size ∧ w.heap.size ≠ w2.heap.size ∧ w.heap.size ≤ w2.heap.size) := by
    have := hb2.size
    have := HS0.out
    refine ⟨by simp, by simp; omega, by omega, by omega⟩
  clear hb2 hb3 hx3 hb23 HX0 HB0 CN CD
  generalize w2.alloc (.cells #[.string NM, .int .i64 dv, .slice none 0 0] 30) = w3 at *
  generalize w2.heap.size = pb at *
  generalize w3.heap.size = D at *
  go_upto_region 4 with fail
  go_loopw [6, 7] (fun rv kv wr => ∃ (k rm : Nat) (qs : List Gr.Nd) (x : Value), rv = .int .i64 (rm : Nat) ∧ kv = .int .i64 (k : Nat) ∧ k ≤ n ∧ k ≤ 64 ∧ rm ≤ 256 ∧ Hid (rm + esum (pls rs k) = 256 ∧ PQ w wr w.heap.size pb D NM dv (pls rs k) qs x)) (fun _ kv _ => n - (intOf kv).toNat)
  case atStart => exact ⟨0, 256, _, _, rfl, rfl, Nat.zero_le _, Nat.zero_le _, Nat.le_refl _, rfl, HP0.out⟩
  case round => as_aux_lemma =>
    clear HP0
    obtain ⟨k, rm, qs, x, rfl, rfl, hk, hk2, hrm, HD⟩ := hrel
    obtain ⟨xa, xc, rfl⟩ := ownsRow_shape HD.out.2.ox
    have HLQ : Hid (qs.length = (pls rs k).length) := HD.out.2.ln
    by_cases c1 : k < n
    · have c1' : (k : Int) < (n : Int) := by omega
      by_cases c2 : k < 64
      · have c2' : (k : Int) < 64 := by omega
        have hkr : k < rs.length := by have := HN.out; omega
        obtain ⟨r, hr⟩ : ∃ r, rs[k]? = some r := ⟨_, List.getElem?_eq_getElem hkr⟩
        obtain ⟨h3, h4⟩ := HR.out.2.2
        obtain ⟨g, off, ea, hg, hat⟩ := h3.resolve_left (by show ¬ n = 0; omega)
        have ea : a = some ⟨g, off, none⟩ := ea
        subst ea
        have kW := Keep.ofBelow (S := fun _ => False) HD.out.2.bl (Nat.le_refl _)
        have HA := hide (fun j v hv => kW.cell (hat k r hr j v hv) (fun f => f))
        have ND := hide (nodeL_any r (h4 r (List.mem_of_getElem? hr)).1 B k rm c2 hrm wr ((h4 r (List.mem_of_getElem? hr)).2.1.new kW) ((h4 r (List.mem_of_getElem? hr)).2.2.new kW))
        have HPS := hide (pls_succ hr)
        have HRM : Hid (rm = 256 - esum (pls rs k)) := by have := HD.out.1; show _ = _; omega
        rw [← HRM.out] at HPS
        have HRO : Hid ((ndv r k rm).1.2.length + (ndv r k rm).2.length ≤ rm) := eds_room _ _ _ _
        have HQL : Hid (qs.length ≤ 1000) := by have := HLQ.out; rw [pls_len rs k (by omega)] at this; show _ ≤ _; omega
        clear h3 h4 hat kW hr hkr hg
        obtain ⟨nv1, hnv⟩ : ∃ x, ndv r k rm = x := ⟨_, rfl⟩
        rw [hnv] at ND HPS HRO
        clear hnv
        obtain ⟨nm, la, bu, cl, be, ba, ca, ji, ne, af, nl, al⟩ := r
        have f0 : wr.cell? ⟨g, off + k * 10, none⟩ = some (.int .i64 nm) := HA.out 0 _ rfl
        have f1 : wr.cell? ⟨g, off + k * 10 + 1, none⟩ = some (.int .i64 la) := HA.out 1 _ rfl
        have f2 : wr.cell? ⟨g, off + k * 10 + 2, none⟩ = some (.int .i64 bu) := HA.out 2 _ rfl
        have f3 : wr.cell? ⟨g, off + k * 10 + 3, none⟩ = some (.int .i64 cl) := HA.out 3 _ rfl
        have f4 : wr.cell? ⟨g, off + k * 10 + 4, none⟩ = some (.int .i64 be) := HA.out 4 _ rfl
        have f5 : wr.cell? ⟨g, off + k * 10 + 5, none⟩ = some (.int .i64 ba) := HA.out 5 _ rfl
        have f6 : wr.cell? ⟨g, off + k * 10 + 6, none⟩ = some (.int .i64 ca) := HA.out 6 _ rfl
        have f7 : wr.cell? ⟨g, off + k * 10 + 7, none⟩ = some (.int .i64 ji) := HA.out 7 _ rfl
        have f8 : wr.cell? ⟨g, off + k * 10 + 8, none⟩ = some (.slice ne.1 ne.2.1 ne.2.2) := HA.out 8 _ rfl
        have f9 : wr.cell? ⟨g, off + k * 10 + 9, none⟩ = some (.slice af.1 af.2.1 af.2.2) := HA.out 9 _ rfl
        have ND2 : Hid (Calls Tryz.prog 24 #[.agg #[.int .i64 nm, .int .i64 la, .int .i64 bu, .int .i64 cl, .int .i64 be, .int .i64 ba, .int .i64 ca, .int .i64 ji, .slice ne.1 ne.2.1 ne.2.2, .slice af.1 af.2.1 af.2.2], .int .i64 (k : Int), .int .i64 (rm : Int)] wr fun e w' => ∃ v, e = .returned v ∧ NdV nv1 w' v ∧ Below wr.heap.size wr w') := ND.out
        clear ND
        go_upto_region 7 with (go_at_call 24; refine ND2.out.mono ?_; rintro e w4 ⟨v, rfl, hv, hb4⟩; obtain ⟨x0, x1, x2, x3, x4, x5, x6, x7, a1, n1, c1, a2, n2, c2, rfl, hn1, hn2⟩ := hv.cut2; have HN1 := hide hn1; have HN2 := hide hn2; clear hn1 hn2)
        clear f0 f1 f2 f3 f4 f5 f6 f7 f8 f9 ND2 HA
        have HV4 := hide hv
        have HP4 := hide (HD.out.2.bel hb4)
        have hba : Below w4.heap.size w4 (w4.alloc (.cells #[.string x0, .int .i64 x1, .int .i64 x2, .int .i64 x3, .int .i64 x4, .int .i64 x5, .int .i64 x6, .int .i64 x7, .slice a1 n1 c1, .slice a2 n2 c2] 57)) := (Below.refl _ _).alloc (Nat.le_refl _) _
        have HXn := hide (heap_alloc_new w4 (.cells #[.string x0, .int .i64 x1, .int .i64 x2, .int .i64 x3, .int .i64 x4, .int .i64 x5, .int .i64 x6, .int .i64 x7, .slice a1 n1 c1, .slice a2 n2 c2] 57))
        have HP5 := hide (HP4.out.bel hba)
        have HV5 := hide (HV4.out.bel hba)
        clear hv hb4 hba HV4 HP4
        generalize w4.alloc (.cells #[.string x0, .int .i64 x1, .int .i64 x2, .int .i64 x3, .int .i64 x4, .int .i64 x5, .int .i64 x6, .int .i64 x7, .slice a1 n1 c1, .slice a2 n2 c2] 57) = w5 at *
        generalize w4.heap.size = nb at *
        have hsz : n1 + n2 ≤ rm := by have := HRO.out; have := HN1.out; have := HN2.out; omega
        obtain ⟨q1, hq1⟩ : ∃ q, rm = n1 + q := ⟨rm - n1, by omega⟩
        obtain ⟨q2, hq2⟩ : ∃ q, q1 = n2 + q := ⟨q1 - n2, by omega⟩
        have s1 : (rm : Int) - (n1 : Int) = (q1 : Int) := by omega
        have s2 : (q1 : Int) - (n2 : Int) = (q2 : Int) := by omega
        have HQ1 := hide hq1
        have HQ2 := hide hq2
        have hq1b : q1 ≤ 256 := by omega
        have hq2b : q2 ≤ 256 := by omega
        clear hq1 hq2 hsz
        have m8 := cell_blk HXn.out 8 (v := .slice a1 n1 c1) rfl
        have m9 := cell_blk HXn.out 9 (v := .slice a2 n2 c2) rfl
        go_upto_region 8 with fail
        clear m8 m9 s1 s2
        have d2 := cell_blk HP5.out.blk 2 (v := .slice xa qs.length xc) rfl
        have HE := hide (heap_alloc_new w5 (.cells #[.string x0, .int .i64 x1, .int .i64 x2, .int .i64 x3, .int .i64 x4, .int .i64 x5, .int .i64 x6, .int .i64 x7, .slice a1 n1 c1, .slice a2 n2 c2] 57))
        have hba : Below w5.heap.size w5 (w5.alloc (.cells #[.string x0, .int .i64 x1, .int .i64 x2, .int .i64 x3, .int .i64 x4, .int .i64 x5, .int .i64 x6, .int .i64 x7, .slice a1 n1 c1, .slice a2 n2 c2] 57)) := (Below.refl _ _).alloc (Nat.le_refl _) _
        have HP6 := hide (HP5.out.bel hba)
        have HV6 : Hid (NdV nv1 (w5.alloc (.cells #[.string x0, .int .i64 x1, .int .i64 x2, .int .i64 x3, .int .i64 x4, .int .i64 x5, .int .i64 x6, .int .i64 x7, .slice a1 n1 c1, .slice a2 n2 c2] 57)) (.agg #[.string x0, .int .i64 x1, .int .i64 x2, .int .i64 x3, .int .i64 x4, .int .i64 x5, .int .i64 x6, .int .i64 x7, .slice a1 n1 c1, .slice a2 n2 c2])) := HV5.out.bel hba
        clear hba
        go_wp2_with (first
          | (refine wpList_load_row rfl 57 _ rfl nb rfl 57 #[.string x0, .int .i64 x1, .int .i64 x2, .int .i64 x3, .int .i64 x4, .int .i64 x5, .int .i64 x6, .int .i64 x7, .slice a1 n1 c1, .slice a2 n2 c2] (0, 0) _ HXn.out Tryz.underlying57 rfl sizeNd ?_)
          | (refine wp_build_nd rfl 42 rfl (.string x0) (.int .i64 x1) (.int .i64 x2) (.int .i64 x3) (.int .i64 x4) (.int .i64 x5) (.int .i64 x6) (.int .i64 x7) (.slice a1 n1 c1) (.slice a2 n2 c2) rfl ?_)
          | (at_builtin; refine wp_app_nd rfl _ _ rfl D (.slice xa qs.length xc) qs rfl HP6.out.ox w5.heap.size ⟨x0, x1, x2, x3, x4, x5, x6, x7, (a1, n1, c1), (a2, n2, c2)⟩ rfl HE.out HQL.out HP6.out.sz ?_; intro xa2 xc2 w6 ho6 hk6; have hb6 := hk6.blk HP6.out.blk (fun e => by have t1 := (own_lo HP6.out.ox e).1; have t2 := HDD.out.1; omega); have y2 := cell_blk hb6 2 (v := .slice xa qs.length xc) rfl; have z2 := frozen_blk hb6 2; have HN6 := hide (HP6.out.app (q := ⟨x0, x1, x2, x3, x4, x5, x6, x7, (a1, n1, c1), (a2, n2, c2)⟩) HV6.out ho6 hk6 HDD.out.1 HDD.out.2.1 HDD.out.2.2.1 HDD.out.2.2.2); clear ho6 hk6 hb6))
        clear d2 y2 z2
        go_roundw
        · refine ⟨k + 1, q2, qs ++ [⟨x0, x1, x2, x3, x4, x5, x6, x7, (a1, n1, c1), (a2, n2, c2)⟩], .slice xa2 (qs.length + 1) xc2, rfl, rfl, by omega, by omega, by omega, ?_, ?_⟩
          · rw [HPS.out, esum_snoc]
            have := HD.out.1
            have := HN1.out
            have := HN2.out
            have := HQ1.out
            have := HQ2.out
            omega
          · rw [HPS.out]
            exact HN6.out
        · show n - ((k : Int) + 1).toNat < n - (k : Int).toNat
          omega
      · have c2' : ¬ (k : Int) < 64 := by omega
        obtain ⟨m, hm⟩ : ∃ m, k = m := ⟨_, rfl⟩
        have HM : Hid (min rs.length 64 = m) := by have := HN.out; show _ = _; omega
        rw [hm] at HD
        clear hm
        by_cases c0 : qs.length = 0
        · have c0' : (((qs.length : Nat) : Int) == 0) = true := by simp [c0]
          have hds : pls rs m = [] := List.eq_nil_of_length_eq_zero (by have := HD.out.2.ln; omega)
          have HDS := hide hds
          have C0 := hide c0
          clear c0 hds
          have d2 := cell_blk HD.out.2.blk 2 (v := .slice xa qs.length xc) rfl
          go_upto_region 10 with fail
          clear d2 c0'
          go_upto_region 11 with (go_at_call 20; refine (little2_any _).mono ?_; rintro e w6 ⟨g6, rfl, hg6, hg7, hb6⟩; go_loud (have hP6 := hide (HD.out.2.bel hb6); have hfd : ∀ wx, (Instr.field 30 (.agg #[.string ⟨#[112]⟩, .int .i64 100, .slice (some ⟨g6, 0, none⟩) 1 1]) 2).run Tryz.prog wx = .ok (.slice (some ⟨g6, 0, none⟩) 1 1) wx := fun _ => by kernel_rfl); have q2 := cell_blk hP6.out.blk 2 (v := .slice xa qs.length xc) rfl; have p2 := frozen_blk hP6.out.blk 2)
          clear hfd
          have ks := keep_cell w6 pb 2 (.slice (some ⟨g6, 0, none⟩) 1 1)
          have HXb : Hid ((w6.setCell ⟨pb, 2, none⟩ (.slice (some ⟨g6, 0, none⟩) 1 1)).heap[pb]? = some (.cells #[.string NM, .int .i64 dv, .slice (some ⟨g6, 0, none⟩) 1 1] 30 (0, 0))) := set_blk hP6.out.blk 2 _
          have hwpb : wr.heap.size ≤ g6 := hg7
          have hpbr := blk_lt HD.out.2.blk
          have HXo := hide (ks.blk hP6.out.ob HDD.out.2.2.1)
          have HXg := hide (ks.blk hg6 fun e => by have e : g6 = pb := e; omega)
          have HB6 := hide (hP6.out.bl.trans (ks.below hP6.out.bl.size fun j e => by have e : j = pb := e; have := HDD.out; omega))
          clear ks hg6 hg7 hb6 hP6 hwpb hpbr
          generalize w6.setCell ⟨pb, 2, none⟩ (.slice (some ⟨g6, 0, none⟩) 1 1) = w7 at *
          have HO1 : Hid ((#[.string NM, .int .i64 dv, .slice (some ⟨g6, 0, none⟩) 1 1] : Array Value).all (·.oneCell') = true) := by show _ = _; simp [Value.oneCell']
          go_wp2_with (first
            | (refine wpList_load_row rfl 30 _ rfl pb rfl 30 #[.string NM, .int .i64 dv, .slice (some ⟨g6, 0, none⟩) 1 1] (0, 0) _ HXb.out Tryz.underlying30 rfl sizePn ?_)
            | (refine wpList_store_row rfl 30 _ _ rfl w.heap.size #[.string NM, .int .i64 dv, .slice (some ⟨g6, 0, none⟩) 1 1] rfl rfl 30 _ HXo.out sizePn rfl HO1.out ?_))
          have HX := hide (setRow_heap _ w.heap.size _ #[.string NM, .int .i64 dv, .slice (some ⟨g6, 0, none⟩) 1 1] _ _ HXo.out)
          have HK := hide (keep_row w7 w.heap.size #[.string NM, .int .i64 dv, .slice (some ⟨g6, 0, none⟩) 1 1])
          refine bodyPost_ret (resPn rfl _ _ w.heap.size _ rfl rfl HX.out) rfl ⟨_, rfl, ?_, HB6.out.trans (HK.out.below HB6.out.size fun j e => by have e : j = w.heap.size := e; omega)⟩
          have hg8 := HK.out.blk HXg.out fun e => by have e : g6 = w.heap.size := e; have := HXo.out; have h2 := HXg.out; rw [e, this] at h2; cases h2
          exact FIN.out _ [litV] _ _ _ (by rw [HM.out, if_pos HDS.out]) (lit_own hg8)
        · have c0' : (((qs.length : Nat) : Int) == 0) = false := by simpa using c0
          have C0 := hide c0
          clear c0
          have d2 := cell_blk HD.out.2.blk 2 (v := .slice xa qs.length xc) rfl
          go_upto_region 11 with fail
          clear d2 c0'
          have HXb := hide HD.out.2.blk
          have HXo := hide HD.out.2.ob
          have HB6 := hide HD.out.2.bl
          have HO1 : Hid ((#[.string NM, .int .i64 dv, .slice xa qs.length xc] : Array Value).all (·.oneCell') = true) := by show _ = _; simp [Value.oneCell']
          go_wp2_with (first
            | (refine wpList_load_row rfl 30 _ rfl pb rfl 30 #[.string NM, .int .i64 dv, .slice xa qs.length xc] (0, 0) _ HXb.out Tryz.underlying30 rfl sizePn ?_)
            | (refine wpList_store_row rfl 30 _ _ rfl w.heap.size #[.string NM, .int .i64 dv, .slice xa qs.length xc] rfl rfl 30 _ HXo.out sizePn rfl HO1.out ?_))
          have HX := hide (setRow_heap _ w.heap.size _ #[.string NM, .int .i64 dv, .slice xa qs.length xc] _ _ HXo.out)
          have HK := hide (keep_row wr w.heap.size #[.string NM, .int .i64 dv, .slice xa qs.length xc])
          refine bodyPost_ret (resPn rfl _ _ w.heap.size _ rfl rfl HX.out) rfl ⟨_, rfl, ?_, HB6.out.trans (HK.out.below HB6.out.size fun j e => by have e : j = w.heap.size := e; omega)⟩
          refine FIN.out _ (pls rs m) _ _ _ (by rw [HM.out, if_neg fun e => C0.out (by have := HD.out.2.ln; rw [e] at this; exact this)]) ⟨qs, HD.out.2.ln, ?_, fun i q d hq hd => (HD.out.2.nd i q d hq hd).keep HK.out fun j e => by have e : j = w.heap.size := e; subst e; exact ⟨_, _, HXo.out, .inr rfl⟩⟩
          rw [← HD.out.2.ln]
          exact ownsRow_base (own_keep HD.out.2.ox HK.out fun j e e2 => by have e : j = w.heap.size := e; have := (own_lo HD.out.2.ox e2).1; have := HDD.out; omega) (Nat.zero_le _)
    · have c1' : ¬ (k : Int) < (n : Int) := by omega
      obtain ⟨m, hm⟩ : ∃ m, k = m := ⟨_, rfl⟩
      have HM : Hid (min rs.length 64 = m) := by have := HN.out; show _ = _; omega
      rw [hm] at HD
      clear hm
      by_cases c0 : qs.length = 0
      · have c0' : (((qs.length : Nat) : Int) == 0) = true := by simp [c0]
        have hds : pls rs m = [] := List.eq_nil_of_length_eq_zero (by have := HD.out.2.ln; omega)
        have HDS := hide hds
        have C0 := hide c0
        clear c0 hds
        have d2 := cell_blk HD.out.2.blk 2 (v := .slice xa qs.length xc) rfl
        go_upto_region 10 with fail
        clear d2 c0'
        go_upto_region 11 with (go_at_call 20; refine (little2_any _).mono ?_; rintro e w6 ⟨g6, rfl, hg6, hg7, hb6⟩; go_loud (have hP6 := hide (HD.out.2.bel hb6); have hfd : ∀ wx, (Instr.field 30 (.agg #[.string ⟨#[112]⟩, .int .i64 100, .slice (some ⟨g6, 0, none⟩) 1 1]) 2).run Tryz.prog wx = .ok (.slice (some ⟨g6, 0, none⟩) 1 1) wx := fun _ => by kernel_rfl); have q2 := cell_blk hP6.out.blk 2 (v := .slice xa qs.length xc) rfl; have p2 := frozen_blk hP6.out.blk 2)
        clear hfd
        have ks := keep_cell w6 pb 2 (.slice (some ⟨g6, 0, none⟩) 1 1)
        have HXb : Hid ((w6.setCell ⟨pb, 2, none⟩ (.slice (some ⟨g6, 0, none⟩) 1 1)).heap[pb]? = some (.cells #[.string NM, .int .i64 dv, .slice (some ⟨g6, 0, none⟩) 1 1] 30 (0, 0))) := set_blk hP6.out.blk 2 _
        have hwpb : wr.heap.size ≤ g6 := hg7
        have hpbr := blk_lt HD.out.2.blk
        have HXo := hide (ks.blk hP6.out.ob HDD.out.2.2.1)
        have HXg := hide (ks.blk hg6 fun e => by have e : g6 = pb := e; omega)
        have HB6 := hide (hP6.out.bl.trans (ks.below hP6.out.bl.size fun j e => by have e : j = pb := e; have := HDD.out; omega))
        clear ks hg6 hg7 hb6 hP6 hwpb hpbr
        generalize w6.setCell ⟨pb, 2, none⟩ (.slice (some ⟨g6, 0, none⟩) 1 1) = w7 at *
        have HO1 : Hid ((#[.string NM, .int .i64 dv, .slice (some ⟨g6, 0, none⟩) 1 1] : Array Value).all (·.oneCell') = true) := by show _ = _; simp [Value.oneCell']
        go_wp2_with (first
          | (refine wpList_load_row rfl 30 _ rfl pb rfl 30 #[.string NM, .int .i64 dv, .slice (some ⟨g6, 0, none⟩) 1 1] (0, 0) _ HXb.out Tryz.underlying30 rfl sizePn ?_)
          | (refine wpList_store_row rfl 30 _ _ rfl w.heap.size #[.string NM, .int .i64 dv, .slice (some ⟨g6, 0, none⟩) 1 1] rfl rfl 30 _ HXo.out sizePn rfl HO1.out ?_))
        have HX := hide (setRow_heap _ w.heap.size _ #[.string NM, .int .i64 dv, .slice (some ⟨g6, 0, none⟩) 1 1] _ _ HXo.out)
        have HK := hide (keep_row w7 w.heap.size #[.string NM, .int .i64 dv, .slice (some ⟨g6, 0, none⟩) 1 1])
        refine bodyPost_ret (resPn rfl _ _ w.heap.size _ rfl rfl HX.out) rfl ⟨_, rfl, ?_, HB6.out.trans (HK.out.below HB6.out.size fun j e => by have e : j = w.heap.size := e; omega)⟩
        have hg8 := HK.out.blk HXg.out fun e => by have e : g6 = w.heap.size := e; have := HXo.out; have h2 := HXg.out; rw [e, this] at h2; cases h2
        exact FIN.out _ [litV] _ _ _ (by rw [HM.out, if_pos HDS.out]) (lit_own hg8)
      · have c0' : (((qs.length : Nat) : Int) == 0) = false := by simpa using c0
        have C0 := hide c0
        clear c0
        have d2 := cell_blk HD.out.2.blk 2 (v := .slice xa qs.length xc) rfl
        go_upto_region 11 with fail
        clear d2 c0'
        have HXb := hide HD.out.2.blk
        have HXo := hide HD.out.2.ob
        have HB6 := hide HD.out.2.bl
        have HO1 : Hid ((#[.string NM, .int .i64 dv, .slice xa qs.length xc] : Array Value).all (·.oneCell') = true) := by show _ = _; simp [Value.oneCell']
        go_wp2_with (first
          | (refine wpList_load_row rfl 30 _ rfl pb rfl 30 #[.string NM, .int .i64 dv, .slice xa qs.length xc] (0, 0) _ HXb.out Tryz.underlying30 rfl sizePn ?_)
          | (refine wpList_store_row rfl 30 _ _ rfl w.heap.size #[.string NM, .int .i64 dv, .slice xa qs.length xc] rfl rfl 30 _ HXo.out sizePn rfl HO1.out ?_))
        have HX := hide (setRow_heap _ w.heap.size _ #[.string NM, .int .i64 dv, .slice xa qs.length xc] _ _ HXo.out)
        have HK := hide (keep_row wr w.heap.size #[.string NM, .int .i64 dv, .slice xa qs.length xc])
        refine bodyPost_ret (resPn rfl _ _ w.heap.size _ rfl rfl HX.out) rfl ⟨_, rfl, ?_, HB6.out.trans (HK.out.below HB6.out.size fun j e => by have e : j = w.heap.size := e; omega)⟩
        refine FIN.out _ (pls rs m) _ _ _ (by rw [HM.out, if_neg fun e => C0.out (by have := HD.out.2.ln; rw [e] at this; exact this)]) ⟨qs, HD.out.2.ln, ?_, fun i q d hq hd => (HD.out.2.nd i q d hq hd).keep HK.out fun j e => by have e : j = w.heap.size := e; subst e; exact ⟨_, _, HXo.out, .inr rfl⟩⟩
        rw [← HD.out.2.ln]
        exact ownsRow_base (own_keep HD.out.2.ox HK.out fun j e e2 => by have e : j = w.heap.size := e; have := (own_lo HD.out.2.ox e2).1; have := HDD.out; omega) (Nat.zero_le _)
end Cd
end Go.Proofs.YtbjcckfhfbjchaaGreat
