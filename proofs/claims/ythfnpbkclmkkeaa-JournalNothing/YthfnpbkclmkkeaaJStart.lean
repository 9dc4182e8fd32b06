/- Package journal: start. -/
import Derived.Test.YthfnpbkclmkkeaaJRmv
namespace Go.Proofs.Ythfnpbkclmkkeaa
open Go.RowKit Go.Lib

/-- the last two cells of a journal set -/
theorem JAt.where_ {R : Nat → Prop} {w w' : World} {P d : Nat} {j : J.Jr} (h : JAt R w P d j) (seg len : Nat) (hk : Keep (fun i => i = P) w w') (hb : ∀ c, w.heap[P]? = some (.cells c 64 (0, 0)) → w'.heap[P]? = some (.cells ((c.setIfInBounds 5 (.int .i64 (seg : Nat))).setIfInBounds 6 (.int .i64 (len : Nat))) 64 (0, 0))) : JAt R w' P d ⟨j.held, seg, len⟩ := by
  obtain ⟨vi, vr, xs, h⟩ := h
  refine ⟨vi, vr, xs, ?_, h.img.keep hk fun g e e' => row_far h.img h.blk (by decide) e e', h.imgR, h.recs.far h.blk (by decide) (by decide) hk, h.own⟩
  rw [hb _ h.blk]
  rfl
theorem JAt.own_ {R : Nat → Prop} {w : World} {P d : Nat} {j : J.Jr} (h : JAt R w P d j) : R P := by
  obtain ⟨vi, vr, xs, h⟩ := h
  exact h.own

set_option maxHeartbeats 4000000 in
set_option maxRecDepth 10000 in
theorem start_any (X : Nat → Prop) (w : World) (P d : Nat) (j : J.Jr) (s : St) (seg : Nat) (a : Option Addr) (n c : Nat) (ps : List (List Nat)) (N : Nat) (h : JD X w P d j s) (g : Good N s) (hN : N + 1 ≤ 70368744177664) (hX : ∀ i, w.heap.size ≤ i → X i) (hsg : seg ≤ 9223372036854775807)
    (hp : RdL w a n ps) (hps : ps.flatten.length ≤ 1073741824) :
    Calls Try.prog 45 #[.pointer (some ⟨P, 0, none⟩), .int .i64 (seg : Nat), .slice a n c] w (JDid X w P d (J.start j s seg ps)) := by
  have HHd := hide (headOf_any seg j.held.next w)
  have HR1 := hide (fun (wx : World) (g : Nat) (hb : wx.heap[g]? = some (.cells (B8 (J.headOf seg j.held.next)).toArray 99 (0, 0))) => (by
    have hr := blk_rd hb (fun d hd => J.headOf_lt _ _ d hd) 0 24 (by simp [J.headOf_length]) (by decide)
    rw [List.drop_zero, List.take_of_length_le (by rw [J.headOf_length]; exact Nat.le_refl _)] at hr
    exact ⟨_, _, _, rfl, hr, fun e => by cases e⟩ : RdV wx (.slice (some ⟨g, 0, none⟩) 24 24) (J.headOf seg j.held.next)))
  have hz := zero24
  have hzs : (B8 z24).toArray.size = (B8 (J.headOf seg j.held.next)).toArray.size := by rw [B8_array_size, B8_array_size, J.headOf_length]; rfl
  have HI4 : Hid ((Try.prog.info? 99).map (·.size) = some (B8 (J.headOf seg j.held.next)).toArray.size) := info24 (J.headOf_length _ _)
  have HA4 := hide (B8_all (J.headOf seg j.held.next))
  have c4 := h.c4
  obtain ⟨fl, hfl⟩ : ∃ fl, fl = ps.flatten := ⟨_, rfl⟩
  obtain ⟨text, htext⟩ : ∃ text, text = J.headOf seg j.held.next ++ fl := ⟨_, rfl⟩
  have hln : text.length = 24 + fl.length := by rw [htext, List.length_append, J.headOf_length]
  have HX0 : Hid (J.start j s seg ps = if J.fits s (text.length + 64) ≠ 0 then (J.fits s (text.length + 64), j, s)
      else if (s.create seg).1 ≠ 0 then ((s.create seg).1, j, (s.create seg).2)
      else if ((s.create seg).2.append seg text).1 ≠ 0 then (((s.create seg).2.append seg text).1, j, ((s.create seg).2.append seg text).2)
      else (0, ⟨j.held, seg, text.length⟩, ((s.create seg).2.append seg text).2)) := by show _ = _; rw [htext, hfl]; rfl
  rw [← hfl] at hps
  have HFe := hide hfl
  have HTx := hide htext
  have HH := hide h
  have HG := hide g
  have HXn := hide hX
  have HP := hide hp
  have HZ := hide hz
  have HZs := hide hzs
  have HFl := hide hps
  have HLn := hide hln
  clear h g hX hp hz hzs htext hfl hps hln
  generalize hhd : J.headOf seg j.held.next = hd at *
  generalize (B8 z24).toArray = z at *
  generalize (B8 hd).toArray = t at *
  clear hhd
  go_enter Try.func45, Try.ntmps45
  go_upto_region 2 with (first
    | (refine wpList_alloc_row HZ.out rfl rfl ?_)
    | (refine wpList_store_row rfl 99 _ _ rfl _ t rfl rfl 99 z ?s1 HI4.out HZs.out HA4.out ?_; case s1 => exact heap_alloc_new _ _)
    | (go_at_call 60
       refine HHd.out.mono ?_
       rintro e w1 ⟨rfl, hk1⟩
       have HK1 := hide hk1
       clear hk1))
  obtain ⟨W1, hW1⟩ : ∃ W1, W1 = (w1.alloc (.cells z 99)).setRow w1.heap.size t := ⟨_, rfl⟩
  have hb1 : W1.heap[w1.heap.size]? = some (.cells t 99 (0, 0)) := by rw [hW1]; exact setRow_heap _ _ _ _ _ _ (heap_alloc_new _ _)
  have kW1 : Keep (fun _ => False) w1 W1 := by rw [hW1]; exact (Keep.alloc _ _ _).trans (T := fun k => k = w1.heap.size) ⟨rfl, rfl, rfl, by rw [size_setRow]; exact Nat.le_refl _, fun k _ hk => heap_setRow_other _ _ _ _ hk⟩ fun i e => .inr (by omega)
  have kw : Keep (fun _ => False) w W1 := HK1.out.more kW1
  have HKW := hide kw
  have HB1 := hide hb1
  have HL1 : Hid (Calls Try.prog 43 #[.slice a n c] W1.drew (LaidJ W1.drew fl)) := by
    show Calls _ _ _ _ _
    rw [HFe.out]
    exact jlay_any a n c ps W1.drew (HP.out.keep (kw.more (Keep.drew _ _))) (by rw [← HFe.out]; have := HFl.out; omega)
  rw [← hW1]
  clear hb1 kW1 kw hW1
  go_region_held3 (fun _ => True) (trivial) (first
    | (go_at_call 43
       refine HL2.out.mono ?_
       rintro e w3 ⟨v, rfl, hrow, hk3, hnew⟩
       obtain ⟨va, vc, hv, hrd, hv0, _, hvb⟩ := hrow.rd (by rw [HLn.out]; have := HFl.out; omega)
       subst hv
       have HRd := hide hrd
       have HK3 := hide hk3
       have HNew : Hid (∀ g off, va = some ⟨g, off, none⟩ → w.heap.size ≤ g) := fun g off e => by
         obtain ⟨g', e1, e2⟩ := hvb _ e
         injection e1 with e1 _
         subst e1
         exact Nat.le_trans (HKW.out.more HK2.out).size (hnew _ e2)
       clear hrow hk3 hnew hrd hvb)
    | (go_at_call 43
       refine HL1.out.mono ?_
       rintro e w2 ⟨v1, rfl, hrow, hk2, hnew⟩
       have k2 : Keep (fun _ => False) W1 w2 := (Keep.drew _ _).more hk2
       have HK2 := hide k2
       obtain ⟨x1, x2, hv1⟩ := ownsRow_shape hrow.1
       subst hv1
       have HL2 : Hid (Calls Try.prog 43 #[.slice (some ⟨w2.heap.size, 0, none⟩) 2 2] (w2.alloc (.cells #[.slice (some ⟨w1.heap.size, 0, none⟩) 24 24, .slice x1 fl.length x2] 32)) (LaidJ w2 text)) := by
         obtain ⟨W, hW⟩ : ∃ W, W = w2.alloc (.cells #[.slice (some ⟨w1.heap.size, 0, none⟩) 24 24, .slice x1 fl.length x2] 32) := ⟨_, rfl⟩
         have hr := two_parts hW (HR1.out w2 w1.heap.size (k2.blk HB1.out fun f => f)) (hrow.rdV (by have := HFl.out; omega))
         have hkW : Keep (fun _ => False) w2 W := by rw [hW]; exact Keep.alloc _ _ _
         have hfl : [hd, fl].flatten = text := by rw [HTx.out]; simp
         have := jlay_any (some ⟨w2.heap.size, 0, none⟩) 2 2 _ W hr (by rw [hfl, HLn.out]; have := HFl.out; omega)
         rw [hfl] at this
         rw [← hW]
         exact this.mono fun e w' ⟨v, e1, e2, e3, e4⟩ => ⟨v, e1, e2, hkW.more e3, fun g e => Nat.le_trans hkW.size (e4 g e)⟩
       clear hrow hk2 hnew k2))
  have k3 : Keep (fun _ => False) w w3 := (HKW.out.more HK2.out).more HK3.out
  have HK03 := hide k3
  have hJ3 := HH.out.part k3
  obtain ⟨Y, hY⟩ : ∃ Y : Nat → Prop, Y = fun i => X i ∧ (i < w.heap.size ∨ w3.heap.size ≤ i) := ⟨_, rfl⟩
  rw [← hY] at hJ3
  have HYn : Hid (∀ i, w3.heap.size ≤ i → Y i) := fun i hi => by rw [hY]; exact ⟨HXn.out i (Nat.le_trans k3.size hi), .inr hi⟩
  have HYX : Hid (∀ i, Y i → X i) := fun i hi => by rw [hY] at hi; exact hi.1
  have HTv : Hid (∀ g off, va = some ⟨g, off, none⟩ → text.length ≠ 0 → ¬ Y g) := fun g off e h0 hi => by
    rw [hY] at hi
    have h1 := HNew.out g off e
    have h2 : g < w3.heap.size := by
      rcases HRd.out.2.2.2 with h | ⟨b, o, e', hc⟩
      · omega
      · rw [e] at e'
        injection e' with e'
        injection e' with e1 e2
        subst e1
        exact block_lt_of_cell (hc 0 (by omega))
    omega
  have ok := HG.out.ok (by omega)
  have hfit := jfits_any Y w3 P d j s (text.length + 64) hJ3 ok
  rw [show ((text.length + 64 : Nat) : Int) = (text.length : Int) + 64 by omega] at hfit
  have HFt := hide hfit
  have HJ3 := hide hJ3
  have htl : text.length ≤ 1073741848 := by have := HLn.out; have := HFl.out; omega
  obtain ⟨f, hf⟩ : ∃ f, f = J.fits s (text.length + 64) := ⟨_, rfl⟩
  rw [← hf] at HFt HX0
  clear hfit hf hJ3 hY k3
  by_cases hf0 : f = 0
  · subst hf0
    rw [if_neg (by simp)] at HX0
    have ok1 := (HG.out.create seg).ok hN
    have HOk := hide (And.intro ok ok1)
    have HCr : Hid (∀ w4, Keep (fun _ => False) w3 w4 → Calls Try.prog 62 #[.pointer (some ⟨d, 0, none⟩), .int .i64 (seg : Nat)] w4 fun e w' => e = .returned (.int .i64 (s.create seg).1) ∧ JD Y w' P d j (s.create seg).2 ∧ Keep Y w4 w') := fun w4 k4 => by
      obtain ⟨D, hd, hD, hDY, hback⟩ := (HJ3.out.new k4).disk fun i hi => HYn.out i (Nat.le_trans k4.size hi)
      exact (create_any D w4 d s seg hd HOk.out.1 (by omega) (by omega) hD).mono fun e w' ⟨h1, h2, h3⟩ => ⟨h1, hback w' _ h2 h3⟩
    generalize hr1 : s.create seg = r1 at *
    obtain ⟨rc1, s1⟩ := r1
    simp only at HCr HX0
    by_cases hc0 : rc1 = 0
    · subst hc0
      rw [if_neg (by simp)] at HX0
      have HAp : Hid (∀ w5, JD Y w5 P d j s1 → Keep Y w3 w5 → Calls Try.prog 63 #[.pointer (some ⟨d, 0, none⟩), .int .i64 (seg : Nat), .slice va text.length vc] w5 fun e w' => e = .returned (.int .i64 (s1.append seg text).1) ∧ JD Y w' P d j (s1.append seg text).2 ∧ Keep Y w5 w') := fun w5 hJ5 k5 => by
        obtain ⟨D, hd, hD, hDY, hback⟩ := hJ5.disk fun i hi => HYn.out i (Nat.le_trans k5.size hi)
        refine (append_any D w5 d s1 seg va text.length vc text hd HOk.out.2 (by omega) (by omega) hD ?_ ?_).mono fun e w' ⟨h1, h2, h3⟩ => ⟨h1, hback w' _ h2 h3⟩
        · by_cases ht0 : text.length = 0
          · exact ⟨rfl, HRd.out.2.1, HRd.out.2.2.1, .inl ht0⟩
          · exact HRd.out.stay k5 fun g off e => HTv.out g off e ht0
        · intro g off e h0 hi
          exact HTv.out g off e h0 (hDY g hi)
      generalize s1.append seg text = r2 at *
      obtain ⟨rc2, s2⟩ := r2
      simp only at HAp HX0
      by_cases hc2 : rc2 = 0
      · subst hc2
        rw [if_neg (by simp)] at HX0
        go_wp2_with (first
          | (go_at_call 61
             refine HFt.out.mono ?_
             rintro e w4 ⟨rfl, hk4⟩
             have HK4 := hide hk4
             have c0 := (HJ3.out.new hk4).c0
             clear hk4)
          | (go_at_call 62
             refine (HCr.out w4 HK4.out).mono ?_
             rintro e w5 ⟨rfl, hJ5, hk5⟩
             have HK5 : Hid (Keep Y w3 w5) := (HK4.out.mono fun _ f => f.elim).more hk5
             have HJ5 := hide hJ5
             have c0' := hJ5.c0
             clear hJ5 hk5)
          | (go_at_call 63
             refine (HAp.out w5 HJ5.out HK5.out).mono ?_
             rintro e w6 ⟨rfl, hJ6, hk6⟩
             have HK6 : Hid (Keep Y w3 w6) := HK5.out.more hk6
             have HJ6 := hide hJ6
             have c5 := hJ6.c5
             have c6 := hJ6.c6
             have f5 := hJ6.fz 5
             have f6 := hJ6.fz 6
             clear hJ6 hk6))
        go_ret
        rw [HX0.out]
        obtain ⟨R, hj6, hRn, hRY, hback⟩ := HJ6.out.jour fun i hi => HYn.out i (Nat.le_trans HK6.out.size hi)
        have kP : Keep (fun i => i = P) w6 ((w6.setCell ⟨P, 5, none⟩ (.int .i64 (seg : Nat))).setCell ⟨P, 6, none⟩ (.int .i64 (text.length : Nat))) := (keep_cell _ _ _ _).more (keep_cell _ _ _ _)
        have hfin := hback _ _ (hj6.where_ seg text.length kP fun c hc => by rw [set_blk (set_blk hc 5 _) 6 _]) (kP.mono fun i e => e ▸ hj6.own_)
        exact ⟨rfl, hfin.1.mono HYX.out, ((HK03.out.mono fun _ f => f.elim).more (HK6.out.mono HYX.out)).more (hfin.2.mono HYX.out)⟩
      · rw [if_pos hc2] at HX0
        have hne : (rc2 != 0) = true := by simp [hc2]
        go_wp2_with (first
          | (go_at_call 61
             refine HFt.out.mono ?_
             rintro e w4 ⟨rfl, hk4⟩
             have HK4 := hide hk4
             have c0 := (HJ3.out.new hk4).c0
             clear hk4)
          | (go_at_call 62
             refine (HCr.out w4 HK4.out).mono ?_
             rintro e w5 ⟨rfl, hJ5, hk5⟩
             have HK5 : Hid (Keep Y w3 w5) := (HK4.out.mono fun _ f => f.elim).more hk5
             have HJ5 := hide hJ5
             have c0' := hJ5.c0
             clear hJ5 hk5)
          | (go_at_call 63
             refine (HAp.out w5 HJ5.out HK5.out).mono ?_
             rintro e w6 ⟨rfl, hJ6, hk6⟩
             have HK6 : Hid (Keep Y w3 w6) := HK5.out.more hk6
             have HJ6 := hide hJ6
             clear hJ6 hk6))
        go_ret
        rw [HX0.out]
        exact ⟨rfl, HJ6.out.mono HYX.out, (HK03.out.mono fun _ f => f.elim).more (HK6.out.mono HYX.out)⟩
    · rw [if_pos hc0] at HX0
      have hne : (rc1 != 0) = true := by simp [hc0]
      go_wp2_with (first
        | (go_at_call 61
           refine HFt.out.mono ?_
           rintro e w4 ⟨rfl, hk4⟩
           have HK4 := hide hk4
           have c0 := (HJ3.out.new hk4).c0
           clear hk4)
        | (go_at_call 62
           refine (HCr.out w4 HK4.out).mono ?_
           rintro e w5 ⟨rfl, hJ5, hk5⟩
           have HK5 : Hid (Keep Y w3 w5) := (HK4.out.mono fun _ f => f.elim).more hk5
           have HJ5 := hide hJ5
           clear hJ5 hk5))
      go_ret
      rw [HX0.out]
      exact ⟨rfl, HJ5.out.mono HYX.out, (HK03.out.mono fun _ f => f.elim).more (HK5.out.mono HYX.out)⟩
  · rw [if_pos hf0] at HX0
    have hne : (f != 0) = true := by simp [hf0]
    go_wp2_with (
      go_at_call 61
      refine HFt.out.mono ?_
      rintro e w4 ⟨rfl, hk4⟩
      have HK4 := hide hk4
      clear hk4)
    go_ret
    rw [HX0.out]
    exact ⟨rfl, (HJ3.out.new HK4.out).mono HYX.out, (HK03.out.more HK4.out).mono fun _ f => f.elim⟩

end Go.Proofs.Ythfnpbkclmkkeaa
