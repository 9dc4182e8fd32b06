/- Package journal: Sync, Snapshot. -/
import Derived.Test.YthfnpbkclmkkeaaJApp
namespace Go.Proofs.Ythfnpbkclmkkeaa
open Go.RowKit Go.Lib

theorem start_good {N : Nat} {j : J.Jr} {s : St} (g : Good N s) (seg : Nat) (ps : List (List Nat)) : Good (N + 2) (J.start j s seg ps).2.2 := by
  unfold J.start
  split
  · exact g.more (by omega)
  · split
    · exact (g.create _).more (by omega)
    · split
      · exact (g.create _).append _ _
      · exact (g.create _).append _ _
theorem removes_good {ks : List Int} : ∀ {N : Nat} {s : St}, Good N s → Good (N + ks.length) (J.removes ks s).2 := by
  induction ks with
  | nil => intro N s g; exact g
  | cons k l ih =>
    intro N s g
    rw [removes_step]
    split
    · have := ih (g.remove k)
      rw [List.length_cons, show N + (l.length + 1) = N + 1 + l.length by omega]
      exact this
    · exact (g.remove k).more (by rw [List.length_cons]; omega)

theorem ints_rz {w : World} {base n c : Nat} {a : Option Addr} {ks : List Int} (h : w.ownsRow base 3 1 (.slice a n c) n (ks.map (Value.int .i64))) (hn : n = ks.length) (hl : n ≤ 17592186044416) (hb : ∀ x ∈ ks, -9223372036854775808 ≤ x ∧ x ≤ 9223372036854775807) : Rz w a n ks := by
  refine ⟨hn, hl, hb, ?_⟩
  rcases Nat.eq_zero_or_pos n with h0 | h0
  · exact .inl h0
  · right
    obtain ⟨g, rfl, _, _⟩ := ownsRow_ints h 0 (by omega)
    refine ⟨g, 0, rfl, fun i hi => ?_⟩
    obtain ⟨g', e, _, hc⟩ := ownsRow_ints h i (by omega)
    injection e with e
    injection e with e _
    subst e
    rw [Nat.zero_add, hc]
    simp [List.getD_eq_getElem?_getD, show i < ks.length by omega]

theorem jsync_any (X : Nat → Prop) (w : World) (P d : Nat) (j : J.Jr) (s : St) (h : JD X w P d j s) (ok : Ok s) (hX : ∀ i, w.heap.size ≤ i → X i) :
    Calls Try.prog 53 #[.pointer (some ⟨P, 0, none⟩)] w (JDid X w P d (s.sync.1, j, s.sync.2)) := by
  have c0 := h.c0
  obtain ⟨D, hd, hD, hDX, hback⟩ := h.disk hX
  have HS := hide (sync_any D w d s hd ok)
  have HB := hide hback
  clear h ok hX hd hD hDX hback
  go_enter Try.func53, Try.ntmps53
  go_wp2_with (go_at_call 28; refine HS.out.mono ?_; rintro e w1 ⟨rfl, hd, hk⟩)
  go_ret
  exact ⟨rfl, HB.out w1 _ hd hk⟩

/-- what Snapshot's last part leaves -/
theorem snap_end {R : Nat → Prop} {W w2 : World} {P d : Nat} {bg : Bool} {im : List Nat} {rs : List (List Nat)} {nx cur sz : Nat} {vi vr : Value} {xs : List Value} {b : List Nat} {v : Value}
    (HJ : JIn R W P d ⟨⟨bg, im, rs, nx⟩, cur, sz⟩ vi vr xs) (hR : ∀ i, W.heap.size ≤ i → R i) (HK2 : Keep (fun _ => False) W w2) (HRow : Row w2 v b) (HNew : ∀ g, v.ownBlock = some g → W.heap.size ≤ g) :
    JAt R ((((w2.setCell ⟨P, 1, none⟩ (.bool true)).setCell ⟨P, 2, none⟩ v).setCell ⟨P, 3, none⟩ (.slice none 0 0)).setCell ⟨P, 4, none⟩ (.int .i64 (nx : Nat))) P d ⟨⟨true, b, [], nx⟩, cur, sz⟩ ∧
      Keep R W ((((w2.setCell ⟨P, 1, none⟩ (.bool true)).setCell ⟨P, 2, none⟩ v).setCell ⟨P, 3, none⟩ (.slice none 0 0)).setCell ⟨P, 4, none⟩ (.int .i64 (nx : Nat))) := by
  have hb2 := HK2.blk HJ.blk fun f => f
  have k4 : Keep (fun i => i = P) w2 ((((w2.setCell ⟨P, 1, none⟩ (.bool true)).setCell ⟨P, 2, none⟩ v).setCell ⟨P, 3, none⟩ (.slice none 0 0)).setCell ⟨P, 4, none⟩ (.int .i64 (nx : Nat))) := (((keep_cell _ _ _ _).more (keep_cell _ _ _ _)).more (keep_cell _ _ _ _)).more (keep_cell _ _ _ _)
  refine ⟨⟨v, _, [], ?_, HRow.keep k4 fun g e e' => row_far HRow hb2 (by decide) e e', fun g e => hR g (HNew g e), RecsX.nil _ _, HJ.own⟩, (HK2.mono fun _ f => f.elim).trans k4 fun i e => .inl (e ▸ HJ.own)⟩
  rw [set_blk (set_blk (set_blk (set_blk hb2 1 _) 2 _) 3 _) 4 _]
  rfl

set_option maxHeartbeats 4000000 in
set_option maxRecDepth 10000 in
theorem jsnap_any (X : Nat → Prop) (w : World) (P d : Nat) (j : J.Jr) (s : St) (a : Option Addr) (n c : Nat) (b : List Nat) (N : Nat) (h : JD X w P d j s) (g : Good N s) (hN : N ≤ 35184372088832) (hX : ∀ i, w.heap.size ≤ i → X i)
    (hr : Rd w a n b) (h0 : a = none → c = 0) (hrX : ∀ g off, a = some ⟨g, off, none⟩ → ¬ X g) :
    Calls Try.prog 23 #[.pointer (some ⟨P, 0, none⟩), .slice a n c] w (JDidK X w P d s (b.length ≤ 8388608) fun ks => J.snapshot j s ks b) := by
  have hnl := hr.1
  have hnb := hr.2.1
  by_cases hlong : 8388608 < n
  · have HX0 : Hid (∀ ks, J.snapshot j s ks b = (60, j, s)) := fun ks => by unfold J.snapshot; rw [← hnl, if_pos hlong]
    have HH := hide h
    have HL : Hid (¬ b.length ≤ 8388608) := by show ¬ _; omega
    have hl' : (n : Int) > 8388608 := by omega
    clear h g hX hr h0 hrX hnl hlong
    go_enter Try.func23, Try.ntmps23
    go_wp2
    go_ret
    exact ⟨[], fun hw => absurd hw HL.out, by show JDid X w P d (J.snapshot j s [] b) _ _; rw [HX0.out]; exact ⟨rfl, HH.out, Keep.refl _ _⟩⟩
  have ok := g.ok (by omega)
  have HX0 : Hid (∀ ks, J.snapshot j s ks b = if J.freeCode s ks ≠ 0 then (J.freeCode s ks, j, s) else
      if (J.start j s (J.nextSeg ks).toNat [J.pieceOf 2 j.held.next b]).1 ≠ 0 then J.start j s (J.nextSeg ks).toNat [J.pieceOf 2 j.held.next b]
      else if (J.start j s (J.nextSeg ks).toNat [J.pieceOf 2 j.held.next b]).2.2.sync.1 ≠ 0 then ((J.start j s (J.nextSeg ks).toNat [J.pieceOf 2 j.held.next b]).2.2.sync.1, (J.start j s (J.nextSeg ks).toNat [J.pieceOf 2 j.held.next b]).2.1, (J.start j s (J.nextSeg ks).toNat [J.pieceOf 2 j.held.next b]).2.2.sync.2)
      else if (J.removes ks (J.start j s (J.nextSeg ks).toNat [J.pieceOf 2 j.held.next b]).2.2.sync.2).1 ≠ 0 then ((J.removes ks (J.start j s (J.nextSeg ks).toNat [J.pieceOf 2 j.held.next b]).2.2.sync.2).1, (J.start j s (J.nextSeg ks).toNat [J.pieceOf 2 j.held.next b]).2.1, (J.removes ks (J.start j s (J.nextSeg ks).toNat [J.pieceOf 2 j.held.next b]).2.2.sync.2).2)
      else (0, ⟨⟨true, b, [], j.held.next⟩, (J.start j s (J.nextSeg ks).toNat [J.pieceOf 2 j.held.next b]).2.1.current, (J.start j s (J.nextSeg ks).toNat [J.pieceOf 2 j.held.next b]).2.1.size⟩, (J.removes ks (J.start j s (J.nextSeg ks).toNat [J.pieceOf 2 j.held.next b]).2.2.sync.2).2)) := fun ks => by
    unfold J.snapshot
    rw [← hnl, if_neg hlong]
  have HFr := hide (free_any X w P d j s h ok)
  have c4 := h.c4
  have HH := hide h
  have HG := hide g
  have HOk := hide ok
  have HXn := hide hX
  have HR := hide hr
  have HR0 := hide h0
  have HRX := hide hrX
  have hl' : ¬ (n : Int) > 8388608 := by omega
  have hnn : n ≤ 8388608 := by omega
  have hpl : (J.pieceOf 2 j.held.next b).length = 17 + n := by rw [J.pieceOf_length, hnl]
  have HPle := hide hpl
  clear h g hX hr h0 hrX hlong hnl ok hpl
  go_enter Try.func23, Try.ntmps23
  go_upto_region 4 with (
    go_at_call 44
    refine HFr.out.mono ?_
    rintro e w1 ⟨fa, fc, ks, hks, hk1, ⟨hfc, rfl⟩ | ⟨hfc, rfl, ho, hs1, hs2⟩⟩)
  · have hne : (J.freeCode s ks != 0) = true := by simp [hfc]
    have HXk : Hid (J.snapshot j s ks b = (J.freeCode s ks, j, s)) := by show _ = _; rw [HX0.out, if_pos hfc]
    have HK1 := hide hk1
    have HKs := hide hks
    clear hk1 hks
    generalize J.freeCode s ks = fcode at *
    go_wp2
    go_ret
    exact ⟨ks, fun _ => HKs.out, by show JDid X w P d (J.snapshot j s ks b) _ _; rw [HXk.out]; exact ⟨rfl, HH.out.new HK1.out, HK1.out.mono fun _ f => f.elim⟩⟩
  · obtain ⟨sg, hsg⟩ : ∃ sg : Nat, J.nextSeg ks = (sg : Int) := ⟨(J.nextSeg ks).toNat, by omega⟩
    have hdn : s.down = false := by
      cases hd : s.down with
      | false => rfl
      | true => unfold J.freeCode at hfc; rw [hd] at hfc; cases hfc
    have hkeys := hks hdn
    have HX1 : Hid (J.snapshot j s ks b = if (J.start j s sg [J.pieceOf 2 j.held.next b]).1 ≠ 0 then J.start j s sg [J.pieceOf 2 j.held.next b]
        else if (J.start j s sg [J.pieceOf 2 j.held.next b]).2.2.sync.1 ≠ 0 then ((J.start j s sg [J.pieceOf 2 j.held.next b]).2.2.sync.1, (J.start j s sg [J.pieceOf 2 j.held.next b]).2.1, (J.start j s sg [J.pieceOf 2 j.held.next b]).2.2.sync.2)
        else if (J.removes ks (J.start j s sg [J.pieceOf 2 j.held.next b]).2.2.sync.2).1 ≠ 0 then ((J.removes ks (J.start j s sg [J.pieceOf 2 j.held.next b]).2.2.sync.2).1, (J.start j s sg [J.pieceOf 2 j.held.next b]).2.1, (J.removes ks (J.start j s sg [J.pieceOf 2 j.held.next b]).2.2.sync.2).2)
        else (0, ⟨⟨true, b, [], j.held.next⟩, (J.start j s sg [J.pieceOf 2 j.held.next b]).2.1.current, (J.start j s sg [J.pieceOf 2 j.held.next b]).2.1.size⟩, (J.removes ks (J.start j s sg [J.pieceOf 2 j.held.next b]).2.2.sync.2).2)) := by
      show _ = _
      rw [HX0.out, if_neg (by simp [hfc]), hsg]
      rfl
    have hkl := keys_len hkeys HOk.out
    have hkg := keys_seg hkeys HOk.out
    have HRz := hide (ints_rz ho rfl (by omega) fun x hx => by have := hkg x hx; omega)
    have HLoc : Hid (∀ g off, fa = some ⟨g, off, none⟩ → ks.length ≠ 0 → w.heap.size ≤ g ∧ g < w1.heap.size) := fun g off e h0 => by
      obtain ⟨g', e', h1, hc⟩ := ownsRow_ints ho 0 (by omega)
      rw [e] at e'
      injection e' with e'
      injection e' with e1 _
      subst e1
      exact ⟨h1, block_lt_of_cell hc⟩
    have HPc := hide (pieceOf_any 2 j.held.next a n c b w1 (HR.out.stay (S := fun _ => False) hk1 fun _ _ _ f => f) HR0.out (by omega) (by decide))
    have HSg := hide (show sg ≤ 1099511627776 by omega)
    have HK1 := hide hk1
    have HKs := hide hks
    have HKl := hide hkl
    have d4 := hk1.cell c4 fun f => f
    rw [hsg]
    clear hk1 hks ho hs1 hs2 hkeys hkg hsg hfc hdn HX0 HFr c4
    generalize hm : ks.length = m at *
    have HM := hide hm
    clear hm
    obtain ⟨Y, hY⟩ : ∃ Y : Nat → Prop, Y = fun i => X i ∧ (i < w.heap.size ∨ w1.heap.size ≤ i) := ⟨_, rfl⟩
    have hJ1 := HH.out.part HK1.out
    rw [← hY] at hJ1
    have HYn : Hid (∀ i, w1.heap.size ≤ i → Y i) := fun i hi => by rw [hY]; exact ⟨HXn.out i (Nat.le_trans HK1.out.size hi), .inr hi⟩
    have HYX : Hid (∀ i, Y i → X i) := fun i hi => by rw [hY] at hi; exact hi.1
    have HYl : Hid (∀ g off, fa = some ⟨g, off, none⟩ → m ≠ 0 → ¬ Y g) := fun g off e h0 hi => by
      have h1 := HLoc.out g off e h0
      rw [hY] at hi
      have := hi.2
      omega
    have HJ1 := hide hJ1
    clear hY hJ1
    have HStt : Hid (∀ w2 v1 v2, Keep (fun _ => False) w1 w2 → RdV w2 (.slice v1 (17 + n) v2) (J.pieceOf 2 j.held.next b) → Calls Try.prog 45 #[.pointer (some ⟨P, 0, none⟩), .int .i64 (sg : Nat), .slice (some ⟨w2.heap.size, 0, none⟩) 1 1] (w2.alloc (.cells #[.slice v1 (17 + n) v2] 32)) fun e w' => e = .returned (.int .i64 (J.start j s sg [J.pieceOf 2 j.held.next b]).1) ∧ JD Y w' P d (J.start j s sg [J.pieceOf 2 j.held.next b]).2.1 (J.start j s sg [J.pieceOf 2 j.held.next b]).2.2 ∧ Keep Y w1 w') := fun w2 v1 v2 k2 hrv => by
      obtain ⟨W, hW⟩ : ∃ W, W = w2.alloc (.cells #[.slice v1 (17 + n) v2] 32) := ⟨_, rfl⟩
      have kW : Keep (fun _ => False) w1 W := by rw [hW]; exact k2.more (Keep.alloc _ _ _)
      have hpp := one_part hW hrv
      rw [← hW]
      exact (start_any Y W P d j s sg _ 1 1 _ N (HJ1.out.new kW) HG.out (by omega) (fun i hi => HYn.out i (Nat.le_trans kW.size hi)) (by have := HSg.out; omega) hpp (by have := HPle.out; simp; omega)).mono fun e w' ⟨h1, h2, h3⟩ => ⟨h1, h2, (kW.mono fun _ f => f.elim).more h3⟩
    have HG4 := hide (start_good (j := j) HG.out sg [J.pieceOf 2 j.held.next b])
    have HHe := hide (start_held j s sg [J.pieceOf 2 j.held.next b])
    obtain ⟨⟨bg0, im0, rs0, nx⟩, cur0, sz0⟩ := j
    simp only at HX1 HPc HStt HG4 HHe HPle d4
    generalize J.start ⟨⟨bg0, im0, rs0, nx⟩, cur0, sz0⟩ s sg [J.pieceOf 2 nx b] = r at *
    obtain ⟨rc, ⟨hd4, cur, sz⟩, s4⟩ := r
    simp only at HX1 HStt HG4 HHe
    have hhe : hd4 = ⟨bg0, im0, rs0, nx⟩ := HHe.out
    subst hhe
    by_cases hrc : rc = 0
    · subst hrc
      rw [if_neg (by simp)] at HX1
      have HSy : Hid (∀ w4, JD Y w4 P d ⟨⟨bg0, im0, rs0, nx⟩, cur, sz⟩ s4 → Keep Y w1 w4 → Calls Try.prog 28 #[.pointer (some ⟨d, 0, none⟩)] w4 fun e w' => e = .returned (.int .i64 s4.sync.1) ∧ JD Y w' P d ⟨⟨bg0, im0, rs0, nx⟩, cur, sz⟩ s4.sync.2 ∧ Keep Y w4 w') := fun w4 hJ4 k4 => by
        obtain ⟨D, hd, hD, hDY, hback⟩ := hJ4.disk fun i hi => HYn.out i (Nat.le_trans k4.size hi)
        exact (sync_any D w4 d s4 hd (HG4.out.ok (by omega))).mono fun e w' ⟨h1, h2, h3⟩ => ⟨h1, hback w' _ h2 h3⟩
      have HG5 := hide HG4.out.sync
      generalize s4.sync = r5 at *
      obtain ⟨sc, s5⟩ := r5
      simp only at HX1 HSy HG5
      by_cases hsc : sc = 0
      · subst hsc
        rw [if_neg (by simp)] at HX1
        have HRm : Hid (∀ w5, JD Y w5 P d ⟨⟨bg0, im0, rs0, nx⟩, cur, sz⟩ s5 → Keep Y w1 w5 → Calls Try.prog 31 #[.pointer (some ⟨P, 0, none⟩), .slice fa m fc] w5 fun e w' => e = .returned (.int .i64 (J.removes ks s5).1) ∧ JD Y w' P d ⟨⟨bg0, im0, rs0, nx⟩, cur, sz⟩ (J.removes ks s5).2 ∧ Keep Y w5 w') := fun w5 hJ5 k5 =>
          jremove_any Y w5 P d _ s5 fa m fc ks _ hJ5 HG5.out (by have := HKl.out; omega) (fun i hi => HYn.out i (Nat.le_trans k5.size hi)) (HRz.out.stay k5 HYl.out) HYl.out
        generalize J.removes ks s5 = r6 at *
        obtain ⟨mc, s6⟩ := r6
        simp only at HX1 HRm
        by_cases hmc : mc = 0
        · subst hmc
          rw [if_neg (by simp)] at HX1
          go_upto_region 15 with (first
          | (go_at_call 42
             refine HPc.out.mono ?_
             rintro e w2 ⟨v, rfl, hrow, hk2, hnew⟩
             obtain ⟨v1, v2, hv⟩ := ownsRow_shape hrow.1
             subst hv
             rw [HPle.out]
             have HSt := hide (HStt.out w2 v1 v2 hk2 (by have := hrow.rdV (by rw [HPle.out]; omega); rw [HPle.out] at this; exact this))
             clear hrow hk2 hnew)
          | (go_at_call 45
             refine HSt.out.mono ?_
             rintro e w4 ⟨rfl, hJ4, hk4⟩
             have HJ4 := hide hJ4
             have HK4 := hide hk4
             have e0 := hJ4.c0
             clear hJ4 hk4)
          | (go_at_call 28
             refine (HSy.out w4 HJ4.out HK4.out).mono ?_
             rintro e w5 ⟨rfl, hJ5, hk5⟩
             have HJ5 := hide hJ5
             have HK5 : Hid (Keep Y w1 w5) := HK4.out.more hk5
             clear hJ5 hk5)
          | (go_at_call 31
             refine (HRm.out w5 HJ5.out HK5.out).mono ?_
             rintro e w6 ⟨rfl, hJ6, hk6⟩
             have HJ6 := hide hJ6
             have HK6 : Hid (Keep Y w1 w6) := HK5.out.more hk6
             clear hJ6 hk6)
            )
          obtain ⟨R, ⟨vi, vr, xs, hji⟩, hRn, hRY, hback⟩ := HJ6.out.jour fun i hi => HYn.out i (Nat.le_trans HK6.out.size hi)
          have hk06 : Keep X w w6 := (HK1.out.mono fun _ f => f.elim).more (HK6.out.mono HYX.out)
          have hr6 := HR.out.stay hk06 HRX.out
          have HLy : Hid (Calls Try.prog 43 #[.slice (some ⟨w6.heap.size, 0, none⟩) 1 1] (w6.alloc (.cells #[.slice a n c] 32)).drew (LaidJ w6 b)) := jlay_one_drew w6 32 a n c b hr6 HR0.out (by omega)
          have q4 := cell_blk hji.blk 4 (v := .int .i64 (nx : Nat)) rfl
          have HJI := hide hji
          have HRn := hide hRn
          have HBk : Hid (∀ w' j', JAt R w' P d j' → Keep R w6 w' → JD X w' P d j' s6 ∧ Keep X w w') := fun w' j' h1 h2 => by
            have := hback w' j' h1 h2
            exact ⟨this.1.mono HYX.out, hk06.more (this.2.mono HYX.out)⟩
          clear hji hRn hRY hback hk06 hr6
          go_region_held3 (fun w' => w'.cell? ⟨P, 4, none⟩ = some (.int .i64 (nx : Nat))) (first | with_reducible exact q4 | with_reducible exact t4 | exact cell_blk (set_blk (set_blk (set_blk (set_blk HB7.out 1 _) 2 _) 3 _) 4 _) 4 rfl | go_keep)
            ((go_at_call 43
              refine HLy.out.mono ?_
              rintro e w7 ⟨v, rfl, hrow, hk7, hnew⟩
              obtain ⟨v1, v2, hv⟩ := ownsRow_shape hrow.1
              subst hv
              have HRow := hide hrow
              have HK7 := hide hk7
              have HNew := hide hnew
              have hb7 := hk7.blk HJI.out.blk fun f => f
              have t1 := cell_blk hb7 1 (v := .bool bg0) rfl
              have t2 := cell_blk hb7 2 (v := vi) rfl
              have t3 := cell_blk hb7 3 (v := vr) rfl
              have t4 := cell_blk hb7 4 (v := .int .i64 (nx : Nat)) rfl
              have z1 := frozen_blk hb7 1
              have z2 := frozen_blk hb7 2
              have z3 := frozen_blk hb7 3
              have z4 := frozen_blk hb7 4
              have HB7 := hide hb7
              clear hrow hk7 hnew hb7))
          go_wp2
          go_ret
          have hfin := snap_end HJI.out HRn.out HK7.out HRow.out HNew.out
          exact ⟨ks, fun _ => HKs.out, by show JDid X w P d (J.snapshot _ s ks b) _ _; rw [HX1.out]; exact ⟨rfl, HBk.out _ _ hfin.1 hfin.2⟩⟩
        · rw [if_pos hmc] at HX1
          have hne : (mc != 0) = true := by simp [hmc]
          go_wp2_with (first
          | (go_at_call 42
             refine HPc.out.mono ?_
             rintro e w2 ⟨v, rfl, hrow, hk2, hnew⟩
             obtain ⟨v1, v2, hv⟩ := ownsRow_shape hrow.1
             subst hv
             rw [HPle.out]
             have HSt := hide (HStt.out w2 v1 v2 hk2 (by have := hrow.rdV (by rw [HPle.out]; omega); rw [HPle.out] at this; exact this))
             clear hrow hk2 hnew)
          | (go_at_call 45
             refine HSt.out.mono ?_
             rintro e w4 ⟨rfl, hJ4, hk4⟩
             have HJ4 := hide hJ4
             have HK4 := hide hk4
             have e0 := hJ4.c0
             clear hJ4 hk4)
          | (go_at_call 28
             refine (HSy.out w4 HJ4.out HK4.out).mono ?_
             rintro e w5 ⟨rfl, hJ5, hk5⟩
             have HJ5 := hide hJ5
             have HK5 : Hid (Keep Y w1 w5) := HK4.out.more hk5
             clear hJ5 hk5)
          | (go_at_call 31
             refine (HRm.out w5 HJ5.out HK5.out).mono ?_
             rintro e w6 ⟨rfl, hJ6, hk6⟩
             have HJ6 := hide hJ6
             have HK6 : Hid (Keep Y w1 w6) := HK5.out.more hk6
             clear hJ6 hk6)
            )
          go_ret
          exact ⟨ks, fun _ => HKs.out, by show JDid X w P d (J.snapshot _ s ks b) _ _; rw [HX1.out]; exact ⟨rfl, HJ6.out.mono HYX.out, (HK1.out.mono fun _ f => f.elim).more (HK6.out.mono HYX.out)⟩⟩
      · rw [if_pos hsc] at HX1
        have hne : (sc != 0) = true := by simp [hsc]
        go_wp2_with (first
          | (go_at_call 42
             refine HPc.out.mono ?_
             rintro e w2 ⟨v, rfl, hrow, hk2, hnew⟩
             obtain ⟨v1, v2, hv⟩ := ownsRow_shape hrow.1
             subst hv
             rw [HPle.out]
             have HSt := hide (HStt.out w2 v1 v2 hk2 (by have := hrow.rdV (by rw [HPle.out]; omega); rw [HPle.out] at this; exact this))
             clear hrow hk2 hnew)
          | (go_at_call 45
             refine HSt.out.mono ?_
             rintro e w4 ⟨rfl, hJ4, hk4⟩
             have HJ4 := hide hJ4
             have HK4 := hide hk4
             have e0 := hJ4.c0
             clear hJ4 hk4)
          | (go_at_call 28
             refine (HSy.out w4 HJ4.out HK4.out).mono ?_
             rintro e w5 ⟨rfl, hJ5, hk5⟩
             have HJ5 := hide hJ5
             have HK5 : Hid (Keep Y w1 w5) := HK4.out.more hk5
             clear hJ5 hk5)
            )
        go_ret
        exact ⟨ks, fun _ => HKs.out, by show JDid X w P d (J.snapshot _ s ks b) _ _; rw [HX1.out]; exact ⟨rfl, HJ5.out.mono HYX.out, (HK1.out.mono fun _ f => f.elim).more (HK5.out.mono HYX.out)⟩⟩
    · rw [if_pos hrc] at HX1
      have hne : (rc != 0) = true := by simp [hrc]
      go_wp2_with (first
          | (go_at_call 42
             refine HPc.out.mono ?_
             rintro e w2 ⟨v, rfl, hrow, hk2, hnew⟩
             obtain ⟨v1, v2, hv⟩ := ownsRow_shape hrow.1
             subst hv
             rw [HPle.out]
             have HSt := hide (HStt.out w2 v1 v2 hk2 (by have := hrow.rdV (by rw [HPle.out]; omega); rw [HPle.out] at this; exact this))
             clear hrow hk2 hnew)
          | (go_at_call 45
             refine HSt.out.mono ?_
             rintro e w4 ⟨rfl, hJ4, hk4⟩
             have HJ4 := hide hJ4
             have HK4 := hide hk4
             have e0 := hJ4.c0
             clear hJ4 hk4)
            )
      go_ret
      exact ⟨ks, fun _ => HKs.out, by show JDid X w P d (J.snapshot _ s ks b) _ _; rw [HX1.out]; exact ⟨rfl, HJ4.out.mono HYX.out, (HK1.out.mono fun _ f => f.elim).more (HK4.out.mono HYX.out)⟩⟩

end Go.Proofs.Ythfnpbkclmkkeaa
