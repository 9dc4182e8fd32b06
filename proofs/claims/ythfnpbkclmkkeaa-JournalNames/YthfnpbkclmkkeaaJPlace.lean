/- Package journal: extend, place. -/
import Derived.Test.YthfnpbkclmkkeaaJStart
namespace Go.Proofs.Ythfnpbkclmkkeaa
open Go.RowKit Go.Lib

/-- is a new segment wanted? -/
def J.Wants (j : J.Jr) (n : Nat) : Prop := ¬ (j.current ≠ 0 ∧ j.size + n ≤ 65536)
/-- what a call that may make a segment leaves -/
def JDidK (X : Nat → Prop) (w : World) (P d : Nat) (s : St) (want : Prop) (r : List Int → Int × J.Jr × St) (e : Ending) (w' : World) : Prop :=
  ∃ ks, (want → s.down = false → J.Keys s ks) ∧ JDid X w P d (r ks) e w'

set_option maxHeartbeats 2000000 in
set_option maxRecDepth 10000 in
theorem extend_any (X : Nat → Prop) (w : World) (P d : Nat) (j : J.Jr) (s : St) (a : Option Addr) (n c : Nat) (l : List Nat) (N : Nat) (h : JD X w P d j s) (g : Good N s) (hN : N ≤ 70368744177664) (hX : ∀ i, w.heap.size ≤ i → X i)
    (hr : Rd w a n l) (hrX : ∀ g off, a = some ⟨g, off, none⟩ → n ≠ 0 → ¬ X g) (hcu : j.current ≤ 1099511627776) (hsz : j.size ≤ 1099511627776) (hn : n ≤ 1099511627776) :
    Calls Try.prog 58 #[.pointer (some ⟨P, 0, none⟩), .slice a n c] w (JDid X w P d (J.extend j s l)) := by
  have ok := g.ok hN
  have HFt := hide (jfits_any X w P d j s n h ok)
  have hnl := hr.1
  have HAp : Hid (∀ w5, Keep (fun _ => False) w w5 → Calls Try.prog 63 #[.pointer (some ⟨d, 0, none⟩), .int .i64 (j.current : Nat), .slice a n c] w5 fun e w' => e = .returned (.int .i64 (s.append j.current l).1) ∧ JD X w' P d j (s.append j.current l).2 ∧ Keep X w5 w') := fun w5 k5 => by
    obtain ⟨D, hd, hD, hDY, hback⟩ := (h.new k5).disk fun i hi => hX i (Nat.le_trans k5.size hi)
    exact (append_any D w5 d s j.current a n c l hd ok (by omega) (by omega) hD (hr.stay (S := fun _ => False) k5 fun _ _ _ f => f) fun g off e h0 hi => hrX g off e h0 (hDY g hi)).mono fun e w' ⟨h1, h2, h3⟩ => ⟨h1, hback w' _ h2 h3⟩
  have HX0 : Hid (J.extend j s l = if J.fits s n ≠ 0 then (J.fits s n, j, s) else if (s.append j.current l).1 ≠ 0 then ((s.append j.current l).1, j, (s.append j.current l).2) else (0, ⟨j.held, j.current, j.size + n⟩, (s.append j.current l).2)) := by show _ = _; rw [hnl]; rfl
  have HH := hide h
  have HXn := hide hX
  clear h g ok hX hr hrX hnl
  generalize J.fits s n = f at *
  generalize s.append j.current l = r2 at *
  obtain ⟨rc2, s2⟩ := r2
  simp only at HAp HX0
  by_cases hf0 : f = 0
  · subst hf0
    rw [if_neg (by simp)] at HX0
    by_cases hc2 : rc2 = 0
    · subst hc2
      rw [if_neg (by simp)] at HX0
      go_enter Try.func58, Try.ntmps58
      go_upto_region 4 with (
        go_at_call 61
        refine HFt.out.mono ?_
        rintro e w4 ⟨rfl, hk4⟩
        have HK4 := hide hk4
        have c0 := (HH.out.new hk4).c0
        have c5 := (HH.out.new hk4).c5
        clear hk4)
      go_region_held3 (fun w' => w'.cell? ⟨P, 0, none⟩ = some (.pointer (some ⟨d, 0, none⟩)) ∧ w'.cell? ⟨P, 5, none⟩ = some (.int .i64 (j.current : Nat))) (first | (exact ⟨c0, c5⟩) | (exact ⟨HJ6.out.c0, HJ6.out.c5⟩) | go_keep)
        ((go_at_call 63
          refine (HAp.out w4.drew (HK4.out.more (Keep.drew _ _))).mono ?_
          rintro e w6 ⟨rfl, hJ6, hk6⟩
          have HK6 : Hid (Keep X w w6) := ((HK4.out.more (Keep.drew _ _)).mono fun _ f => f.elim).more hk6
          have HJ6 := hide hJ6
          have c6 := hJ6.c6
          have f6 := hJ6.fz 6
          clear hJ6 hk6))
      go_wp2
      go_ret
      rw [HX0.out]
      obtain ⟨R, hj6, hRn, hRY, hback⟩ := HJ6.out.jour fun i hi => HXn.out i (Nat.le_trans HK6.out.size hi)
      have kP := keep_cell w6 P 6 (.int .i64 ((j.size : Int) + n))
      have hfin := hback _ _ (hj6.where_ j.current (j.size + n) kP fun cc hc => by
        rw [set_blk hc 6 _]
        have h5 := HJ6.out.c5
        rw [World.cell?, hc] at h5
        have h5' : cc[5]? = some (.int .i64 (j.current : Nat)) := by simpa using h5
        congr 2
        apply Array.ext_getElem?
        intro i
        rw [Array.getElem?_setIfInBounds, Array.getElem?_setIfInBounds, Array.getElem?_setIfInBounds]
        simp only [Array.size_setIfInBounds]
        by_cases h6 : 6 = i
        · simp [h6]
        · by_cases h5i : 5 = i
          · subst h5i
            have : 5 < cc.size := by
              rcases Nat.lt_or_ge 5 cc.size with h | h
              · exact h
              · rw [Array.getElem?_eq_none h] at h5'; cases h5'
            rw [Array.getElem?_eq_getElem this] at h5'
            injection h5' with h5'
            simp [this, h5']
          · simp [h6, h5i]) (kP.mono fun i e => e ▸ hj6.own_)
      exact ⟨rfl, hfin.1, HK6.out.more hfin.2⟩
    · rw [if_pos hc2] at HX0
      have hne : (rc2 != 0) = true := by simp [hc2]
      go_enter Try.func58, Try.ntmps58
      go_upto_region 4 with (
        go_at_call 61
        refine HFt.out.mono ?_
        rintro e w4 ⟨rfl, hk4⟩
        have HK4 := hide hk4
        have c0 := (HH.out.new hk4).c0
        have c5 := (HH.out.new hk4).c5
        clear hk4)
      go_region_held3 (fun w' => w'.cell? ⟨P, 0, none⟩ = some (.pointer (some ⟨d, 0, none⟩)) ∧ w'.cell? ⟨P, 5, none⟩ = some (.int .i64 (j.current : Nat))) (first | (exact ⟨c0, c5⟩) | (exact ⟨HJ6.out.c0, HJ6.out.c5⟩) | go_keep)
        ((go_at_call 63
          refine (HAp.out w4.drew (HK4.out.more (Keep.drew _ _))).mono ?_
          rintro e w6 ⟨rfl, hJ6, hk6⟩
          have HK6 : Hid (Keep X w w6) := ((HK4.out.more (Keep.drew _ _)).mono fun _ f => f.elim).more hk6
          have HJ6 := hide hJ6
          clear hJ6 hk6))
      go_wp2
      go_ret
      rw [HX0.out]
      exact ⟨rfl, HJ6.out, HK6.out⟩
  · rw [if_pos hf0] at HX0
    have hne : (f != 0) = true := by simp [hf0]
    go_enter Try.func58, Try.ntmps58
    go_wp2_with (
      go_at_call 61
      refine HFt.out.mono ?_
      rintro e w4 ⟨rfl, hk4⟩
      have HK4 := hide hk4
      clear hk4)
    go_ret
    rw [HX0.out]
    exact ⟨rfl, HH.out.new HK4.out, HK4.out.mono fun _ f => f.elim⟩

set_option maxHeartbeats 2000000 in
set_option maxRecDepth 10000 in
theorem place_any (X : Nat → Prop) (w : World) (P d : Nat) (j : J.Jr) (s : St) (a : Option Addr) (n c : Nat) (l : List Nat) (N : Nat) (h : JD X w P d j s) (g : Good N s) (hN : N + 1 ≤ 70368744177664) (hX : ∀ i, w.heap.size ≤ i → X i)
    (hr : Rd w a n l) (h0 : a = none → c = 0) (hrX : ∀ g off, a = some ⟨g, off, none⟩ → n ≠ 0 → ¬ X g) (hcu : j.current ≤ 1099511627776) (hsz : j.size ≤ 1099511627776) (hn : n ≤ 536870912) :
    Calls Try.prog 41 #[.pointer (some ⟨P, 0, none⟩), .slice a n c] w (JDidK X w P d s (J.Wants j n) fun ks => J.place j s ks l) := by
  have hnl := hr.1
  have c5 := h.c5
  have c6 := h.c6
  by_cases hA : j.current ≠ 0 ∧ j.size + n ≤ 65536
  · have HEx := hide (extend_any X w P d j s a n c l N h g (by omega) hX hr hrX hcu hsz (by omega))
    have HX0 : Hid (∀ ks, J.place j s ks l = J.extend j s l) := fun ks => by unfold J.place; rw [← hnl, if_pos hA]
    have HW : Hid (¬ J.Wants j n) := fun hw => hw hA
    have e1 : ((j.current : Int) != 0) = true := by simp; omega
    have e2 : (j.size : Int) + n ≤ 65536 := by omega
    clear h g hX hr hrX hA hnl
    go_enter Try.func41, Try.ntmps41
    go_wp2_with (
      go_at_call 58
      refine HEx.out.mono ?_
      rintro e w1 ⟨rfl, hd⟩
      have HD := hide hd
      clear hd)
    go_ret
    exact ⟨[], fun hw => absurd hw HW.out, by show JDid X w P d (J.place j s [] l) _ _; rw [HX0.out]; exact ⟨rfl, HD.out⟩⟩
  · have ok := g.ok (by omega)
    have HFr := hide (free_any X w P d j s h ok)
    have HX0 : Hid (∀ ks, J.place j s ks l = if J.freeCode s ks ≠ 0 then (J.freeCode s ks, j, s) else if j.held.begun = true then J.start j s (J.nextSeg ks).toNat [l] else J.start j s (J.nextSeg ks).toNat [J.pieceOf 2 j.held.next [], l]) := fun ks => by unfold J.place; rw [← hnl, if_neg hA]
    have HH := hide h
    have HG := hide g
    have HXn := hide hX
    have HR := hide hr
    have HR0 := hide h0
    have HRX := hide hrX
    have HNl := hide hnl
    have htest : (((j.current : Int) != 0) = false) ∨ (((j.current : Int) != 0) = true ∧ ¬ (j.size : Int) + n ≤ 65536) := by
      by_cases hc : j.current = 0
      · left; simp [hc]
      · right
        have : ¬ j.size + n ≤ 65536 := fun h => hA ⟨hc, h⟩
        exact ⟨by simp [hc], by omega⟩
    clear h g hX hr h0 hrX hA hnl ok
    have HSt1 : Hid (∀ w1 seg, Keep (fun _ => False) w w1 → seg ≤ 1099511627776 → Calls Try.prog 45 #[.pointer (some ⟨P, 0, none⟩), .int .i64 (seg : Nat), .slice (some ⟨w1.heap.size, 0, none⟩) 1 1] (w1.alloc (.cells #[.slice a n c] 32)) fun e w' => e = .returned (.int .i64 (J.start j s seg [l]).1) ∧ JD X w' P d (J.start j s seg [l]).2.1 (J.start j s seg [l]).2.2 ∧ Keep X w w') := fun w1 seg k1 hseg => by
      obtain ⟨W, hW⟩ : ∃ W, W = w1.alloc (.cells #[.slice a n c] 32) := ⟨_, rfl⟩
      have kW : Keep (fun _ => False) w W := by rw [hW]; exact k1.more (Keep.alloc _ _ _)
      have hpp := one_part hW ⟨a, n, c, rfl, HR.out.stay (S := fun _ => False) k1 fun _ _ _ f => f, HR0.out⟩
      rw [← hW]
      refine (start_any X W P d j s seg _ 1 1 [l] N (HH.out.new kW) HG.out hN (fun i hi => HXn.out i (Nat.le_trans kW.size hi)) (by omega) hpp (by have := HNl.out; simp; omega)).mono fun e w' ⟨h1, h2, h3⟩ => ⟨h1, h2, (kW.mono fun _ f => f.elim).more h3⟩
    rcases htest with e1 | ⟨e1, e2⟩
    · cases hbg : j.held.begun with
      | true =>
        have c1 := HH.out.c1
        rw [hbg] at c1
        have HBg := hide hbg
        clear hbg
        go_enter Try.func41, Try.ntmps41
        go_upto_region 4 with (
          go_at_call 44
          refine HFr.out.mono ?_
          rintro e w1 ⟨fa, fc, ks, hks, hk1, ⟨hfc, rfl⟩ | ⟨hfc, rfl, ho, hs1, hs2⟩⟩)
        · have hne : (J.freeCode s ks != 0) = true := by simp [hfc]
          have HXk : Hid (J.place j s ks l = (J.freeCode s ks, j, s)) := by show _ = _; rw [HX0.out, if_pos hfc]
          have HK1 := hide hk1
          have HKs := hide hks
          clear hk1 hks
          generalize J.freeCode s ks = fcode at *
          go_wp2
          go_ret
          exact ⟨ks, fun _ => HKs.out, by show JDid X w P d (J.place j s ks l) _ _; rw [HXk.out]; exact ⟨rfl, HH.out.new HK1.out, HK1.out.mono fun _ f => f.elim⟩⟩
        · obtain ⟨sg, hsg⟩ : ∃ sg : Nat, J.nextSeg ks = (sg : Int) := ⟨(J.nextSeg ks).toNat, by omega⟩
          have HSt := hide (HSt1.out w1 sg hk1 (by omega))
          have HXk : Hid (J.place j s ks l = J.start j s sg [l]) := by show _ = _; rw [HX0.out, if_neg (by simp [hfc]), if_pos HBg.out, hsg]; rfl
          have d1 := hk1.cell c1 fun f => f
          have HKs := hide hks
          rw [hsg]
          clear hsg hs1 hs2 ho hfc hk1 hks
          go_wp2_with (
            go_at_call 45
            refine HSt.out.mono ?_
            rintro e w2 ⟨rfl, hd2⟩
            have HD2 := hide hd2
            clear hd2)
          go_ret
          exact ⟨ks, fun _ => HKs.out, by show JDid X w P d (J.place j s ks l) _ _; rw [HXk.out]; exact ⟨rfl, HD2.out⟩⟩
      | false =>
        have c1 := HH.out.c1
        rw [hbg] at c1
        have c4 := HH.out.c4
        have HBg := hide hbg
        clear hbg
        go_enter Try.func41, Try.ntmps41
        go_upto_region 4 with (
          go_at_call 44
          refine HFr.out.mono ?_
          rintro e w1 ⟨fa, fc, ks, hks, hk1, ⟨hfc, rfl⟩ | ⟨hfc, rfl, ho, hs1, hs2⟩⟩)
        · have hne : (J.freeCode s ks != 0) = true := by simp [hfc]
          have HXk : Hid (J.place j s ks l = (J.freeCode s ks, j, s)) := by show _ = _; rw [HX0.out, if_pos hfc]
          have HK1 := hide hk1
          have HKs := hide hks
          clear hk1 hks
          generalize J.freeCode s ks = fcode at *
          go_wp2
          go_ret
          exact ⟨ks, fun _ => HKs.out, by show JDid X w P d (J.place j s ks l) _ _; rw [HXk.out]; exact ⟨rfl, HH.out.new HK1.out, HK1.out.mono fun _ f => f.elim⟩⟩
        · obtain ⟨sg, hsg⟩ : ∃ sg : Nat, J.nextSeg ks = (sg : Int) := ⟨(J.nextSeg ks).toNat, by omega⟩
          have HPc := hide (pieceOf_any 2 j.held.next none 0 0 [] w1 ⟨rfl, by decide, (fun d hd => by cases hd), .inl rfl⟩ (fun _ => rfl) (by decide) (by decide))
          have HSg := hide (show sg ≤ 1099511627776 by omega)
          have HXk : Hid (J.place j s ks l = J.start j s sg [J.pieceOf 2 j.held.next [], l]) := by show _ = _; rw [HX0.out, if_neg (by simp [hfc]), if_neg (by simp [HBg.out]), hsg]; rfl
          have d1 := hk1.cell c1 fun f => f
          have d4 := hk1.cell c4 fun f => f
          have HKs := hide hks
          have HK1 := hide hk1
          rw [hsg]
          clear hsg hs1 hs2 ho hfc hk1 hks
          go_wp2_with (first
            | (go_at_call 42
               refine HPc.out.mono ?_
               rintro e w2 ⟨v, rfl, hrow, hk2, hnew⟩
               obtain ⟨v1, v2, hv⟩ := ownsRow_shape hrow.1
               subst hv
               have hpl : (J.pieceOf 2 j.held.next []).length = 17 := by rw [J.pieceOf_length]; rfl
               have HSt : Hid (Calls Try.prog 45 #[.pointer (some ⟨P, 0, none⟩), .int .i64 (sg : Nat), .slice (some ⟨w2.heap.size, 0, none⟩) 2 2] (w2.alloc (.cells #[.slice v1 17 v2, .slice a n c] 32)) fun e w' => e = .returned (.int .i64 (J.start j s sg [J.pieceOf 2 j.held.next [], l]).1) ∧ JD X w' P d (J.start j s sg [J.pieceOf 2 j.held.next [], l]).2.1 (J.start j s sg [J.pieceOf 2 j.held.next [], l]).2.2 ∧ Keep X w w') := by
                 obtain ⟨W, hW⟩ : ∃ W, W = w2.alloc (.cells #[.slice v1 17 v2, .slice a n c] 32) := ⟨_, rfl⟩
                 have k02 : Keep (fun _ => False) w w2 := HK1.out.more hk2
                 have kW : Keep (fun _ => False) w W := by rw [hW]; exact k02.more (Keep.alloc _ _ _)
                 have hrv := hrow.rdV (by rw [hpl]; decide)
                 rw [hpl] at hrv
                 have hpp := two_parts hW hrv ⟨a, n, c, rfl, HR.out.stay (S := fun _ => False) k02 fun _ _ _ f => f, HR0.out⟩
                 rw [← hW]
                 exact (start_any X W P d j s sg _ 2 2 _ N (HH.out.new kW) HG.out hN (fun i hi => HXn.out i (Nat.le_trans kW.size hi)) (by have := HSg.out; omega) hpp (by have := HNl.out; simp [hpl]; omega)).mono fun e w' ⟨h1, h2, h3⟩ => ⟨h1, h2, (kW.mono fun _ f => f.elim).more h3⟩
               rw [hpl]
               clear hrow hk2 hnew hpl)
            | (go_at_call 45
               refine HSt.out.mono ?_
               rintro e w3 ⟨rfl, hd2⟩
               have HD2 := hide hd2
               clear hd2))
          go_ret
          exact ⟨ks, fun _ => HKs.out, by show JDid X w P d (J.place j s ks l) _ _; rw [HXk.out]; exact ⟨rfl, HD2.out⟩⟩
    · cases hbg : j.held.begun with
      | true =>
        have c1 := HH.out.c1
        rw [hbg] at c1
        have HBg := hide hbg
        clear hbg
        go_enter Try.func41, Try.ntmps41
        go_upto_region 4 with (
          go_at_call 44
          refine HFr.out.mono ?_
          rintro e w1 ⟨fa, fc, ks, hks, hk1, ⟨hfc, rfl⟩ | ⟨hfc, rfl, ho, hs1, hs2⟩⟩)
        · have hne : (J.freeCode s ks != 0) = true := by simp [hfc]
          have HXk : Hid (J.place j s ks l = (J.freeCode s ks, j, s)) := by show _ = _; rw [HX0.out, if_pos hfc]
          have HK1 := hide hk1
          have HKs := hide hks
          clear hk1 hks
          generalize J.freeCode s ks = fcode at *
          go_wp2
          go_ret
          exact ⟨ks, fun _ => HKs.out, by show JDid X w P d (J.place j s ks l) _ _; rw [HXk.out]; exact ⟨rfl, HH.out.new HK1.out, HK1.out.mono fun _ f => f.elim⟩⟩
        · obtain ⟨sg, hsg⟩ : ∃ sg : Nat, J.nextSeg ks = (sg : Int) := ⟨(J.nextSeg ks).toNat, by omega⟩
          have HSt := hide (HSt1.out w1 sg hk1 (by omega))
          have HXk : Hid (J.place j s ks l = J.start j s sg [l]) := by show _ = _; rw [HX0.out, if_neg (by simp [hfc]), if_pos HBg.out, hsg]; rfl
          have d1 := hk1.cell c1 fun f => f
          have HKs := hide hks
          rw [hsg]
          clear hsg hs1 hs2 ho hfc hk1 hks
          go_wp2_with (
            go_at_call 45
            refine HSt.out.mono ?_
            rintro e w2 ⟨rfl, hd2⟩
            have HD2 := hide hd2
            clear hd2)
          go_ret
          exact ⟨ks, fun _ => HKs.out, by show JDid X w P d (J.place j s ks l) _ _; rw [HXk.out]; exact ⟨rfl, HD2.out⟩⟩
      | false =>
        have c1 := HH.out.c1
        rw [hbg] at c1
        have c4 := HH.out.c4
        have HBg := hide hbg
        clear hbg
        go_enter Try.func41, Try.ntmps41
        go_upto_region 4 with (
          go_at_call 44
          refine HFr.out.mono ?_
          rintro e w1 ⟨fa, fc, ks, hks, hk1, ⟨hfc, rfl⟩ | ⟨hfc, rfl, ho, hs1, hs2⟩⟩)
        · have hne : (J.freeCode s ks != 0) = true := by simp [hfc]
          have HXk : Hid (J.place j s ks l = (J.freeCode s ks, j, s)) := by show _ = _; rw [HX0.out, if_pos hfc]
          have HK1 := hide hk1
          have HKs := hide hks
          clear hk1 hks
          generalize J.freeCode s ks = fcode at *
          go_wp2
          go_ret
          exact ⟨ks, fun _ => HKs.out, by show JDid X w P d (J.place j s ks l) _ _; rw [HXk.out]; exact ⟨rfl, HH.out.new HK1.out, HK1.out.mono fun _ f => f.elim⟩⟩
        · obtain ⟨sg, hsg⟩ : ∃ sg : Nat, J.nextSeg ks = (sg : Int) := ⟨(J.nextSeg ks).toNat, by omega⟩
          have HPc := hide (pieceOf_any 2 j.held.next none 0 0 [] w1 ⟨rfl, by decide, (fun d hd => by cases hd), .inl rfl⟩ (fun _ => rfl) (by decide) (by decide))
          have HSg := hide (show sg ≤ 1099511627776 by omega)
          have HXk : Hid (J.place j s ks l = J.start j s sg [J.pieceOf 2 j.held.next [], l]) := by show _ = _; rw [HX0.out, if_neg (by simp [hfc]), if_neg (by simp [HBg.out]), hsg]; rfl
          have d1 := hk1.cell c1 fun f => f
          have d4 := hk1.cell c4 fun f => f
          have HKs := hide hks
          have HK1 := hide hk1
          rw [hsg]
          clear hsg hs1 hs2 ho hfc hk1 hks
          go_wp2_with (first
            | (go_at_call 42
               refine HPc.out.mono ?_
               rintro e w2 ⟨v, rfl, hrow, hk2, hnew⟩
               obtain ⟨v1, v2, hv⟩ := ownsRow_shape hrow.1
               subst hv
               have hpl : (J.pieceOf 2 j.held.next []).length = 17 := by rw [J.pieceOf_length]; rfl
               have HSt : Hid (Calls Try.prog 45 #[.pointer (some ⟨P, 0, none⟩), .int .i64 (sg : Nat), .slice (some ⟨w2.heap.size, 0, none⟩) 2 2] (w2.alloc (.cells #[.slice v1 17 v2, .slice a n c] 32)) fun e w' => e = .returned (.int .i64 (J.start j s sg [J.pieceOf 2 j.held.next [], l]).1) ∧ JD X w' P d (J.start j s sg [J.pieceOf 2 j.held.next [], l]).2.1 (J.start j s sg [J.pieceOf 2 j.held.next [], l]).2.2 ∧ Keep X w w') := by
                 obtain ⟨W, hW⟩ : ∃ W, W = w2.alloc (.cells #[.slice v1 17 v2, .slice a n c] 32) := ⟨_, rfl⟩
                 have k02 : Keep (fun _ => False) w w2 := HK1.out.more hk2
                 have kW : Keep (fun _ => False) w W := by rw [hW]; exact k02.more (Keep.alloc _ _ _)
                 have hrv := hrow.rdV (by rw [hpl]; decide)
                 rw [hpl] at hrv
                 have hpp := two_parts hW hrv ⟨a, n, c, rfl, HR.out.stay (S := fun _ => False) k02 fun _ _ _ f => f, HR0.out⟩
                 rw [← hW]
                 exact (start_any X W P d j s sg _ 2 2 _ N (HH.out.new kW) HG.out hN (fun i hi => HXn.out i (Nat.le_trans kW.size hi)) (by have := HSg.out; omega) hpp (by have := HNl.out; simp [hpl]; omega)).mono fun e w' ⟨h1, h2, h3⟩ => ⟨h1, h2, (kW.mono fun _ f => f.elim).more h3⟩
               rw [hpl]
               clear hrow hk2 hnew hpl)
            | (go_at_call 45
               refine HSt.out.mono ?_
               rintro e w3 ⟨rfl, hd2⟩
               have HD2 := hide hd2
               clear hd2))
          go_ret
          exact ⟨ks, fun _ => HKs.out, by show JDid X w P d (J.place j s ks l) _ _; rw [HXk.out]; exact ⟨rfl, HD2.out⟩⟩

end Go.Proofs.Ythfnpbkclmkkeaa
