/- Package journal: Append. -/
import Derived.Test.YthfnpbkclmkkeaaJPlace
namespace Go.Proofs.Ythfnpbkclmkkeaa
open Go.RowKit Go.Lib

theorem start_held (j : J.Jr) (s : St) (seg : Nat) (ps : List (List Nat)) : (J.start j s seg ps).2.1.held = j.held := by
  unfold J.start
  split
  · rfl
  · split
    · rfl
    · split <;> rfl
theorem extend_held (j : J.Jr) (s : St) (l : List Nat) : (J.extend j s l).2.1.held = j.held := by
  unfold J.extend
  split
  · rfl
  · split <;> rfl
theorem place_held (j : J.Jr) (s : St) (ks : List Int) (l : List Nat) : (J.place j s ks l).2.1.held = j.held := by
  unfold J.place
  split
  · exact extend_held _ _ _
  · split
    · rfl
    · split <;> exact start_held _ _ _ _

/-- what Append's last part leaves -/
theorem app_end {R : Nat → Prop} {W w2 w3 : World} {P d : Nat} {im : List Nat} {rs : List (List Nat)} {nx cur sz : Nat} {vi vr : Value} {xs : List Value} {p : List Nat} {v1 : Option Addr} {v2 g cap : Nat}
    (HJ : JIn R W P d ⟨⟨true, im, rs, nx⟩, cur, sz⟩ vi vr xs) (hR : ∀ i, W.heap.size ≤ i → R i)
    (HK2 : Keep (fun _ => False) W w2) (HRow : Row w2 (.slice v1 p.length v2) p) (HNew : ∀ g, (Value.slice v1 p.length v2).ownBlock = some g → W.heap.size ≤ g)
    (HO3 : w3.ownsRow 0 32 1 (.slice (some ⟨g, 0, none⟩) (rs.length + 1) cap) (rs.length + 1) (xs ++ [.slice v1 p.length v2]))
    (HG3 : (w2.alloc (.cells #[.slice v1 p.length v2] 32)).grownBy w3 vr.ownBlock) (HLc : vr.ownBlock = some g ∨ g = w2.heap.size + 1)
    (HB3 : w3.heap[P]? = some (.cells (jcells d true vi vr nx cur sz) 64 (0, 0))) :
    JAt R ((w3.setCell ⟨P, 3, none⟩ (.slice (some ⟨g, 0, none⟩) (rs.length + 1) cap)).setCell ⟨P, 4, none⟩ (.int .i64 ((nx : Int) + 1))) P d ⟨⟨true, im, rs ++ [p], nx + 1⟩, cur, sz⟩ ∧
      Keep R W ((w3.setCell ⟨P, 3, none⟩ (.slice (some ⟨g, 0, none⟩) (rs.length + 1) cap)).setCell ⟨P, 4, none⟩ (.int .i64 ((nx : Int) + 1))) := by
  have h1 := recs_one (r := p) (g := g) (cap := cap) (w3 := w3) HJ.recs HK2 HRow (fun g e => hR g (HNew g e)) HO3 HG3 HLc hR
  have k4 : Keep (fun i => i = P) w3 ((w3.setCell ⟨P, 3, none⟩ (.slice (some ⟨g, 0, none⟩) (rs.length + 1) cap)).setCell ⟨P, 4, none⟩ (.int .i64 ((nx : Int) + 1))) := (keep_cell _ _ _ _).more (keep_cell _ _ _ _)
  have i3 : Row w3 vi im := HJ.img.keep h1.2 fun g e e' => row_not HJ.recs.own HJ.img e e'
  refine ⟨⟨vi, _, _, ?_, i3.keep k4 fun g e e' => row_far i3 HB3 (by decide) e e', HJ.imgR, h1.1.far HB3 (by decide) (by decide) k4, HJ.own⟩, (h1.2.mono fun i e => HJ.recs.blk i e).trans k4 fun i e => .inl (e ▸ HJ.own)⟩
  rw [set_blk (set_blk HB3 3 _) 4 _]
  rfl

set_option maxHeartbeats 4000000 in
set_option maxRecDepth 10000 in
theorem jappend_any (X : Nat → Prop) (w : World) (P d : Nat) (j : J.Jr) (s : St) (a : Option Addr) (n c : Nat) (b : List Nat) (N : Nat) (h : JD X w P d j s) (g : Good N s) (hN : N + 1 ≤ 70368744177664) (hX : ∀ i, w.heap.size ≤ i → X i)
    (hr : Rd w a n b) (h0 : a = none → c = 0) (hrX : ∀ g off, a = some ⟨g, off, none⟩ → ¬ X g) (hcu : j.current ≤ 1099511627776) (hsz : j.size ≤ 1099511627776) (hnx : j.held.next ≤ 1099511627777) (hrl : j.held.records.length ≤ 549755813888) :
    Calls Try.prog 18 #[.pointer (some ⟨P, 0, none⟩), .slice a n c] w (JDidK X w P d s (b.length ≤ 1048576 ∧ j.held.next ≤ 1099511627776 ∧ J.Wants j (17 + b.length)) fun ks => J.append j s ks b) := by
  have hnl := hr.1
  have hnb := hr.2.1
  have c4 := h.c4
  by_cases hlong : 1048576 < n
  · have HX0 : Hid (∀ ks, J.append j s ks b = (60, j, s)) := fun ks => by unfold J.append; rw [← hnl, if_pos hlong]
    have HH := hide h
    have HL : Hid (¬ b.length ≤ 1048576) := by show ¬ _; omega
    have hl' : (n : Int) > 1048576 := by omega
    clear h g hX hr h0 hrX hnl hlong
    go_enter Try.func18, Try.ntmps18
    go_wp2
    go_ret
    exact ⟨[], fun hw => absurd hw.1 HL.out, by show JDid X w P d (J.append j s [] b) _ _; rw [HX0.out]; exact ⟨rfl, HH.out, Keep.refl _ _⟩⟩
  by_cases hlast : 1099511627776 < j.held.next
  · have HX0 : Hid (∀ ks, J.append j s ks b = (61, j, s)) := fun ks => by unfold J.append; rw [← hnl, if_neg hlong, if_pos hlast]
    have HH := hide h
    have HL : Hid (¬ j.held.next ≤ 1099511627776) := by show ¬ _; omega
    have hl' : ¬ (n : Int) > 1048576 := by omega
    have hl2 : (j.held.next : Int) > 1099511627776 := by omega
    clear h g hX hr h0 hrX hnl hlong hlast
    generalize j.held.next = nx at *
    go_enter Try.func18, Try.ntmps18
    go_wp2
    go_ret
    exact ⟨[], fun hw => absurd hw.2.1 HL.out, by show JDid X w P d (J.append j s [] b) _ _; rw [HX0.out]; exact ⟨rfl, HH.out, Keep.refl _ _⟩⟩
  have HX0 : Hid (∀ ks, J.append j s ks b = if (J.place j s ks (J.pieceOf 1 j.held.next b)).1 ≠ 0 then J.place j s ks (J.pieceOf 1 j.held.next b)
      else (0, ⟨⟨true, j.held.image, j.held.records ++ [b], j.held.next + 1⟩, (J.place j s ks (J.pieceOf 1 j.held.next b)).2.1.current, (J.place j s ks (J.pieceOf 1 j.held.next b)).2.1.size⟩, (J.place j s ks (J.pieceOf 1 j.held.next b)).2.2)) := fun ks => by
    unfold J.append
    rw [← hnl, if_neg hlong, if_neg hlast]
  have HPc := hide (pieceOf_any 1 j.held.next a n c b w hr h0 (by omega) (by decide))
  have hpl : (J.pieceOf 1 j.held.next b).length = 17 + n := by rw [J.pieceOf_length, hnl]
  have HPl : Hid (∀ w1 va vc, Keep (fun _ => False) w w1 → Rd w1 va (17 + n) (J.pieceOf 1 j.held.next b) → (va = none → vc = 0) → (∀ g off, va = some ⟨g, off, none⟩ → w.heap.size ≤ g ∧ g < w1.heap.size) →
      Calls Try.prog 41 #[.pointer (some ⟨P, 0, none⟩), .slice va (17 + n) vc] w1 fun e w' => ∃ ks, (J.Wants j (17 + n) → s.down = false → J.Keys s ks) ∧ e = .returned (.int .i64 (J.place j s ks (J.pieceOf 1 j.held.next b)).1) ∧ JD X w' P d (J.place j s ks (J.pieceOf 1 j.held.next b)).2.1 (J.place j s ks (J.pieceOf 1 j.held.next b)).2.2 ∧ Keep X w w') := fun w1 va vc k1 hrd hv0 hloc => by
    have hJ1 := h.part k1
    refine (place_any _ w1 P d j s va (17 + n) vc _ N hJ1 g hN (fun i hi => ⟨hX i (Nat.le_trans k1.size hi), .inr hi⟩) hrd hv0 (fun g off e _ hi => by have := hloc g off e; have := hi.2; omega) hcu hsz (by omega)).mono fun e w' ⟨ks, hks, h1, h2, h3⟩ => ⟨ks, hks, h1, h2.mono fun i e => e.1, (k1.mono fun _ f => f.elim).more (h3.mono fun i e => e.1)⟩
  have HWt : Hid (17 + b.length = 17 + n) := by show _ = _; rw [hnl]
  have HXn := hide hX
  have HR := hide hr
  have HR0 := hide h0
  have HRX := hide hrX
  have hl' : ¬ (n : Int) > 1048576 := by omega
  have hl2 : ¬ (j.held.next : Int) > 1099511627776 := by omega
  have hnn : n ≤ 1048576 := by omega
  obtain ⟨i0, hi, hz0, hz1, hz2⟩ := info_parts info_sl
  have HI := hide (And.intro hi (And.intro hz0 (And.intro hz1 hz2)))
  have HRl := hide hrl
  have HPle := hide hpl
  have HNlb := hide hnl
  clear h g hX hr h0 hrX hlong hlast hi hz0 hz1 hz2 hrl hpl hnl
  obtain ⟨⟨bg0, im, rs, nx⟩, cur0, sz0⟩ := j
  simp only at HX0 HPc HPl HRl HPle c4 hnx hl2
  generalize hpc : J.pieceOf 1 nx b = pc at *
  clear hpc
  go_enter Try.func18, Try.ntmps18
  go_upto_region 6 with (first
    | (go_at_call 42
       refine HPc.out.mono ?_
       rintro e w1 ⟨v, rfl, hrow, hk1, hnew⟩
       obtain ⟨va, vc, hv, hrd, hv0, _, hvb⟩ := hrow.rd (by rw [HPle.out]; omega)
       subst hv
       rw [HPle.out] at hrd ⊢
       have HPl1 := hide (HPl.out w1 va vc hk1 hrd hv0 (fun g off e => by
         obtain ⟨g', e1, e2⟩ := hvb _ e
         injection e1 with e1 _
         subst e1
         exact ⟨hnew _ e2, (hrow.1.lt _ e2).2⟩))
       clear hrow hk1 hnew hrd hv0 hvb)
    | (go_at_call 41
       refine HPl1.out.mono ?_
       rintro e w2 ⟨ks, hks, rfl, hJ2, hk2⟩
       have HKs := hide hks
       have HJ2 := hide hJ2
       have HK2 := hide hk2
       have HX1 := hide (HX0.out ks)
       have HHe := hide (place_held ⟨⟨bg0, im, rs, nx⟩, cur0, sz0⟩ s ks pc)
       clear hks hJ2 hk2))
  generalize J.place ⟨⟨bg0, im, rs, nx⟩, cur0, sz0⟩ s ks pc = r at *
  obtain ⟨rc, ⟨hd2, cur, sz⟩, s2⟩ := r
  simp only at HX1 HJ2 HHe
  have hhe : hd2 = ⟨bg0, im, rs, nx⟩ := HHe.out
  subst hhe
  have HKs2 : Hid (b.length ≤ 1048576 ∧ nx ≤ 1099511627776 ∧ J.Wants ⟨⟨bg0, im, rs, nx⟩, cur0, sz0⟩ (17 + b.length) → s.down = false → J.Keys s ks) := fun hw => HKs.out (by rw [← HWt.out]; exact hw.2.2)
  by_cases hrc : rc = 0
  · subst hrc
    rw [if_neg (by simp)] at HX1
    obtain ⟨R, ⟨vi, vr, xs, hji⟩, hRn, hRX, hback⟩ := HJ2.out.jour fun i hi => HXn.out i (Nat.le_trans HK2.out.size hi)
    obtain ⟨W, hW⟩ : ∃ W, W = w2.setCell ⟨P, 1, none⟩ (.bool true) := ⟨_, rfl⟩
    have kP : Keep (fun i => i = P) w2 W := by rw [hW]; exact keep_cell _ _ _ _
    have hjW : JIn R W P d ⟨⟨true, im, rs, nx⟩, cur, sz⟩ vi vr xs := ⟨by rw [hW, set_blk hji.blk 1 _]; rfl, hji.img.keep kP fun g e e' => row_far hji.img hji.blk (by decide) e e', hji.imgR, hji.recs.far hji.blk (by decide) (by decide) kP, hji.own⟩
    have HRW : Hid (∀ i, W.heap.size ≤ i → R i) := fun i hi => hRn i (Nat.le_trans kP.size hi)
    have HBk : Hid (∀ w' j', JAt R w' P d j' → Keep R W w' → JD X w' P d j' s2 ∧ Keep X w w') := fun w' j' h1 h2 => by
      have := hback w' j' h1 ((kP.mono fun i e => e ▸ hji.own).more h2)
      exact ⟨this.1, HK2.out.more this.2⟩
    have hrW : Rd W a n b := HR.out.stay (HK2.out.more (kP.mono fun i e => e ▸ hRX _ hji.own)) HRX.out
    have c1 := cell_blk hji.blk 1 (v := .bool bg0) rfl
    have f1 := frozen_blk hji.blk 1
    have d3 := cell_blk hjW.blk 3 (v := vr) rfl
    have d4 := cell_blk hjW.blk 4 (v := .int .i64 (nx : Nat)) rfl
    have HJW := hide hjW
    have HLy : Hid (Calls Try.prog 43 #[.slice (some ⟨W.heap.size, 0, none⟩) 1 1] (W.alloc (.cells #[.slice a n c] 32)).drew (LaidJ W b)) := jlay_one_drew W 32 a n c b hrW HR0.out (by omega)
    have dA : (W.alloc (.cells #[.slice a n c] 32)).drew.cell? ⟨P, 3, none⟩ = some vr := (Keep.alloc (fun _ => False) W (.cells #[.slice a n c] 32)).cell d3 fun f => f
    have H63 : Hid (rs.length + 1 ≤ maxLen) := by show _ ≤ _; have := HRl.out; unfold maxLen; omega
    have HBy : Hid ((rs.length + 1) * 24 ≤ 140737488355328) := by show _ ≤ _; have := HRl.out; omega
    have HW := hide hW
    clear hback hRn hRX hji hjW kP hrW hW
    go_upto_region 9 with fail
    rw [← HW.out]
    go_region_law
      (first
      | (rw [if_pos (by simp [Region.wanted])]
         go_simp
         go_at_call 43
         refine HLy.out.mono ?_
         rintro e w3 ⟨v, rfl, hrow, hk3, hnew⟩
         have d3' := hk3.cell d3 fun f => f
         obtain ⟨v1, v2, hv⟩ := ownsRow_shape hrow.1
         subst hv
         have HRow := hide hrow
         have dA2 : (w3.alloc (.cells #[.slice v1 b.length v2] 32)).cell? ⟨P, 3, none⟩ = some vr := (Keep.alloc (fun _ => False) w3 (.cells #[.slice v1 b.length v2] 32)).cell d3' fun f => f
         have HK3 := hide hk3
         have HNew := hide hnew
         have hkA : Keep (fun _ => False) w3 (w3.alloc (.cells #[.slice v1 b.length v2] 32)) := Keep.alloc _ _ _
         have HRA := hide (HJW.out.recs.keep (hk3.more hkA) fun _ _ _ f => f)
         have HBA := hide ((hk3.more hkA).blk HJW.out.blk fun f => f)
         have HSz : Hid ((w3.alloc (.cells #[.slice v1 b.length v2] 32)).heap.size = w3.heap.size + 1) := alloc_size _ _
         clear hrow hk3 hnew hkA)
      | (refine step_append_lies _ (by rfl) _ _ 38 (by rfl) 0 32 i0 (.slice none 0 0) 1 24 Try.underlying38 HI.out.1 HI.out.2.1 HI.out.2.2.1 HI.out.2.2.2 rfl (by decide) vr rs.length xs (by rfl) HRA.out.own ⟨w3.heap.size, 0, none⟩ 1 1 [.slice v1 b.length v2] (by rfl) (by rfl) (one_news _ _ _ _) (one_ones _ _ _) (by decide) H63.out HBy.out (Nat.zero_le _) (w3.heap.size + 1) HSz.out ?_
         intro g cap w4 hown4 hgr4 hloc hlt4
         have k4 : Keep (fun i => vr.ownBlock = some i) (w3.alloc (.cells #[.slice v1 b.length v2] 32)) w4 := Keep.grown hgr4 fun _ e => e
         have hB4 := k4.blk HBA.out fun e => rows_far HRA.out.own HBA.out (by decide) e rfl
         have e3 : w4.cell? ⟨P, 3, none⟩ = some vr := cell_blk hB4 3 rfl
         have e4 : w4.cell? ⟨P, 4, none⟩ = some (.int .i64 (nx : Nat)) := cell_blk hB4 4 rfl
         have g3 := frozen_blk hB4 3
         have g4 := frozen_blk hB4 4
         have HB4 := hide hB4
         have HO4 := hide hown4
         have HG4 := hide hgr4
         have HLc := hide hloc
         clear hown4 hgr4 hloc hlt4 k4 hB4))
    all_goals go_wp2
    all_goals go_ret
    all_goals (
      have hfin := app_end HJW.out HRW.out HK3.out HRow.out HNew.out HO4.out HG4.out HLc.out HB4.out
      have hfin2 := HBk.out _ _ hfin.1 hfin.2
      exact ⟨ks, HKs2.out, by show JDid X w P d (J.append _ s ks b) _ _; rw [HX1.out]; exact ⟨rfl, hfin2⟩⟩)
  · rw [if_pos hrc] at HX1
    have hne : (rc != 0) = true := by simp [hrc]
    go_wp2
    go_ret
    exact ⟨ks, HKs2.out, by show JDid X w P d (J.append _ s ks b) _ _; rw [HX1.out]; exact ⟨rfl, HJ2.out, HK2.out⟩⟩

end Go.Proofs.Ythfnpbkclmkkeaa
