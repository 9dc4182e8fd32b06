/- Package journal: a segment taken in. -/
import Derived.Test.YthfnpbkclmkkeaaJScan
import Derived.Maps.AppendAt
namespace Go.Proofs.Ythfnpbkclmkkeaa
open Go.RowKit Go.Lib

/-- the cells of a journal -/
def jcells (d : Nat) (bg : Bool) (vi vr : Value) (nx cur sz : Nat) : Array Value := #[.pointer (some ⟨d, 0, none⟩), .bool bg, vi, vr, .int .i64 (nx : Nat), .int .i64 (cur : Nat), .int .i64 (sz : Nat)]

/-- a journal in memory; R: the blocks that may be its own -/
structure JIn (R : Nat → Prop) (w : World) (P d : Nat) (j : J.Jr) (vi vr : Value) (xs : List Value) : Prop where
  blk : w.heap[P]? = some (.cells (jcells d j.held.begun vi vr j.held.next j.current j.size) 64 (0, 0))
  img : Row w vi j.held.image
  imgR : ∀ g, vi.ownBlock = some g → R g
  recs : RecsX R w vr j.held.records xs
  own : R P
def JAt (R : Nat → Prop) (w : World) (P d : Nat) (j : J.Jr) : Prop := ∃ vi vr xs, JIn R w P d j vi vr xs

theorem JIn.keep {R T : Nat → Prop} {w w' : World} {P d : Nat} {j : J.Jr} {vi vr : Value} {xs : List Value} (h : JIn R w P d j vi vr xs) (hk : Keep T w w') (hT : ∀ g, R g → g < w.heap.size → ¬ T g) : JIn R w' P d j vi vr xs :=
  ⟨hk.blk h.blk (hT P h.own (Array.getElem?_eq_some_iff.1 h.blk).1), h.img.keep hk fun g e => hT g (h.imgR g e) (h.img.1.lt g e).2, h.imgR, h.recs.keep hk hT, h.own⟩
theorem JAt.keep {R T : Nat → Prop} {w w' : World} {P d : Nat} {j : J.Jr} (h : JAt R w P d j) (hk : Keep T w w') (hT : ∀ g, R g → g < w.heap.size → ¬ T g) : JAt R w' P d j := by
  obtain ⟨vi, vr, xs, h⟩ := h
  exact ⟨vi, vr, xs, h.keep hk hT⟩
theorem JAt.mono {R R' : Nat → Prop} {w : World} {P d : Nat} {j : J.Jr} (h : JAt R w P d j) (hR : ∀ g, R g → R' g) : JAt R' w P d j := by
  obtain ⟨vi, vr, xs, h⟩ := h
  exact ⟨vi, vr, xs, h.blk, h.img, fun g e => hR g (h.imgR g e), h.recs.mono hR, hR _ h.own⟩
/-- all its blocks lie below the heap's size -/
theorem JAt.low {R : Nat → Prop} {w : World} {P d : Nat} {j : J.Jr} (h : JAt R w P d j) : JAt (fun i => R i ∧ i < w.heap.size) w P d j := by
  obtain ⟨vi, vr, xs, h⟩ := h
  refine ⟨vi, vr, xs, h.blk, h.img, fun g e => ⟨h.imgR g e, (h.img.1.lt g e).2⟩, ⟨h.recs.own, fun k hk => ?_, fun g e => ⟨h.recs.blk g e, (h.recs.own.lt g e).2⟩⟩, h.own, (Array.getElem?_eq_some_iff.1 h.blk).1⟩
  obtain ⟨u, h1, h2, h3⟩ := h.recs.row k hk
  exact ⟨u, h1, h2, fun g e => ⟨h3 g e, (h2.1.lt g e).2⟩⟩

set_option maxRecDepth 100000 in
/-- records appended, as one step of a region that draws -/
theorem step_append_recs {R : Nat → Prop} {w : World} {ops : Array Oper} {o : Oper} {a : Act} {K : Act → World → Prop} {Q : Exit → Act → World → Prop} {E : Prop} (hgd : o.guard = none) (s x : Operand)
    (ho : o.op = .call { callee := .builtin .append, args := #[s, x], argTypes := #[38, 38] })
    (v v2 : Value) (rs rs2 : List (List Nat)) (xs xs2 : List Value) (hs : a.eval s = v) (h : RecsX R w v rs xs) (hx : a.eval x = v2) (h2 : RecsX R w v2 rs2 xs2) (hR : ∀ i, w.heap.size ≤ i → R i) (hl : rs.length + rs2.length ≤ 1099511627776)
    (hK : ∀ a' n' c' ys w', RecsX R w' (.slice a' n' c') (rs ++ rs2) ys → Keep (fun i => v.ownBlock = some i) w w' → K (a.put o.dst (.slice a' n' c')) w') :
    if Region.wanted o (yielded ops a.tmps) = true then Oper.wp Try.prog o a w K Q else E := by
  have hw : Region.wanted o (yielded ops a.tmps) = true := by simp [Region.wanted, hgd]
  rw [if_pos hw]
  obtain ⟨i0, hi, hz0, hz1, hz2⟩ := info_parts info_sl
  rcases h2.own.2 with ⟨rfl, h0⟩ | ⟨g, cap, cur, rfl, hb, hg, hn, hm, hsz, htk⟩
  · have hrs : rs2 = [] := List.eq_nil_of_length_eq_zero h0
    subst hrs
    have hrun := run_append_owned_none (P := Try.prog) (w := w) 0 38 o.type 32 i0 1 Try.underlying38 hi v rs.length xs h.own
    obtain ⟨a', c', rfl⟩ := ownsRow_shape h.own
    unfold Oper.wp
    simp [execOp, ho, resolve, invoke, builtin, hs, hx, hrun, Result.andThen]
    exact hK _ _ _ xs _ (by rw [List.append_nil]; exact h) (Keep.refl _ _)
  · obtain ⟨v', w', hrun, o1, o2, _, o4⟩ := run_append_own_at (P := Try.prog) w 0 38 o.type 32 i0 (.slice none 0 0) 1 24 Try.underlying38 hi hz0 hz1 hz2 rfl (by decide) v rs.length xs h.own ⟨g, 0, none⟩ rs2.length cap xs2 (by have := h2.own.1; omega) (fun j u hj => h2.own.cells (g := g) rfl j u hj) (fun u hu => by
      obtain ⟨j, hj, e⟩ := List.getElem_of_mem hu
      obtain ⟨u', e1, e2, _⟩ := h2.row j (by have := h2.own.1; omega)
      rw [List.getElem?_eq_getElem hj, e] at e1
      injection e1 with e1
      subst e1
      obtain ⟨a', c', rfl⟩ := ownsRow_shape e2.1
      rfl) (by unfold maxLen; omega) (by omega) (Nat.zero_le _)
    obtain ⟨a', c', rfl⟩ := ownsRow_shape o1
    unfold Oper.wp
    simp [execOp, ho, resolve, invoke, builtin, hs, hx, hrun, Result.andThen]
    refine hK _ _ _ (xs ++ xs2) _ (h.adds h2.row o1 o2 fun g' e => ?_) (Keep.grown o2 fun _ e => e)
    rcases o4 with o4 | o4
    · rw [o4] at e; exact h.blk g' e
    · rw [o4] at e; injection e with e; subst e; exact hR _ (Nat.le_refl _)

/-- what follow leaves -/
def FollowAs (R : Nat → Prop) (w : World) (P d : Nat) (j : J.Jr) (r : J.Held × Bool) (e : Ending) (w' : World) : Prop :=
  e = .returned (.bool r.2) ∧ JAt R w' P d ⟨r.1, j.current, j.size⟩ ∧ Keep R w w'

set_option maxHeartbeats 4000000 in
set_option maxRecDepth 10000 in
theorem follow_any (R : Nat → Prop) (P d : Nat) (j : J.Jr) (seg : Nat) (a : Option Addr) (n c : Nat) (l : List Nat) (w : World) (hj : JAt R w P d j) (hR : ∀ i, w.heap.size ≤ i → R i) (h : Rd w a n l) (hc : n ≤ c) (hn : n ≤ 67108864) (hrl : j.held.records.length ≤ 549755813888) :
    Calls Try.prog 30 #[.pointer (some ⟨P, 1, none⟩), .int .i64 (seg : Nat), .slice a n c] w (FollowAs R w P d j (J.follow j.held seg l)) := by
  obtain ⟨vi, vr, xs, hj⟩ := hj
  obtain ⟨⟨bg, im, rs, nx⟩, cur, sz⟩ := j
  have HJ := hide hj
  have HR := hide hR
  have HH := hide h
  have HRl : Hid (rs.length ≤ 549755813888) := hrl
  have HB := baseOf_any seg a n c l w h
  obtain ⟨ai, ci, evi⟩ := ownsRow_shape hj.img.1
  obtain ⟨ar, cr, evr⟩ := ownsRow_shape hj.recs.own
  subst evi evr
  simp only at HJ
  clear hj hR h hrl
  cases hb : J.baseOf seg l with
  | none =>
    have HX : Hid (J.follow ⟨bg, im, rs, nx⟩ seg l = (⟨bg, im, rs, nx⟩, false)) := by show _ = _; unfold J.follow; rw [hb]
    have HB' : Hid (Calls Try.prog 50 #[.int .i64 (seg : Nat), .slice a n c] w fun e w' => e = .returned (.tuple #[.int .i64 0, .bool false]) ∧ Keep (fun _ => False) w w') := HB.mono fun e w' ⟨h1, h2⟩ => ⟨by rw [h1, hb]; rfl, h2⟩
    clear HB hb
    go_enter Try.func30, Try.ntmps30
    go_wp2_with (go_at_call 50; refine HB'.out.mono ?_; rintro e w1 ⟨rfl, hk⟩)
    go_ret
    rw [HX.out]
    exact ⟨rfl, ⟨_, _, _, HJ.out.keep hk fun _ _ _ f => f⟩, hk.mono fun _ f => f.elim⟩
  | some base =>
    have hbb : 24 ≤ n ∧ 1 ≤ base ∧ base ≤ 1099511627777 := by
      have hnl := HH.out.1
      unfold J.baseOf at hb
      split at hb
      · rename_i hh
        injection hb with hb
        subst hb
        exact ⟨by omega, hh.2.1, hh.2.2.1⟩
      · cases hb
    have HB' : Hid (Calls Try.prog 50 #[.int .i64 (seg : Nat), .slice a n c] w fun e w' => e = .returned (.tuple #[.int .i64 (base : Nat), .bool true]) ∧ Keep (fun _ => False) w w') := HB.mono fun e w' ⟨h1, h2⟩ => ⟨by rw [h1, hb]; rfl, h2⟩
    have HX : Hid (J.follow ⟨bg, im, rs, nx⟩ seg l = if (J.scan l base).begun = true then (J.scan l base, true) else if bg = true ∧ base = nx then (⟨bg, im, rs ++ (J.scan l base).records, (J.scan l base).next⟩, false) else (⟨bg, im, rs, nx⟩, false)) := by show _ = _; unfold J.follow; rw [hb]
    have HSc := hide (fun w1 (k : Keep (fun _ => False) w w1) => scan_any a n c base l w1 (HH.out.stay (S := fun _ => False) k fun _ _ _ f => f) hc hbb.1 hn hbb.2.2)
    clear HB hb HH
    generalize J.scan l base = f at *
    obtain ⟨bg', im', rs', nx'⟩ := f
    simp only at HX
    go_enter Try.func30, Try.ntmps30
    go_upto_region 5 with (first
      | (go_at_call 50
         refine HB'.out.mono ?_
         rintro e w1 ⟨rfl, hk⟩
         have HK1 := hide hk
         clear hk)
      | (go_at_call 51
         refine (HSc.out w1 HK1.out).mono ?_
         rintro e w2 ⟨cs, rfl, ⟨vi', vr', xs', hcs, hi', hiR', hrec'⟩, hk2, hnx', hrl'⟩
         obtain ⟨ai', ci', evi'⟩ := ownsRow_shape hi'.1
         obtain ⟨ar', cr', evr'⟩ := ownsRow_shape hrec'.own
         subst evi' evr' hcs
         have HK2 := hide hk2
         have HI' := hide hi'
         have HIR' := hide hiR'
         have HRec' := hide hrec'
         have HRl' := hide hrl'
         have HNx' := hide hnx'
         clear hk2 hi' hiR' hrec' hrl' hnx'))
    obtain ⟨W, hW⟩ : ∃ W, W = w2.alloc (.cells #[.bool bg', .slice ai' im'.length ci', .slice ar' rs'.length cr', .int .i64 (nx' : Nat)] 62) := ⟨_, rfl⟩
    rw [← hW]
    have hbW : W.heap[w2.heap.size]? = some (.cells #[.bool bg', .slice ai' im'.length ci', .slice ar' rs'.length cr', .int .i64 (nx' : Nat)] 62 (0, 0)) := by rw [hW]; exact heap_alloc_new _ _
    have kW2 : Keep (fun _ => False) w2 W := by rw [hW]; exact Keep.alloc _ _ _
    have HKW : Hid (Keep (fun _ => False) w W) := (HK1.out.more HK2.out).more kW2
    have b0 := cell_blk hbW 0 (v := .bool bg') rfl
    have b1 := cell_blk hbW 1 (v := .slice ai' im'.length ci') rfl
    have b2 := cell_blk hbW 2 (v := .slice ar' rs'.length cr') rfl
    have b3 := cell_blk hbW 3 (v := .int .i64 (nx' : Nat)) rfl
    have hjW := HJ.out.keep HKW.out fun _ _ _ f => f
    have HJW := hide hjW
    have p1 := cell_blk hjW.blk 1 (v := .bool bg) rfl
    have p2 := cell_blk hjW.blk 2 (v := .slice ai im.length ci) rfl
    have p3 := cell_blk hjW.blk 3 (v := .slice ar rs.length cr) rfl
    have p4 := cell_blk hjW.blk 4 (v := .int .i64 (nx : Nat)) rfl
    have z1 := frozen_blk hjW.blk 1
    have z2 := frozen_blk hjW.blk 2
    have z3 := frozen_blk hjW.blk 3
    have z4 := frozen_blk hjW.blk 4
    have hIW := HI'.out.keep kW2 fun _ _ f => f
    have hRW := (HRec'.out.keep kW2 fun _ _ _ f => f).mono (R' := R) fun g e => HR.out g (Nat.le_trans HK1.out.size e)
    have HIW := hide hIW
    have HRW := hide hRW
    have hne : P ≠ w2.heap.size := by
      have h1 := (Array.getElem?_eq_some_iff.1 (HJ.out.keep (HK1.out.more HK2.out) fun _ _ _ f => f).blk).1
      omega
    have HIR : Hid (∀ g, (Value.slice ai' im'.length ci').ownBlock = some g → R g) := fun g e => HR.out g (Nat.le_trans HK1.out.size (HIR'.out g e))
    have HBW := hide hbW
    clear hW hjW hIW hRW hbW kW2 HI' HRec' HIR'
    cases bg' with
    | true =>
      have HX2 : Hid (J.follow ⟨bg, im, rs, nx⟩ seg l = (⟨true, im', rs', nx'⟩, true)) := by
        show _ = _
        rw [HX.out, if_pos rfl]
      go_wp2
      go_ret
      have k4 : Keep (fun i => i = P) W ((((W.setCell ⟨P, 1, none⟩ (.bool true)).setCell ⟨P, 2, none⟩ (.slice ai' im'.length ci')).setCell ⟨P, 3, none⟩ (.slice ar' rs'.length cr')).setCell ⟨P, 4, none⟩ (.int .i64 (nx' : Nat))) := (((keep_cell _ _ _ _).more (keep_cell _ _ _ _)).more (keep_cell _ _ _ _)).more (keep_cell _ _ _ _)
      rw [HX2.out]
      refine ⟨rfl, ⟨_, _, _, ?_, HIW.out.keep k4 fun g e e' => row_far HIW.out HJW.out.blk (by decide) e e', HIR.out, HRW.out.far HJW.out.blk (by decide) (by decide) k4, HJ.out.own⟩, (HKW.out.mono fun _ f => f.elim).trans k4 fun i e => .inl (e ▸ HJ.out.own)⟩
      rw [set_blk (set_blk (set_blk (set_blk HJW.out.blk 1 _) 2 _) 3 _) 4 _]
      rfl
    | false =>
      by_cases hcond : bg = true ∧ base = nx
      · obtain ⟨rfl, hbn⟩ := hcond
        have heq : ((base : Int) == (nx : Int)) = true := by simp [hbn]
        have HBN := hide hbn
        clear hbn
        have HX2 : Hid (J.follow ⟨true, im, rs, nx⟩ seg l = (⟨true, im, rs ++ rs', nx'⟩, false)) := by
          show _ = _
          rw [HX.out, if_neg (by simp), if_pos ⟨rfl, HBN.out⟩]
        have HJA : Hid (RecsX R W.drew (.slice ar rs.length cr) rs xs) := HJW.out.recs.keep (Keep.drew (fun _ => False) _) fun _ _ _ f => f
        have HRA : Hid (RecsX R W.drew (.slice ar' rs'.length cr') rs' xs') := HRW.out.keep (Keep.drew (fun _ => False) _) fun _ _ _ f => f
        have HRA2 : Hid (∀ i, W.drew.heap.size ≤ i → R i) := fun i hi => HR.out i (Nat.le_trans HKW.out.size hi)
        have HBd : Hid (rs.length + rs'.length ≤ 1099511627776) := by show _ ≤ _; have h1 := HRl.out; have h2 : rs'.length ≤ n := HRl'.out; omega
        go_upto_region 9 with fail
        go_region_law
          ((refine step_append_recs (R := R) (by rfl) _ _ (by rfl) (.slice ar rs.length cr) (.slice ar' rs'.length cr') rs rs' xs xs' (by rfl) HJA.out (by rfl) HRA.out HRA2.out HBd.out ?_
            intro a3 n3 c3 ys w3 hr3 k3
            have hP3 := k3.blk (w := W.drew) HJW.out.blk fun e => rows_far HJA.out.own (show W.drew.heap[P]? = _ from HJW.out.blk) (by decide) e rfl
            have hB3 := k3.blk (w := W.drew) HBW.out fun e => rows_far HJA.out.own (show W.drew.heap[w2.heap.size]? = _ from HBW.out) (by decide) e rfl
            have q3 := cell_blk hP3 3 (v := .slice ar rs.length cr) rfl
            have q4 := cell_blk hP3 4 (v := .int .i64 (nx : Nat)) rfl
            have y3 := frozen_blk hP3 3
            have y4 := frozen_blk hP3 4
            have t3 := cell_blk hB3 3 (v := .int .i64 (nx' : Nat)) rfl
            have HR3 := hide hr3
            have HK3 := hide k3
            have HP3 := hide hP3
            clear hr3 k3 hP3 hB3))
        all_goals go_wp2
        all_goals go_ret
        all_goals (
          have k4 : Keep (fun i => i = P) w3 ((w3.setCell ⟨P, 3, none⟩ (.slice a3 n3 c3)).setCell ⟨P, 4, none⟩ (.int .i64 (nx' : Nat))) := (keep_cell _ _ _ _).more (keep_cell _ _ _ _)
          have i3 := (HJW.out.img.keep (Keep.drew (fun _ => False) _) fun _ _ f => f).keep HK3.out fun g e e' => row_not HJA.out.own (HJW.out.img.keep (Keep.drew (fun _ => False) _) fun _ _ f => f) e e'
          rw [HX2.out]
          refine ⟨rfl, ⟨_, _, _, ?_, i3.keep k4 fun g e e' => row_far i3 HP3.out (by decide) e e', HJW.out.imgR, HR3.out.far HP3.out (by decide) (by decide) k4, HJ.out.own⟩, (((HKW.out.mono fun _ f => f.elim).more (Keep.drew _ _)).trans HK3.out fun i e => .inl (HJW.out.recs.blk i e)).trans k4 fun i e => .inl (e ▸ HJ.out.own)⟩
          rw [set_blk (set_blk HP3.out 3 _) 4 _]
          rfl)
      · have HX2 : Hid (J.follow ⟨bg, im, rs, nx⟩ seg l = (⟨bg, im, rs, nx⟩, false)) := by
          show _ = _
          rw [HX.out, if_neg (by simp), if_neg hcond]
        have HF : Hid (FollowAs R w P d ⟨⟨bg, im, rs, nx⟩, cur, sz⟩ (J.follow ⟨bg, im, rs, nx⟩ seg l) (.returned (.bool false)) W) := by
          show FollowAs _ _ _ _ _ _ _ _
          rw [HX2.out]
          exact ⟨rfl, ⟨_, _, _, HJW.out⟩, HKW.out.mono fun _ f => f.elim⟩
        cases bg with
        | false =>
          go_wp2
          go_ret
          exact HF.out
        | true =>
          have heq : ((base : Int) == (nx : Int)) = false := by
            simp only [beq_eq_false_iff_ne]
            intro e
            exact hcond ⟨rfl, by omega⟩
          clear hcond
          go_wp2
          go_ret
          exact HF.out

end Go.Proofs.Ythfnpbkclmkkeaa
