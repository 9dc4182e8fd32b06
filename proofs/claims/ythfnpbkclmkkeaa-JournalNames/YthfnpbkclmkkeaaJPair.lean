/- Package journal: a journal and its disk in memory; what the journal tells. -/
import Derived.Test.YthfnpbkclmkkeaaJFol
namespace Go.Proofs.Ythfnpbkclmkkeaa
open Go.RowKit Go.Lib

/-- a journal at P and its disk at d, side by side; X: the blocks that may be theirs -/
def JD (X : Nat → Prop) (w : World) (P d : Nat) (j : J.Jr) (s : St) : Prop :=
  ∃ R S, JAt R w P d j ∧ DAt S w d s ∧ (∀ i, R i → S i → False) ∧ (∀ i, R i ∨ S i → X i ∧ i < w.heap.size)

section
variable {X : Nat → Prop} {w : World} {P d : Nat} {j : J.Jr} {s : St}
theorem JD.mono {Y : Nat → Prop} (h : JD X w P d j s) (hY : ∀ i, X i → Y i) : JD Y w P d j s := by
  obtain ⟨R, S, h1, h2, h3, h4⟩ := h
  exact ⟨R, S, h1, h2, h3, fun i hi => ⟨hY i (h4 i hi).1, (h4 i hi).2⟩⟩
theorem JD.stay {T : Nat → Prop} {w' : World} (h : JD X w P d j s) (hk : Keep T w w') (hT : ∀ i, i < w.heap.size → X i → ¬ T i) : JD X w' P d j s := by
  obtain ⟨R, S, h1, h2, h3, h4⟩ := h
  exact ⟨R, S, h1.keep hk fun g hg hl => hT g hl (h4 g (.inl hg)).1, h2.stay hk fun g hl hg => hT g hl (h4 g (.inr hg)).1, h3, fun i hi => ⟨(h4 i hi).1, Nat.lt_of_lt_of_le (h4 i hi).2 hk.size⟩⟩
theorem JD.new {w' : World} (h : JD X w P d j s) (hk : Keep (fun _ => False) w w') : JD X w' P d j s := h.stay hk fun _ _ _ f => f
/-- told apart from new memory -/
theorem JD.part {w' : World} (h : JD X w P d j s) (hk : Keep (fun _ => False) w w') : JD (fun i => X i ∧ (i < w.heap.size ∨ w'.heap.size ≤ i)) w' P d j s := by
  obtain ⟨R, S, h1, h2, h3, h4⟩ := h
  exact ⟨R, S, h1.keep hk fun _ _ _ f => f, h2.stay hk fun _ _ _ f => f, h3, fun i hi => ⟨⟨(h4 i hi).1, .inl (h4 i hi).2⟩, Nat.lt_of_lt_of_le (h4 i hi).2 hk.size⟩⟩
/-- a call on the disk -/
theorem JD.disk (h : JD X w P d j s) (hX : ∀ i, w.heap.size ≤ i → X i) : ∃ S : Nat → Prop, DAt S w d s ∧ (∀ i, w.heap.size ≤ i → S i) ∧ (∀ i, S i → X i) ∧ ∀ w' s', DAt S w' d s' → Keep S w w' → JD X w' P d j s' ∧ Keep X w w' := by
  obtain ⟨R, S, h1, h2, h3, h4⟩ := h
  refine ⟨fun i => S i ∨ w.heap.size ≤ i, h2.mono fun _ e => .inl e, fun _ e => .inr e, fun i e => e.elim (fun e => (h4 i (.inr e)).1) (hX i), fun w' s' hd hk => ⟨⟨R, _, h1.keep hk fun g hg hl e => e.elim (h3 g hg) (fun e => by omega), hd.low, fun i hr e => e.1.elim (h3 i hr) fun e => by have := (h4 i (.inl hr)).2; omega, fun i hi => ?_⟩, hk.mono fun i e => e.elim (fun e => (h4 i (.inr e)).1) (hX i)⟩⟩
  rcases hi with hi | ⟨hi, hl⟩
  · exact ⟨(h4 i (.inl hi)).1, Nat.lt_of_lt_of_le (h4 i (.inl hi)).2 hk.size⟩
  · exact ⟨hi.elim (fun e => (h4 i (.inr e)).1) (hX i), hl⟩
/-- a change of the journal alone -/
theorem JD.jour (h : JD X w P d j s) (hX : ∀ i, w.heap.size ≤ i → X i) : ∃ R : Nat → Prop, JAt R w P d j ∧ (∀ i, w.heap.size ≤ i → R i) ∧ (∀ i, R i → X i) ∧ ∀ w' j', JAt R w' P d j' → Keep R w w' → JD X w' P d j' s ∧ Keep X w w' := by
  obtain ⟨R, S, h1, h2, h3, h4⟩ := h
  refine ⟨fun i => R i ∨ w.heap.size ≤ i, h1.mono fun _ e => .inl e, fun _ e => .inr e, fun i e => e.elim (fun e => (h4 i (.inl e)).1) (hX i), fun w' j' hj hk => ⟨⟨_, S, hj.low, h2.stay hk fun g hl hg e => e.elim (fun e => h3 g e hg) (fun e => by omega), fun i e hs => e.1.elim (fun e => h3 i e hs) fun e => by have := (h4 i (.inr hs)).2; omega, fun i hi => ?_⟩, hk.mono fun i e => e.elim (fun e => (h4 i (.inl e)).1) (hX i)⟩⟩
  rcases hi with ⟨hi, hl⟩ | hi
  · exact ⟨hi.elim (fun e => (h4 i (.inl e)).1) (hX i), hl⟩
  · exact ⟨(h4 i (.inr hi)).1, Nat.lt_of_lt_of_le (h4 i (.inr hi)).2 hk.size⟩
/-- the journal's cells -/
theorem JD.cells (h : JD X w P d j s) : ∃ vi vr xs, JIn X w P d j vi vr xs ∧ ∃ ai ci ar cr, vi = .slice ai j.held.image.length ci ∧ vr = .slice ar j.held.records.length cr := by
  obtain ⟨R, S, ⟨vi, vr, xs, h1⟩, h2, h3, h4⟩ := h
  obtain ⟨ai, ci, e1⟩ := ownsRow_shape h1.img.1
  obtain ⟨ar, cr, e2⟩ := ownsRow_shape h1.recs.own
  exact ⟨vi, vr, xs, ⟨h1.blk, h1.img, fun g e => (h4 g (.inl (h1.imgR g e))).1, h1.recs.mono fun g e => (h4 g (.inl e)).1, (h4 P (.inl h1.own)).1⟩, ai, ci, ar, cr, e1, e2⟩
end

theorem next_any (R : Nat → Prop) (w : World) (P d : Nat) (j : J.Jr) (h : JAt R w P d j) :
    Calls Try.prog 27 #[.pointer (some ⟨P, 0, none⟩)] w fun e w' => e = .returned (.int .i64 (j.held.next : Nat)) ∧ w' = w := by
  obtain ⟨vi, vr, xs, h⟩ := h
  have c4 := cell_blk h.blk 4 (v := .int .i64 (j.held.next : Nat)) rfl
  clear h
  go_enter Try.func27, Try.ntmps27
  go_wp2
  go_ret
  exact ⟨rfl, rfl⟩

theorem image_any (R : Nat → Prop) (w : World) (P d : Nat) (j : J.Jr) (h : JAt R w P d j) (hl : j.held.image.length ≤ 35184372088832) :
    Calls Try.prog 26 #[.pointer (some ⟨P, 0, none⟩)] w (LaidJ w j.held.image) := by
  obtain ⟨vi, vr, xs, h⟩ := h
  obtain ⟨a, c, rfl, hr, h0, _⟩ := h.img.rd (by omega)
  have c2 := cell_blk h.blk 2 (v := .slice a j.held.image.length c) rfl
  have HLy := hide (jlay_one w 32 a _ c _ hr h0 hl)
  clear h hr h0
  generalize j.held.image = im at *
  go_enter Try.func26, Try.ntmps26
  go_wp2_with (go_at_call 43; refine HLy.out.mono ?_; rintro e w1 ⟨v, rfl, hrow⟩)
  go_ret
  exact ⟨v, rfl, hrow⟩

/-- one record appended -/
theorem recs_one {Rg : Nat → Prop} {wr w2 w3 : World} {v u : Value} {rs : List (List Nat)} {r : List Nat} {ys : List Value} {g cap : Nat} (h : RecsX Rg wr v rs ys) (k2 : Keep (fun _ => False) wr w2) (hrow : Row w2 u r) (hu : ∀ g, u.ownBlock = some g → Rg g)
    (ho : w3.ownsRow 0 32 1 (.slice (some ⟨g, 0, none⟩) (rs.length + 1) cap) (rs.length + 1) (ys ++ [u])) (hgr : (w2.alloc (.cells #[u] 32)).grownBy w3 v.ownBlock) (hloc : v.ownBlock = some g ∨ g = w2.heap.size + 1) (hR : ∀ i, wr.heap.size ≤ i → Rg i) :
    RecsX Rg w3 (.slice (some ⟨g, 0, none⟩) (rs.length + 1) cap) (rs ++ [r]) (ys ++ [u]) ∧ Keep (fun i => v.ownBlock = some i) wr w3 := by
  have kA : Keep (fun _ => False) w2 (w2.alloc (.cells #[u] 32)) := Keep.alloc _ _ _
  have hk : Keep (fun i => v.ownBlock = some i) (w2.alloc (.cells #[u] 32)) w3 := Keep.grown hgr fun _ e => e
  refine ⟨(h.keep (k2.more kA) fun _ _ _ f => f).adds (rs2 := [r]) (fun j hj => ?_) ho hgr fun g' e => ?_, ((k2.more kA).mono fun _ f => f.elim).more hk⟩
  · match j, hj with
    | 0, _ => exact ⟨_, rfl, hrow.keep kA fun _ _ f => f, hu⟩
  · have e' : g = g' := by injection e
    rw [← e']
    rcases hloc with h' | h'
    · exact h.blk _ h'
    · rw [h']
      exact hR _ (Nat.le_succ_of_le k2.size)
theorem one_news (w2 : World) (a : Option Addr) (n c : Nat) : ∀ j u, [Value.slice a n c][j]? = some u → (w2.alloc (.cells #[.slice a n c] 32)).cell? ((⟨w2.heap.size, 0, none⟩ : Addr).add j) = some u := fun j u hj => by
  match j, hj with
  | 0, hj => simp at hj; subst hj; simp [Addr.add]
theorem one_ones (a : Option Addr) (n c : Nat) : ∀ u ∈ [Value.slice a n c], u.oneCell' = true := fun u hu => by simp at hu; subst hu; rfl

/-- what Records answers -/
def RecordsAs (w : World) (rs : List (List Nat)) (e : Ending) (w' : World) : Prop := ∃ v xs, e = .returned v ∧ RecsX (fun g => w.heap.size ≤ g) w' v rs xs ∧ Keep (fun _ => False) w w'

set_option maxHeartbeats 2000000 in
set_option maxRecDepth 10000 in
theorem records_any (R : Nat → Prop) (w : World) (P d : Nat) (j : J.Jr) (h : JAt R w P d j) (hl : j.held.records.length ≤ 549755813888) (hb : ∀ r ∈ j.held.records, r.length ≤ 35184372088832) :
    Calls Try.prog 24 #[.pointer (some ⟨P, 0, none⟩)] w (RecordsAs w j.held.records) := by
  obtain ⟨i0, hi, hz0, hz1, hz2⟩ := info_parts info_sl
  have HI := hide (And.intro hi (And.intro hz0 (And.intro hz1 hz2)))
  obtain ⟨vi, vr, xs, h⟩ := h
  obtain ⟨a, c, e⟩ := ownsRow_shape h.recs.own
  subst e
  have c3 := cell_blk h.blk 3 (v := .slice a j.held.records.length c) rfl
  have HRx := hide h.recs
  have HB := hide hb
  clear h hi hz0 hz1 hz2 hb
  generalize j.held.records = rs at *
  obtain ⟨n, hn⟩ : ∃ n, n = rs.length := ⟨_, rfl⟩
  have HN := hide hn
  rw [← hn] at hl c3
  clear hn
  go_enter Try.func24, Try.ntmps24
  go_wp2
  go_loopw [3, 12] (fun v iv wr => ∃ (q : Nat) (ys : List Value), q ≤ n ∧ iv = .int .i64 (q : Nat) ∧ Hid (RecsX (fun g => w.heap.size ≤ g) wr v (rs.take q) ys ∧ Keep (fun _ => False) w wr)) (fun _ iv _ => n - (RowKit.intOf iv).toNat)
  case atStart => exact ⟨0, [], Nat.zero_le _, rfl, RecsX.nil _ _, Keep.refl _ _⟩
  case round =>
    obtain ⟨q, ys, hq, rfl, HL⟩ := hrel
    by_cases hlt : q < n
    · have hqr : q < rs.length := by rw [← HN.out]; exact hlt
      obtain ⟨u, hu1, hu2, _⟩ := HRx.out.row q hqr
      have hbr := HB.out _ (List.getElem_mem hqr)
      obtain ⟨ua, uc, rfl, hur, hu0, _⟩ := hu2.rd (by omega)
      obtain ⟨g, rfl, hcell⟩ : ∃ g, a = some ⟨g, 0, none⟩ ∧ w.cell? ⟨g, q, none⟩ = some (.slice ua rs[q].length uc) := by
        rcases HRx.out.own.2 with ⟨e, h0⟩ | ⟨g, cap, cur, e, _⟩
        · omega
        · injection e with e _ _
          subst e
          have := HRx.out.own.cells (g := g) rfl q _ hu1
          rw [Addr.add_lit, Nat.zero_add] at this
          exact ⟨g, rfl, this⟩
      have hc := HL.out.2.cell hcell fun f => f
      have HLy := hide (jlay_one wr 32 ua _ uc _ (hur.stay (S := fun _ => False) HL.out.2 fun _ _ _ f => f) hu0 hbr)
      obtain ⟨av, cv, e⟩ := ownsRow_shape HL.out.1.own
      subst e
      have htl : (rs.take q).length = q := by rw [List.length_take]; omega
      have HTk : Hid (rs.take (q + 1) = rs.take q ++ [rs[q]]) := List.take_succ_eq_append_getElem hqr
      have HTl := hide htl
      generalize hrq : rs[q] = r at *
      clear hur hu0 hu1 hu2 hbr hrq
      rw [htl]
      clear htl
      have H63 : Hid (q + 1 ≤ maxLen) := by show _ ≤ _; unfold maxLen; omega
      have HBy : Hid ((q + 1) * 24 ≤ 140737488355328) := by show _ ≤ _; omega
      go_wp2_with (first
        | (go_at_call 43
           refine HLy.out.mono ?_
           rintro e w2 ⟨v, rfl, hrow, hk2, hnew⟩
           obtain ⟨v1, v2, hv⟩ := ownsRow_shape hrow.1
           subst hv
           have HRow := hide hrow
           have HK2 := hide hk2
           have HNew := hide hnew
           have HOwA : Hid ((w2.alloc (.cells #[.slice v1 r.length v2] 32)).ownsRow 0 32 1 (.slice av q cv) q ys) := by
             have := (HL.out.1.keep (hk2.more (Keep.alloc (fun _ => False) w2 (.cells #[.slice v1 r.length v2] 32))) fun _ _ _ f => f).own
             rw [HTl.out] at this
             exact this
           clear hrow hk2 hnew)
        | (at_builtin
           refine wpList_append_lies _ rfl _ _ 38 rfl 0 32 i0 (.slice none 0 0) 1 24 Try.underlying38 HI.out.1 HI.out.2.1 HI.out.2.2.1 HI.out.2.2.2 rfl (by decide) (.slice av q cv) q ys rfl HOwA.out ⟨w2.heap.size, 0, none⟩ 1 1 [.slice v1 r.length v2] rfl rfl (one_news _ _ _ _) (one_ones _ _ _) (by decide) H63.out HBy.out (Nat.zero_le _) (w2.heap.size + 1) (alloc_size _ _) ?_
           intro g3 cap w3 hown3 hgr3 hloc hlt3
           have HFin : Hid (RecsX (fun g => w.heap.size ≤ g) w3 (.slice (some ⟨g3, 0, none⟩) (q + 1) cap) (rs.take (q + 1)) (ys ++ [.slice v1 r.length v2]) ∧ Keep (fun _ => False) w w3) := by
             have h1 := HL.out.1
             have hT := HTl.out
             have := recs_one (r := r) (g := g3) (cap := cap) (w3 := w3) h1 HK2.out HRow.out (fun g e => Nat.le_trans HL.out.2.size (HNew.out g e)) (by rw [hT]; exact hown3) (by rw [hT]; exact hgr3) (by rw [hT]; exact hloc) (fun i hi => Nat.le_trans HL.out.2.size hi)
             rw [hT] at this
             rw [HTk.out]
             refine ⟨this.1, HL.out.2.trans this.2 fun i e => .inr (h1.blk i (by rw [hT]; exact e))⟩
           clear hown3 hgr3 hloc hlt3))
      exact ⟨⟨q + 1, _, by omega, by simp, HFin.out⟩, by simp [RowKit.intOf]; omega⟩
    · obtain rfl : q = n := by omega
      go_wp2
      go_ret
      refine ⟨_, ys, rfl, ?_, HL.out.2⟩
      have := HL.out.1
      rwa [List.take_of_length_le (by have := HN.out; omega)] at this

end Go.Proofs.Ythfnpbkclmkkeaa
