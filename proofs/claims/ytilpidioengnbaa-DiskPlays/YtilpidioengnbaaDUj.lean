/- DiskPlays: what stands between two rounds of the law. -/
import Derived.Test.YtilpidioengnbaaDUi
import Derived.Test.YtilpidioengnbaaDScr
namespace Go.Proofs.Ytilpidioengnbaa
namespace DP
open Go.RowKit Go.Lib

theorem ag_new (c : Nat) : Ag ⟨c, [], [], none, false⟩ (St.new c) := ⟨rfl, fun _ => rfl, fun _ => rfl, List.Pairwise.nil, List.Pairwise.nil, rfl, rfl⟩
/-- between two rounds -/
structure PlJ (W : World) (F : Nat → Prop) (i : Nat) (w : World) (vd vr : Value) (L : List Dk) : Prop where
  ex : ∃ col N, PlD W.heap.size w col N L vd vr ∧ ∀ b, F b → col b = 3 ∧ b < N
  l1 : 1 ≤ L.length
  l4 : L.length ≤ 4
  ag : ∀ (j : Nat) (x : Dk), L[j]? = some x → Ag x.f x.s ∧ Good i x.s
  k : Keep (fun b => W.heap.size ≤ b) W w
theorem PlJ.keep {W w w' : World} {F : Nat → Prop} {i : Nat} {vd vr : Value} {L : List Dk} (h : PlJ W F i w vd vr L) (k : Keep (fun _ => False) w w') : PlJ W F i w' vd vr L := by
  obtain ⟨col, N, hd, hF⟩ := h.ex
  exact ⟨⟨col, N, hd.keep (k.mono fun _ f => f.elim), hF⟩, h.l1, h.l4, h.ag, h.k.more (k.mono fun _ f => f.elim)⟩
theorem PlJ.more {W w : World} {F : Nat → Prop} {i j : Nat} {vd vr : Value} {L : List Dk} (h : PlJ W F i w vd vr L) (hj : i ≤ j) : PlJ W F j w vd vr L :=
  ⟨h.ex, h.l1, h.l4, fun k x hx => ⟨(h.ag k x hx).1, (h.ag k x hx).2.more hj⟩, h.k⟩
/-- the colours at the beginning -/
def colB (z1 z2 z3 b : Nat) : Nat := if b < z1 then 4 else if b < z2 then 5 else if b < z3 then 1 else 2
theorem PlJ.begin_ {W w w1 w2 : World} {p r c : Nat} (hc : c ≤ 67108864) (k0 : Keep (fun _ => False) W w) (k1 : Keep (fun _ => False) w w1) (hd : DAt (fun b => w.heap.size ≤ b) w1 p (St.new c)) (k2 : Keep (fun _ => False) w1 w2) (hr : RIn (fun b => w1.heap.size ≤ b) w2 r ⟨c, [], [], none, false⟩) :
    PlJ W (fun _ => False) 0 ((w2.alloc (.cells #[.pointer (some ⟨p, 0, none⟩)] 24)).alloc (.cells #[.pointer (some ⟨r, 0, none⟩)] 26)) (.slice (some ⟨w2.heap.size, 0, none⟩) 1 1) (.slice (some ⟨w2.heap.size + 1, 0, none⟩) 1 1) [⟨p, r, St.new c, ⟨c, [], [], none, false⟩⟩] := by
  have z0 := k0.size
  have z1 := k1.size
  have z2 := k2.size
  obtain ⟨w3, hw3⟩ : ∃ w3, w3 = (w2.alloc (.cells #[.pointer (some ⟨p, 0, none⟩)] 24)).alloc (.cells #[.pointer (some ⟨r, 0, none⟩)] 26) := ⟨_, rfl⟩
  have k3 : Keep (fun _ => False) w2 w3 := by rw [hw3]; exact (Keep.alloc _ _ _).more (Keep.alloc _ _ _)
  have hz3 : w3.heap.size = w2.heap.size + 2 := by rw [hw3, alloc_size, alloc_size]
  have b1 : w3.heap[w2.heap.size]? = some (.cells #[.pointer (some ⟨p, 0, none⟩)] 24 (0, 0)) := by rw [hw3]; exact (Keep.alloc (fun _ => False) _ _).blk (heap_alloc_new _ _) fun f => f
  have b2 : w3.heap[w2.heap.size + 1]? = some (.cells #[.pointer (some ⟨r, 0, none⟩)] 26 (0, 0)) := by
    rw [hw3]
    have h := heap_alloc_new (w2.alloc (.cells #[.pointer (some ⟨p, 0, none⟩)] 24)) (.cells #[.pointer (some ⟨r, 0, none⟩)] 26)
    rwa [alloc_size] at h
  rw [← hw3]
  have one : ∀ {j : Nat} {x y : Dk}, [y][j]? = some x → j = 0 ∧ x = y := fun {j x y} h => by
    cases j with
    | zero => simp at h; exact ⟨rfl, h.symm⟩
    | succ j => simp at h
  refine ⟨⟨colB w1.heap.size w2.heap.size (w2.heap.size + 1), w3.heap.size, ⟨by omega, Nat.le_refl _, fun j x hx => ?_, fun j x hx => ?_, ?_, ?_, fun g e => ?_, fun g e => ?_⟩, fun _ f => f.elim⟩, by simp, by simp, fun j x hx => ?_, (((k0.more k1).more k2).more k3).mono fun _ f => f.elim⟩
  · obtain ⟨rfl, rfl⟩ := one hx
    refine (hd.low.stay (k2.more k3) fun _ _ _ f => f).mono fun b e => ⟨?_, by have := e.1; omega, by have := e.2; omega⟩
    unfold colB
    rw [if_pos e.2]
  · obtain ⟨rfl, rfl⟩ := one hx
    refine (hr.low.stay k3 fun _ _ _ f => f).mono fun b e => ⟨?_, by have := e.1; omega, by have := e.2; omega⟩
    have := e.1
    unfold colB
    rw [if_neg (by omega), if_pos e.2]
  · exact ⟨rfl, .inr ⟨w2.heap.size, 1, _, rfl, by omega, b1, Nat.le_refl _, by decide, rfl, rfl⟩⟩
  · exact ⟨rfl, .inr ⟨w2.heap.size + 1, 1, _, rfl, by omega, b2, Nat.le_refl _, by decide, rfl, rfl⟩⟩
  · have e : some w2.heap.size = some g := e
    injection e with e
    subst e
    refine ⟨?_, by omega, by omega⟩
    unfold colB
    rw [if_neg (by omega), if_neg (by omega), if_pos (by omega)]
  · have e : some (w2.heap.size + 1) = some g := e
    injection e with e
    subst e
    refine ⟨?_, by omega, by omega⟩
    unfold colB
    rw [if_neg (by omega), if_neg (by omega), if_neg (by omega)]
  · obtain ⟨rfl, rfl⟩ := one hx
    exact ⟨ag_new c, Good.new hc⟩
/-- the pair that a step speaks of, and how a round ends -/
theorem PlJ.pick {W w : World} {F : Nat → Prop} {i m : Nat} {vd vr : Value} {L : List Dk} (h : PlJ W F i w vd vr L) (hm : m < L.length) :
    ∃ (x : Dk) (S R : Nat → Prop) (gd cd gr cr : Nat), L[m]? = some x ∧ vd = .slice (some ⟨gd, 0, none⟩) L.length cd ∧ vr = .slice (some ⟨gr, 0, none⟩) L.length cr ∧ w.cell? ⟨gd, m, none⟩ = some (.pointer (some ⟨x.p, 0, none⟩)) ∧ w.cell? ⟨gr, m, none⟩ = some (.pointer (some ⟨x.r, 0, none⟩)) ∧
      DAt S w x.p x.s ∧ RIn R w x.r x.f ∧ Ag x.f x.s ∧ Good i x.s ∧ (∀ b, S b → W.heap.size ≤ b ∧ b < w.heap.size ∧ b ≠ gd ∧ b ≠ gr) ∧ (∀ b, R b → W.heap.size ≤ b ∧ b < w.heap.size ∧ b ≠ gd ∧ b ≠ gr) ∧ (∀ b, R b → ¬ S b) ∧ (∀ b, F b → ¬ S b ∧ ¬ R b) ∧ gd < w.heap.size ∧ gr < w.heap.size ∧
      ∀ (w7 w8 w9 : World) (f : Rf), (GD x.p f (i + 1)) (fun b => S b ∨ w.heap.size ≤ b) w7 → Keep S w w7 → RIn (fun b => R b ∨ w7.heap.size ≤ b) w8 x.r f → Keep R w7 w8 → Keep (fun _ => False) w8 w9 → ∃ L', L'.length = L.length ∧ PlJ W F (i + 1) w9 vd vr L' := by
  obtain ⟨col, N, hp, hF⟩ := h.ex
  obtain ⟨x, hx⟩ : ∃ x, L[m]? = some x := ⟨_, List.getElem?_eq_getElem hm⟩
  have hd := hp.d m x hx
  have hr := hp.r m x hx
  have ha := h.ag m x hx
  have hzN := hp.hN
  have cellP : ∀ {v : Value} {st : TypeId} {fn : Dk → Value}, w.ownsRow W.heap.size st 1 v L.length (L.map fn) → ∃ g c, v = .slice (some ⟨g, 0, none⟩) L.length c ∧ w.cell? ⟨g, m, none⟩ = some (fn x) := fun {v st fn} ho => by
    rcases ho.2 with ⟨_, h0⟩ | ⟨g, cap, cur, e, _⟩
    · omega
    · subst e
      have hz2 : (L.map fn)[m]? = some (fn x) := by rw [List.getElem?_map, hx]; rfl
      have := ho.cells (g := g) rfl m _ hz2
      rw [Addr.add_lit, Nat.zero_add] at this
      exact ⟨g, cap, rfl, this⟩
  obtain ⟨gd, cd, hvd, x1⟩ := cellP hp.rd
  obtain ⟨gr, cr, hvr, x2⟩ := cellP hp.rr
  have c1 := hp.cd gd (by rw [hvd]; rfl)
  have c2 := hp.cr gr (by rw [hvr]; rfl)
  refine ⟨x, CC col W.heap.size N (4 * m + 4), CC col W.heap.size N (4 * m + 5), gd, cd, gr, cr, hx, hvd, hvr, x1, x2, hd, hr, ha.1, ha.2, fun b e => ?_, fun b e => ?_, fun b e e2 => ?_, fun b e => ?_, by have := c1.2.2; omega, by have := c2.2.2; omega, ?_⟩
  · refine ⟨e.2.1, by have := e.2.2; omega, fun e2 => ?_, fun e2 => ?_⟩
    · subst e2; have h1 := c1.1; have h2 := e.1; omega
    · subst e2; have h1 := c2.1; have h2 := e.1; omega
  · refine ⟨e.2.1, by have := e.2.2; omega, fun e2 => ?_, fun e2 => ?_⟩
    · subst e2; have h1 := c1.1; have h2 := e.1; omega
    · subst e2; have h1 := c2.1; have h2 := e.1; omega
  · have h1 := e.1; have h2 := e2.1; omega
  · have h1 := (hF b e).1
    exact ⟨fun e2 => by have h2 := e2.1; omega, fun e2 => by have h2 := e2.1; omega⟩
  · rintro w7 w8 w9 f ⟨t, d7, at7, g7⟩ k7 r8 k8 k9
    have p7 := hp.stepD hx (Keep.refl _ w) (k7.mono fun _ e => .inl e) (d7.mono fun b e => e.imp (fun e => e) fun e => Nat.le_trans hzN e)
    have hz7 := k7.size
    have up : ∀ b, CC col W.heap.size N (4 * m + 5) b → CC (exC col N (4 * m + 4)) W.heap.size w7.heap.size (4 * m + 5) b := fun b e => e.ext (Nat.le_trans hzN hz7)
    have p8 := p7.stepR (x := { x with s := t }) (t := f) (by rw [List.getElem?_set, if_pos rfl, if_pos hm]) (Keep.refl _ w7) (k8.mono fun b e => .inl (up b e)) (r8.mono fun b e => e.imp (up b) fun e => e)
    refine ⟨_, ?_, ⟨⟨_, _, p8.keep (k9.mono fun _ f => f.elim), fun b e => ?_⟩, ?_, ?_, fun j y hy => ?_, ?_⟩⟩
    · rw [List.length_set, List.length_set]
    · obtain ⟨h1, h2⟩ := hF b e
      have hz8 := k8.size
      exact ⟨by rw [exC_old (by omega), exC_old h2]; exact h1, by omega⟩
    · rw [List.length_set, List.length_set]; exact h.l1
    · rw [List.length_set, List.length_set]; exact h.l4
    · rcases get_set hy with ⟨rfl, rfl⟩ | ⟨hne, hy⟩
      · exact ⟨at7, g7⟩
      · rcases get_set hy with ⟨e, _⟩ | ⟨_, hy⟩
        · exact absurd e hne
        · have := h.ag j y hy
          exact ⟨this.1, this.2.more (Nat.le_succ _)⟩
    · exact ((h.k.more (k7.mono fun b e => e.2.1)).more (k8.mono fun b e => e.2.1)).more (k9.mono fun _ f => f.elim)
/-- what was made since is held apart -/
theorem PlJ.hold {W w w' : World} {F : Nat → Prop} {i : Nat} {vd vr : Value} {L : List Dk} (h : PlJ W F i w vd vr L) (k : Keep (fun _ => False) w w') : PlJ W (fun b => w.heap.size ≤ b ∧ b < w'.heap.size) i w' vd vr L := by
  obtain ⟨col, N, hd, _⟩ := h.ex
  have hd2 := hd.keep (k.mono fun _ f => f.elim)
  have up : ∀ {y b : Nat}, CC col W.heap.size N y b → CC (exC col N 3) W.heap.size w'.heap.size y b := fun e => e.ext hd2.hN
  exact ⟨⟨exC col N 3, w'.heap.size, ⟨Nat.le_trans hd.hB hd2.hN, Nat.le_refl _, fun j x hx => (hd2.d j x hx).mono fun _ e => up e, fun j x hx => (hd2.r j x hx).mono fun _ e => up e, hd2.rd, hd2.rr, fun g e => up (hd2.cd g e), fun g e => up (hd2.cr g e)⟩,
    fun b e => ⟨exC_new (Nat.le_trans hd.hN e.1), e.2⟩⟩, h.l1, h.l4, h.ag, h.k.more (k.mono fun _ f => f.elim)⟩
/-- a copy more -/
theorem PlJ.copy {W w0 w1 w2 w3 w4 : World} {F : Nat → Prop} {i P R : Nat} {vd vr vd' vr' : Value} {L : List Dk} {s : St} {f : Rf} (h : PlJ W F i w0 vd vr L) (hl : L.length < 4)
    (k1 : Keep (fun _ => False) w0 w1) (hd : DAt (fun b => w0.heap.size ≤ b) w1 P s)
    (k2 : Keep (fun b => vd.ownBlock = some b) w1 w2) (rd : w2.ownsRow W.heap.size 24 1 vd' (L.length + 1) (L.map Dk.pv ++ [.pointer (some ⟨P, 0, none⟩)])) (nd : ∀ g, vd'.ownBlock = some g → vd.ownBlock = some g ∨ w1.heap.size ≤ g)
    (k3 : Keep (fun _ => False) w2 w3) (hr : RIn (fun b => w2.heap.size ≤ b) w3 R f)
    (k4 : Keep (fun b => vr.ownBlock = some b) w3 w4) (rr : w4.ownsRow W.heap.size 26 1 vr' (L.length + 1) (L.map Dk.rv ++ [.pointer (some ⟨R, 0, none⟩)])) (nr : ∀ g, vr'.ownBlock = some g → vr.ownBlock = some g ∨ w3.heap.size ≤ g)
    (ha : Ag f s) (hg : Good i s) : PlJ W F i w4 vd' vr' (L ++ [⟨P, R, s, f⟩]) := by
  obtain ⟨col, N, hp, hF⟩ := h.ex
  refine ⟨⟨_, _, hp.copy (Keep.refl _ w0) k1 hd k2 rd nd k3 hr k4 rr nr, fun b e => ?_⟩, by rw [List.length_append]; simp, by rw [List.length_append, List.length_singleton]; omega, fun j x hx => ?_, ?_⟩
  · obtain ⟨h1, h2⟩ := hF b e
    have z0 := hp.hN
    have z1 := k1.size
    have z2 := k2.size
    have z3 := k3.size
    have z4 := k4.size
    exact ⟨by unfold colC; rw [if_pos h2]; exact h1, by omega⟩
  · by_cases hj : j < L.length
    · rw [List.getElem?_append_left hj] at hx
      exact h.ag j x hx
    · rw [List.getElem?_append_right (by omega)] at hx
      by_cases h0 : j - L.length = 0
      · rw [h0] at hx
        simp at hx
        subst hx
        exact ⟨ha, hg⟩
      · rw [List.getElem?_eq_none (by simp; omega)] at hx
        cases hx
  · exact ((((h.k.more (k1.mono fun _ f => f.elim)).more (k2.mono fun b e => (hp.cd b e).2.1)).more (k3.mono fun _ f => f.elim)).more (k4.mono fun b e => (hp.cr b e).2.1))
end DP
end Go.Proofs.Ytilpidioengnbaa
