/- Package disk: strike. -/
import Derived.Test.YtilpidioengnbaaDStk
namespace Go.Proofs.Ytilpidioengnbaa
open Go.RowKit Go.Lib

theorem wr' {x y : Int} (h1 : -9223372036854775808 ≤ x) (h2 : x ≤ 9223372036854775807) (h : x = y) : wrap64 x = y := by rw [wrap_id h1 h2]; exact h

def St.strike (s : St) (k : Int) (f : Nat) : St :=
  { s with there := upd s.there k (struck (s.there k) (s.safe k) f), safe := upd s.safe k (struck (s.there k) (s.safe k) f), used := s.used + cost (struck (s.there k) (s.safe k) f) - cost (s.there k) }

theorem strike_held (s : St) (k : Int) (f : Nat) : (s.strike k f).held k = struck (s.there k) (s.safe k) f := by
  unfold St.held St.strike
  simp only [upd_same]
  cases struck (s.there k) (s.safe k) f <;> rfl

def Struck (S : Nat → Prop) (w : World) (p : Nat) (s : St) (bt bo : Nat) (val : Int → Value) (po : Int → Option Value) (k : Int) (f : Nat) (e : Ending) (w' : World) : Prop :=
  e = .returned (.tuple #[]) ∧ (∃ v', CIn S w' p (s.strike k f) bt bo (upd val k v') po) ∧ Keep S w w'

section
variable {S : Nat → Prop} {w W w' : World} {p : Nat} {s : St} {bt bo : Nat} {val : Int → Value} {po : Int → Option Value} {k : Int} {l : List Nat} {c f : Nat} {e : Ending}
theorem Shortened.struck (h : CIn S w p s bt bo val po) (k0 : Keep (fun _ => False) w W) (ht : s.there k = some l) (hs : struck (s.there k) (s.safe k) f = some (l.take c)) (hc : c ≤ l.length) (hu : 64 + l.length ≤ s.used) (hd : Shortened W p s bt bo val k l c e w') : Struck S w p s bt bo val po k f e w' := by
  obtain ⟨he, v', hb, hm, hr, ho, hk⟩ := hd
  have hhe : s.held k = some l := by unfold St.held; rw [ht]
  have hcd : dcells (s.strike k f) bt bo = dcells { s with used := s.used - (l.length - c) } bt bo := by
    unfold St.strike dcells
    rw [hs, ht]
    simp only [cost, List.length_take]
    rw [show s.used + (64 + min c l.length) - (64 + l.length) = s.used - (l.length - c) by omega]
  refine ⟨he, ⟨v', h.change k v' (s.strike k f) (fun j hj => ⟨upd_other _ _ hj, upd_other _ _ hj⟩) ?_ ?_ ?_ ?_ (by rw [hhe]; simp) ho⟩, ?_⟩
  · exact (k0.mono fun _ f => f.elim).more (hk.mono fun i e => e.elim .inl fun e => e.elim (fun e => .inr (.inl e)) fun e => .inr (.inr ⟨e, by rw [hhe]; simp⟩))
  · rw [hcd]; exact hb
  · have : (s.strike k f).there k = some (l.take c) := by unfold St.strike; simp only [upd_same]; exact hs
    rw [this]; exact hm
  · intro l' hl'
    rw [strike_held, hs] at hl'
    injection hl' with hl'; subst hl'
    exact hr
  · exact (k0.mono fun _ f => f.elim).more (hk.mono fun i e => e.elim (fun e => e ▸ h.sp) fun e => e.elim (fun e => e ▸ h.st) fun e => h.own k i (by rw [hhe]; simp) e)
theorem Dropped.struck (h : CIn S w p s bt bo val po) (k0 : Keep (fun _ => False) w W) (ht : s.there k = some l) (hs : struck (s.there k) (s.safe k) f = none) (hd : Dropped W p s bt bo val k l e w') : Struck S w p s bt bo val po k f e w' := by
  obtain ⟨he, hb, hm, hk⟩ := hd
  have hhe : s.held k = some l := by unfold St.held; rw [ht]
  have hcd : dcells (s.strike k f) bt bo = dcells { s with used := s.used - (64 + l.length) } bt bo := by
    unfold St.strike dcells
    rw [hs, ht]
    simp only [cost, Nat.add_zero]
  refine ⟨he, ⟨val k, h.change k (val k) (s.strike k f) (fun j hj => ⟨upd_other _ _ hj, upd_other _ _ hj⟩) ?_ ?_ ?_ ?_ (by rw [hhe]; simp) rfl⟩, ?_⟩
  · exact (k0.mono fun _ f => f.elim).more (hk.mono fun i e => e.elim .inl fun e => .inr (.inl e))
  · rw [hcd]; exact hb
  · have : (s.strike k f).there k = none := by unfold St.strike; simp only [upd_same]; exact hs
    rw [this]; exact hm
  · intro l' hl'
    rw [strike_held, hs] at hl'
    cases hl'
  · exact (k0.mono fun _ f => f.elim).more (hk.mono fun i e => e.elim (fun e => e ▸ h.sp) fun e => e ▸ h.st)
end

set_option maxRecDepth 10000 in
set_option maxHeartbeats 2000000 in
theorem strike_grown (S : Nat → Prop) (w : World) (p : Nat) (s : St) (bt bo : Nat) (val : Int → Value) (po : Int → Option Value) (k : Int) (f : Nat) (l m : List Nat) (h : CIn S w p s bt bo val po) (h1 : -9223372036854775808 ≤ k) (h2 : k ≤ 9223372036854775807) (hpo : po k = pastOf (s.there k) (s.safe k) (val k))
    (ht : s.there k = some l) (hs : s.safe k = some m) (hne : l ≠ m) (hpre : m.length ≤ l.length) (hu : 64 + l.length ≤ s.used) (hb : s.used < 1152921504606846976) (hsg : Segs (fun j => (s.there j).map fun _ => val j)) :
    Calls Try.prog 45 #[.pointer (some ⟨p, 0, none⟩), .int .i64 k, .int .i64 f] w (Struck S w p s bt bo val po k f) := by
  have c2 := h.c2
  have c3 := h.c3
  have hl1 := (h.mt.look mapT zeroS h1 h2 0).1
  have hl2 := (h.mo.look mapO zeroP h1 h2 0).2
  rw [show w.drewN 0 = w from rfl] at hl1 hl2
  have hp : pastOf (some l) (some m) (val k) = some (.agg #[.bool true, .int .i64 (m.length : Nat), .slice none 0 0]) := by
    unfold pastOf
    rw [if_neg (by intro e; injection e with e; exact hne e)]
  rw [hpo, ht, hs, hp, Option.getD_some] at hl2
  have hhe : s.held k = some l := by unfold St.held; rw [ht]
  obtain ⟨av, cv, hv⟩ := ownsRow_shape (h.row k l hhe).1
  simp only [ht, Option.map_some, Option.getD_some, Option.isSome_some, hv] at hl1
  obtain ⟨W0, hW0⟩ : ∃ W0, W0 = w.alloc (.cells #[.bool true, .int .i64 (m.length : Nat), .slice none 0 0] 71) := ⟨_, rfl⟩
  have hk0 : Keep (fun _ => False) w W0 := by rw [hW0]; exact Keep.alloc _ _ _
  have H0 := h.stay hk0 fun _ _ _ f => f
  obtain ⟨a0, a1, _⟩ := alloc3_cells hW0
  obtain ⟨d, hd⟩ : ∃ d : Nat, d = l.length - m.length := ⟨_, rfl⟩
  obtain ⟨q, hq⟩ : ∃ q : Nat, q = min f d := ⟨_, rfl⟩
  obtain ⟨c, hc⟩ : ∃ c : Nat, c = m.length + q := ⟨_, rfl⟩
  have hst : struck (s.there k) (s.safe k) f = some (l.take c) := by
    rw [ht, hs]
    show some (l.take (m.length + f)) = _
    rcases Nat.lt_or_ge (m.length + f) l.length with h3 | h3
    · rw [show c = m.length + f by omega]
    · rw [List.take_of_length_le h3, List.take_of_length_le (by omega)]
  have hcl : c ≤ l.length := by omega
  have hmn := min_run (f : Int) (d : Int) (q : Int) (by omega)
  have hw1 : wrap64 ((l.length : Int) - (m.length : Int)) = (d : Int) := wr' (by omega) (by omega) (by omega)
  have hw2 : wrap64 ((m.length : Int) + (q : Int)) = (c : Int) := wr' (by omega) (by omega) (by omega)
  have HSh := hide ((shorten_c S W0 p s bt bo val k l c po H0 h1 h2 ht hcl hu hb hsg).mono fun e w' hd => hd.struck h hk0 ht hst hcl hu)
  rw [hW0] at a0 a1 HSh
  clear h hpo ht hs hne hpre hu hb hsg hp hhe hv hW0 hk0 H0 hd hq hc hst hcl
  go_enter Try.func45, Try.ntmps45
  go_wp2_with (go_at_call 61; refine HSh.out.mono ?_; rintro e w1 hst; obtain rfl := hst.1; have HST := hide hst; clear hst)
  exact bodyPost_ret (v := .tuple #[]) (by simp [results, Try.results45, go_sem]) rfl HST.out

set_option maxRecDepth 10000 in
set_option maxHeartbeats 2000000 in
theorem strike_new (S : Nat → Prop) (w : World) (p : Nat) (s : St) (bt bo : Nat) (val : Int → Value) (po : Int → Option Value) (k : Int) (f : Nat) (l : List Nat) (h : CIn S w p s bt bo val po) (h1 : -9223372036854775808 ≤ k) (h2 : k ≤ 9223372036854775807) (hpo : po k = pastOf (s.there k) (s.safe k) (val k))
    (ht : s.there k = some l) (hs : s.safe k = none) (hl : l.length ≤ 67108864) (hf : f ≤ 9223372036854775807) (hu : 64 + l.length ≤ s.used) (hb : s.used < 1152921504606846976) (hsg : Segs (fun j => (s.there j).map fun _ => val j)) :
    Calls Try.prog 45 #[.pointer (some ⟨p, 0, none⟩), .int .i64 k, .int .i64 f] w (Struck S w p s bt bo val po k f) := by
  have c2 := h.c2
  have c3 := h.c3
  have hl1 := (h.mt.look mapT zeroS h1 h2 0).1
  have hl2 := (h.mo.look mapO zeroP h1 h2 0).2
  rw [show w.drewN 0 = w from rfl] at hl1 hl2
  have hp : pastOf (some l) none (val k) = some (.agg #[.bool false, .int .i64 0, .slice none 0 0]) := by simp [pastOf]
  rw [hpo, ht, hs, hp, Option.getD_some] at hl2
  have hhe : s.held k = some l := by unfold St.held; rw [ht]
  obtain ⟨av, cv, hv⟩ := ownsRow_shape (h.row k l hhe).1
  simp only [ht, Option.map_some, Option.getD_some, Option.isSome_some, hv] at hl1
  obtain ⟨W0, hW0⟩ : ∃ W0, W0 = w.alloc (.cells #[.bool false, .int .i64 0, .slice none 0 0] 71) := ⟨_, rfl⟩
  have hk0 : Keep (fun _ => False) w W0 := by rw [hW0]; exact Keep.alloc _ _ _
  have H0 := h.stay hk0 fun _ _ _ f => f
  obtain ⟨a0, _, _⟩ := alloc3_cells hW0
  by_cases h0 : f = 0
  · have hst : struck (s.there k) (s.safe k) f = none := by rw [ht, hs, h0]; rfl
    have HDr := hide ((drop_c S W0 p s bt bo val k l po H0 h1 h2 ht hu hb).mono fun e w' hd => hd.struck h hk0 ht hst)
    rw [hW0] at a0 HDr
    subst h0
    clear h hpo ht hs hl hf hu hb hsg hp hhe hv hW0 hk0 H0 hst
    go_enter Try.func45, Try.ntmps45
    go_wp2_with (go_at_call 52; refine HDr.out.mono ?_; rintro e w1 hst; obtain rfl := hst.1; have HST := hide hst; clear hst)
    exact bodyPost_ret (v := .tuple #[]) (by simp [results, Try.results45, go_sem]) rfl HST.out
  · obtain ⟨d, hd⟩ : ∃ d : Nat, d = f - 1 := ⟨_, rfl⟩
    obtain ⟨c, hc⟩ : ∃ c : Nat, c = min d l.length := ⟨_, rfl⟩
    have hst : struck (s.there k) (s.safe k) f = some (l.take c) := by
      rw [ht, hs]
      show (if f = 0 then none else some (l.take (f - 1))) = _
      rw [if_neg h0]
      rcases Nat.lt_or_ge (f - 1) l.length with h3 | h3
      · rw [show c = f - 1 by omega]
      · rw [List.take_of_length_le h3, List.take_of_length_le (by omega)]
    have hcl : c ≤ l.length := by omega
    have hf0 : (f : Int) > 0 := by omega
    have hmn := min_run (d : Int) (l.length : Int) (c : Int) (by omega)
    have hw1 : wrap64 ((f : Int) - 1) = (d : Int) := wr' (by omega) (by omega) (by omega)
    have HSh := hide ((shorten_c S W0 p s bt bo val k l c po H0 h1 h2 ht hcl hu hb hsg).mono fun e w' hd => hd.struck h hk0 ht hst hcl hu)
    rw [hW0] at a0 HSh
    clear h hpo ht hs hl hf hu hb hsg hp hhe hv hW0 hk0 H0 hd hc hst h0 hcl
    go_enter Try.func45, Try.ntmps45
    go_wp2_with (go_at_call 61; refine HSh.out.mono ?_; rintro e w1 hst; obtain rfl := hst.1; have HST := hide hst; clear hst)
    exact bodyPost_ret (v := .tuple #[]) (by simp [results, Try.results45, go_sem]) rfl HST.out

/-- brought back -/
theorem CIn.back {S : Nat → Prop} {w w0 w1 w2 : World} {p : Nat} {s : St} {bt bo : Nat} {val : Int → Value} {po : Int → Option Value} {k : Int} {m : List Nat} {f : Nat} (h : CIn S w p s bt bo val po) (ht : s.there k = none) (hs : s.safe k = some m) (hf : f ≠ 0)
    (k0 : Keep (fun _ => False) w w0) (k1 : Keep (fun i => i = bt) w0 w1) (m1 : MapIs w1 bt (upd (fun j => (s.there j).map fun _ => val j) k (some (val k)))) (k2 : Keep (fun i => i = p) w1 w2)
    (hb : w2.heap[p]? = some (.cells (dcells { s with used := s.used + (64 + m.length) } bt bo) 68 (0, 0))) : Struck S w p s bt bo val po k f (.returned (.tuple #[])) w2 := by
  have hhe : s.held k = some m := by unfold St.held; rw [ht]; exact hs
  have hst : struck (s.there k) (s.safe k) f = some m := by rw [ht, hs]; show (if f = 0 then none else some m) = _; rw [if_neg hf]
  have kk : Keep (fun i => i = p ∨ i = bt) w w2 := ((k0.mono fun _ f => f.elim).more (k1.mono fun i e => .inr e)).more (k2.mono fun i e => .inl e)
  refine ⟨rfl, ⟨val k, h.change k (val k) (s.strike k f) (fun j hj => ⟨upd_other _ _ hj, upd_other _ _ hj⟩) (kk.mono fun i e => e.elim .inl fun e => .inr (.inl e)) ?_ ?_ ?_ (by rw [hhe]; simp) rfl⟩, kk.mono fun i e => e.elim (fun e => e ▸ h.sp) fun e => e ▸ h.st⟩
  · have hcd : dcells (s.strike k f) bt bo = dcells { s with used := s.used + (64 + m.length) } bt bo := by
      unfold St.strike dcells
      rw [hst, ht]
      simp only [cost, Nat.sub_zero]
    rw [hcd]; exact hb
  · have : (s.strike k f).there k = some m := by unfold St.strike; simp only [upd_same]; exact hst
    rw [this]; exact m1.keep k2 fun e => h.pt e.symm
  · intro l' hl'
    rw [strike_held, hst] at hl'
    injection hl' with hl'; subst hl'
    exact (h.row k m hhe).keep kk fun g hg e => e.elim (h.gne hhe hg).1 (h.gne hhe hg).2.1

/-- stays away -/
theorem CIn.gone {S : Nat → Prop} {w w0 : World} {p : Nat} {s : St} {bt bo : Nat} {val : Int → Value} {po : Int → Option Value} {k : Int} {m : List Nat} (h : CIn S w p s bt bo val po) (ht : s.there k = none) (hs : s.safe k = some m) (k0 : Keep (fun _ => False) w w0) : Struck S w p s bt bo val po k 0 (.returned (.tuple #[])) w0 := by
  have hhe : s.held k = some m := by unfold St.held; rw [ht]; exact hs
  have hst : struck (s.there k) (s.safe k) 0 = none := by rw [ht, hs]; rfl
  have h0 := h.stay k0 fun _ _ _ f => f
  refine ⟨rfl, ⟨val k, h.change k (val k) (s.strike k 0) (fun j hj => ⟨upd_other _ _ hj, upd_other _ _ hj⟩) (k0.mono fun _ f => f.elim) ?_ ?_ ?_ (by rw [hhe]; simp) rfl⟩, k0.mono fun _ f => f.elim⟩
  · have hcd : dcells (s.strike k 0) bt bo = dcells s bt bo := by
      unfold St.strike dcells
      rw [hst, ht]
      simp only [cost, Nat.add_zero, Nat.sub_zero]
    rw [hcd]; exact h0.blk
  · have : (s.strike k 0).there k = none := by unfold St.strike; simp only [upd_same]; exact hst
    rw [this]
    have e : upd (fun j => (s.there j).map fun _ => val j) k ((none : Option (List Nat)).map fun _ => val k) = fun j => (s.there j).map fun _ => val j := by
      rw [← ht]; exact upd_id _ k
    rw [e]; exact h0.mt
  · intro l' hl'
    rw [strike_held, hst] at hl'
    cases hl'

set_option maxRecDepth 10000 in
set_option maxHeartbeats 2000000 in
theorem strike_away (S : Nat → Prop) (w : World) (p : Nat) (s : St) (bt bo : Nat) (val : Int → Value) (po : Int → Option Value) (k : Int) (f : Nat) (m : List Nat) (h : CIn S w p s bt bo val po) (h1 : -9223372036854775808 ≤ k) (h2 : k ≤ 9223372036854775807) (hpo : po k = pastOf (s.there k) (s.safe k) (val k))
    (ht : s.there k = none) (hs : s.safe k = some m) (hl : m.length ≤ 67108864) (hb : s.used < 1152921504606846976) (hsg : Segs (fun j => (s.there j).map fun _ => val j)) :
    Calls Try.prog 45 #[.pointer (some ⟨p, 0, none⟩), .int .i64 k, .int .i64 f] w (Struck S w p s bt bo val po k f) := by
  have c2 := h.c2
  have c3 := h.c3
  have hl1 := (h.mt.look mapT zeroS h1 h2 0).1
  have hl2 := (h.mo.look mapO zeroP h1 h2 0).2
  rw [show w.drewN 0 = w from rfl] at hl1 hl2
  have hp : pastOf none (some m) (val k) = some (.agg #[.bool true, .int .i64 0, val k]) := by simp [pastOf]
  rw [hpo, ht, hs, hp, Option.getD_some] at hl2
  have hhe : s.held k = some m := by unfold St.held; rw [ht]; exact hs
  obtain ⟨av, cv, hv⟩ := ownsRow_shape (h.row k m hhe).1
  simp only [ht, Option.map_none, Option.getD_none, Option.isSome_none] at hl1
  rw [hv] at hl2
  obtain ⟨W0, hW0⟩ : ∃ W0, W0 = w.alloc (.cells #[.bool true, .int .i64 0, .slice av m.length cv] 71) := ⟨_, rfl⟩
  have hk0 : Keep (fun _ => False) w W0 := by rw [hW0]; exact Keep.alloc _ _ _
  obtain ⟨a0, _, a2⟩ := alloc3_cells hW0
  by_cases h0 : f = 0
  · subst h0
    have HE := hide (h.gone ht hs hk0)
    rw [hW0] at a0 a2 HE
    clear h hpo ht hs hl hb hsg hp hhe hv hW0 hk0
    go_enter Try.func45, Try.ntmps45
    go_wp2
    exact bodyPost_ret (v := .tuple #[]) (by simp [results, Try.results45, go_sem]) rfl HE.out
  · have hf0 : (f : Int) > 0 := by omega
    obtain ⟨q, hq⟩ : ∃ q : Nat, q = 64 + m.length := ⟨_, rfl⟩
    obtain ⟨u, hu⟩ : ∃ u : Nat, u = s.used + q := ⟨_, rfl⟩
    have H0 := h.stay hk0 fun _ _ _ f => f
    obtain ⟨w3, hst, m3, k3, z3⟩ := (H0.mt.of_blk (w' := W0.drew) rfl).store mapT h1 h2 hsg (.slice av m.length cv)
    have k3' : Keep (fun i => i = bt) W0 w3 := (Keep.drew _ _).more k3
    have b3 := k3'.blk H0.blk H0.pt
    have hne : w.heap.size ≠ bt := fun e => by have := h.mt.lt; omega
    have a2' := k3'.cell a2 hne
    have c1' : w3.cell? ⟨p, 1, none⟩ = some (.int .i64 (s.used : Nat)) := cell_blk b3 1 rfl
    have f1' := frozen_blk b3 1
    have HE : Hid (∀ w4, Keep (fun i => i = p) w3 w4 → w4.heap[p]? = some (.cells (dcells { s with used := u } bt bo) 68 (0, 0)) → Struck S w p s bt bo val po k f (.returned (.tuple #[])) w4) := fun w4 k4 hb4 =>
      h.back ht hs h0 hk0 k3' (by rw [hv]; exact m3) k4 (by rw [← hq, ← hu]; exact hb4)
    have c2' : W0.drew.cell? ⟨p, 2, none⟩ = some (.map (some bt)) := H0.c2
    have a2d : W0.drew.cell? ⟨w.heap.size, 2, none⟩ = some (.slice av m.length cv) := a2
    have B3 := hide b3
    obtain ⟨w1', w2', hw1, hw2⟩ : IntKind.i64.wrap (64 + (m.length : Int)) = (q : Int) ∧ IntKind.i64.wrap ((s.used : Int) + (q : Int)) = (u : Int) ∧ wrap64 (64 + (m.length : Int)) = (q : Int) ∧ wrap64 ((s.used : Int) + (q : Int)) = (u : Int) :=
      ⟨by rw [wr (by omega) (by omega)]; omega, by rw [wr (by omega) (by omega)]; omega, wr' (by omega) (by omega) (by omega), wr' (by omega) (by omega) (by omega)⟩
    rw [hW0] at a0 a2 hst c2' a2d
    clear h hpo ht hs hl hb hsg hp hhe hv hW0 hk0 H0 m3 k3 k3' b3 z3 hq hu h0
    go_enter Try.func45, Try.ntmps45
    go_wp2
    go_region
    go_wp2
    go_region
    go_wp2
    refine bodyPost_ret (v := .tuple #[]) (by simp [results, Try.results45, go_sem]) rfl (HE.out _ ((keep_cell w3 p 1 _).more (Keep.drew _ _)) ?_)
    show (w3.setCell ⟨p, 1, none⟩ (.int .i64 (u : Int))).heap[p]? = _
    rw [set_blk B3.out 1 _]
    rfl

theorem strike_any (S : Nat → Prop) (w : World) (p : Nat) (s : St) (bt bo : Nat) (val : Int → Value) (po : Int → Option Value) (k : Int) (f : Nat) (h : CIn S w p s bt bo val po) (h1 : 1 ≤ k) (h2 : k ≤ 1099511627776) (hpo : po k = pastOf (s.there k) (s.safe k) (val k)) (hop : s.there k ≠ s.safe k)
    (hf : f ≤ 9223372036854775807) (hu : s.used = totS s.there) (hb : s.used < 1152921504606846976) (hpre : ∀ l m, s.there k = some l → s.safe k = some m → m.length ≤ l.length) (hl : ∀ l, s.held k = some l → l.length ≤ 67108864) (hsg : Segs (fun j => (s.there j).map fun _ => val j)) :
    Calls Try.prog 45 #[.pointer (some ⟨p, 0, none⟩), .int .i64 k, .int .i64 f] w (Struck S w p s bt bo val po k f) := by
  have hle := tot_le s.there h1 h2
  rw [← hu] at hle
  cases ht : s.there k with
  | none =>
    cases hs : s.safe k with
    | none => exact absurd (by rw [ht, hs]) hop
    | some m => exact strike_away S w p s bt bo val po k f m h (by omega) (by omega) hpo ht hs (hl m (by unfold St.held; rw [ht]; exact hs)) hb hsg
  | some l =>
    rw [ht] at hle
    cases hs : s.safe k with
    | none => exact strike_new S w p s bt bo val po k f l h (by omega) (by omega) hpo ht hs (hl l (by unfold St.held; rw [ht])) hf hle hb hsg
    | some m => exact strike_grown S w p s bt bo val po k f l m h (by omega) (by omega) hpo ht hs (fun e => hop (by rw [ht, hs, e])) (hpre l m ht hs) hle hb hsg

end Go.Proofs.Ytilpidioengnbaa
