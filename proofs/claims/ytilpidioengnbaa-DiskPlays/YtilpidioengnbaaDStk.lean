/- Package disk: a disk in the midst of a Crash; drop, shorten, strike. -/
import Derived.Test.YtilpidioengnbaaDRis
namespace Go.Proofs.Ytilpidioengnbaa
open Go.RowKit Go.Lib

/-- a disk whose map of those open to loss is as it was -/
structure CIn (S : Nat → Prop) (w : World) (p : Nat) (s : St) (bt bo : Nat) (val : Int → Value) (po : Int → Option Value) : Prop where
  blk : w.heap[p]? = some (.cells (dcells s bt bo) 68 (0, 0))
  mt : MapIs w bt (fun k => (s.there k).map fun _ => val k)
  mo : MapIs w bo po
  ne : bt ≠ bo
  row : ∀ k l, s.held k = some l → Row w (val k) l
  one : ∀ k k' g, s.held k ≠ none → s.held k' ≠ none → (val k).ownBlock = some g → (val k').ownBlock = some g → k = k'
  own : ∀ k g, s.held k ≠ none → (val k).ownBlock = some g → S g
  sp : S p
  st : S bt
  so : S bo

theorem DIn.toC {S : Nat → Prop} {w : World} {p : Nat} {s : St} {bt bo : Nat} {val : Int → Value} (h : DIn S w p s bt bo val) : CIn S w p s bt bo val (fun k => pastOf (s.there k) (s.safe k) (val k)) :=
  ⟨h.blk, h.mt, h.mo, h.ne, h.row, h.one, h.own, h.sp, h.st, h.so⟩
theorem CIn.toD {S : Nat → Prop} {w : World} {p : Nat} {s : St} {bt bo : Nat} {val : Int → Value} {po : Int → Option Value} (h : CIn S w p s bt bo val po) (hp : ∀ k, po k = pastOf (s.there k) (s.safe k) (val k)) : DIn S w p s bt bo val :=
  ⟨h.blk, h.mt, by rw [← funext hp]; exact h.mo, h.ne, h.row, h.one, h.own, h.sp, h.st, h.so⟩

section
variable {S : Nat → Prop} {w w' : World} {p : Nat} {s : St} {bt bo : Nat} {val : Int → Value} {po : Int → Option Value}
theorem CIn.stay {T : Nat → Prop} (h : CIn S w p s bt bo val po) (hk : Keep T w w') (hT : ∀ i, i < w.heap.size → S i → ¬ T i) : CIn S w' p s bt bo val po where
  blk := hk.blk h.blk (hT p (Array.getElem?_eq_some_iff.1 h.blk).1 h.sp)
  mt := h.mt.keep hk (hT bt h.mt.lt h.st)
  mo := h.mo.keep hk (hT bo h.mo.lt h.so)
  ne := h.ne
  row k l hl := (h.row k l hl).keep hk fun g hg => hT g ((h.row k l hl).1.lt g hg).2 (h.own k g (by rw [hl]; simp) hg)
  one := h.one
  own := h.own
  sp := h.sp
  st := h.st
  so := h.so
theorem CIn.c1 (h : CIn S w p s bt bo val po) : w.cell? ⟨p, 1, none⟩ = some (.int .i64 (s.used : Nat)) := cell_blk h.blk 1 rfl
theorem CIn.c2 (h : CIn S w p s bt bo val po) : w.cell? ⟨p, 2, none⟩ = some (.map (some bt)) := cell_blk h.blk 2 rfl
theorem CIn.c3 (h : CIn S w p s bt bo val po) : w.cell? ⟨p, 3, none⟩ = some (.map (some bo)) := cell_blk h.blk 3 rfl
theorem CIn.fz (h : CIn S w p s bt bo val po) (j : Nat) : w.frozen? ⟨p, j, none⟩ = false := frozen_blk h.blk j
theorem CIn.pt (h : CIn S w p s bt bo val po) : p ≠ bt := fun e => by
  obtain ⟨es, c, hb⟩ := h.mt.blk
  have := h.blk
  rw [e, hb] at this
  cases this
theorem CIn.pno (h : CIn S w p s bt bo val po) : p ≠ bo := fun e => by
  obtain ⟨es, c, hb⟩ := h.mo.blk
  have := h.blk
  rw [e, hb] at this
  cases this
theorem CIn.gne (h : CIn S w p s bt bo val po) {k : Int} {l : List Nat} (hl : s.held k = some l) {g : Nat} (hg : (val k).ownBlock = some g) : g ≠ p ∧ g ≠ bt ∧ g ≠ bo := by
  obtain ⟨cs, hc⟩ := row_blk (h.row k l hl) hg
  refine ⟨fun e => ?_, fun e => ?_, fun e => ?_⟩
  · have := h.blk
    rw [← e, hc] at this
    simp at this
  · obtain ⟨es, c, hb⟩ := h.mt.blk
    rw [← e, hc] at hb
    cases hb
  · obtain ⟨es, c, hb⟩ := h.mo.blk
    rw [← e, hc] at hb
    cases hb

/-- one segment has had its fate -/
theorem CIn.change (h : CIn S w p s bt bo val po) (k : Int) (v' : Value) (s' : St)
    (hj : ∀ j, j ≠ k → s'.there j = s.there j ∧ s'.safe j = s.safe j)
    (hk : Keep (fun i => i = p ∨ i = bt ∨ (val k).ownBlock = some i ∧ s.held k ≠ none) w w')
    (hb : w'.heap[p]? = some (.cells (dcells s' bt bo) 68 (0, 0)))
    (mt : MapIs w' bt (upd (fun j => (s.there j).map fun _ => val j) k ((s'.there k).map fun _ => v')))
    (hrow : ∀ l, s'.held k = some l → Row w' v' l) (hh : s.held k ≠ none) (hloc : v'.ownBlock = (val k).ownBlock) : CIn S w' p s' bt bo (upd val k v') po := by
  have he : ∀ j, j ≠ k → s'.held j = s.held j := fun j e => by unfold St.held; rw [(hj j e).1, (hj j e).2]
  have hn : ∀ j, s'.held j ≠ none → s.held j ≠ none := fun j h1 => by
    by_cases e : j = k
    · subst e; exact hh
    · rw [he j e] at h1; exact h1
  have ho : ∀ j, (upd val k v' j).ownBlock = (val j).ownBlock := fun j => by
    by_cases e : j = k
    · subst e; rw [upd_same]; exact hloc
    · rw [upd_other _ _ e]
  obtain ⟨lk, hlk⟩ := Option.ne_none_iff_exists'.1 hh
  refine ⟨hb, ?_, h.mo.keep hk ?_, h.ne, fun j l hl => ?_, fun j j' g a b c d => h.one j j' g (hn j a) (hn j' b) (by rw [← ho]; exact c) (by rw [← ho]; exact d), fun j g a b => h.own j g (hn j a) (by rw [← ho]; exact b), h.sp, h.st, h.so⟩
  · have e : (fun j => (s'.there j).map fun _ => upd val k v' j) = upd (fun j => (s.there j).map fun _ => val j) k ((s'.there k).map fun _ => v') := by
      funext j
      by_cases e : j = k
      · subst e; rw [upd_same, upd_same]
      · rw [upd_other _ _ e, upd_other _ _ e, (hj j e).1]
    rw [e]; exact mt
  · intro e
    rcases e with e | e | ⟨e, _⟩
    · exact h.pno e.symm
    · exact h.ne e.symm
    · exact (h.gne hlk e).2.2 rfl
  · by_cases e : j = k
    · subst e; rw [upd_same]; exact hrow l hl
    · rw [upd_other _ _ e]
      rw [he j e] at hl
      refine (h.row j l hl).keep hk fun g hg hx => ?_
      obtain ⟨n1, n2, n3⟩ := h.gne hl hg
      rcases hx with hx | hx | ⟨hx, hn'⟩
      · exact n1 hx
      · exact n2 hx
      · exact e (h.one j k g (by rw [hl]; simp) hn' hg hx)
end

set_option maxRecDepth 10000 in
set_option maxHeartbeats 1000000 in
theorem drop_c (S : Nat → Prop) (w : World) (p : Nat) (s : St) (bt bo : Nat) (val : Int → Value) (k : Int) (l : List Nat) (po : Int → Option Value) (h : CIn S w p s bt bo val po) (h1 : -9223372036854775808 ≤ k) (h2 : k ≤ 9223372036854775807) (ht : s.there k = some l) (hu : 64 + l.length ≤ s.used) (hb : s.used < 1152921504606846976) :
    Calls Try.prog 52 #[.pointer (some ⟨p, 0, none⟩), .int .i64 k] w (Dropped w p s bt bo val k l) := by
  have hd : CIn S w.drew p s bt bo val po := h.stay (T := fun _ => False) (Keep.drew _ _) fun _ _ _ f => f
  have c1 := hd.c1
  have c2 := hd.c2
  have f1 := hd.fz 1
  have hl := (h.mt.look mapT zeroS h1 h2 1).2
  rw [show w.drewN 1 = w.drew from rfl] at hl
  obtain ⟨av, cv, hv⟩ := ownsRow_shape (h.row k l (by unfold St.held; rw [ht])).1
  simp only [ht, Option.map_some, Option.getD_some, hv] at hl
  have hw1 := wrap_id (n := 64 + (l.length : Int)) (by omega) (by omega)
  obtain ⟨q, hq⟩ : ∃ q : Nat, q = s.used - (64 + l.length) := ⟨_, rfl⟩
  have hw2 : wrap64 ((s.used : Int) - (64 + (l.length : Int))) = (q : Int) := by unfold wrap64; omega
  have w1' : IntKind.i64.wrap (64 + (l.length : Int)) = 64 + (l.length : Int) := wr (by omega) (by omega)
  have w2' : IntKind.i64.wrap ((s.used : Int) - (64 + (l.length : Int))) = (q : Int) := by rw [wr (by omega) (by omega)]; omega
  have H := hide hd
  have HT := hide ht
  have HQ := hide hq
  have HS := hide (h.mt.of_blk (w' := w.drew) rfl)
  clear h hd ht hu hb hv hq
  go_enter Try.func52, Try.ntmps52
  go_wp2
  go_region
  generalize hW : (w.setCell ⟨p, 1, none⟩ (.int .i64 (q : Int))).drew = W
  have kW : Keep (fun i => i = p) w W := by rw [← hW]; exact (keep_cell w p 1 _).more (Keep.drew _ _)
  have bW : W.heap[p]? = some (.cells (dcells { s with used := s.used - (64 + l.length) } bt bo) 68 (0, 0)) := by
    rw [← hW]
    show (w.setCell ⟨p, 1, none⟩ (.int .i64 (q : Int))).heap[p]? = _
    rw [set_blk (show w.heap[p]? = some (.cells (dcells s bt bo) 68 (0, 0)) from H.out.blk) 1 _, ← HQ.out]
    rfl
  have c2' : W.cell? ⟨p, 2, none⟩ = some (.map (some bt)) := cell_blk bW 2 rfl
  have M1 := hide (HS.out.keep (w' := W) (S := fun i => i = p) ⟨kW.os, kW.tape, kW.output, kW.size, kW.block⟩ fun e => H.out.pt e.symm)
  have KW := hide kW
  have BW := hide bW
  clear hW kW bW hl c1 c2 f1
  go_wp2_with (at_delete; refine wpList_drop rfl _ _ 65 rfl 33 mapT bt _ k rfl rfl M1.out h1 h2 ?_; intro w2 m2 k2 _)
  exact bodyPost_ret (v := .tuple #[]) (by simp [results, Try.results52, go_sem]) rfl ⟨rfl, k2.blk BW.out (fun e => H.out.pt e), m2, (KW.out.mono fun i e => .inl e).more (k2.mono fun i e => .inr e)⟩

/-- what shorten leaves -/
def Shortened (w : World) (p : Nat) (s : St) (bt bo : Nat) (val : Int → Value) (k : Int) (l : List Nat) (c : Nat) (e : Ending) (w' : World) : Prop :=
  e = .returned (.tuple #[]) ∧ ∃ v', w'.heap[p]? = some (.cells (dcells { s with used := s.used - (l.length - c) } bt bo) 68 (0, 0)) ∧ MapIs w' bt (upd (fun j => (s.there j).map fun _ => val j) k (some v')) ∧ Row w' v' (l.take c) ∧ v'.ownBlock = (val k).ownBlock ∧
    Keep (fun i => i = p ∨ i = bt ∨ (val k).ownBlock = some i) w w'

set_option maxRecDepth 10000 in
set_option maxHeartbeats 2000000 in
theorem shorten_c (S : Nat → Prop) (w : World) (p : Nat) (s : St) (bt bo : Nat) (val : Int → Value) (k : Int) (l : List Nat) (c : Nat) (po : Int → Option Value) (h : CIn S w p s bt bo val po) (h1 : -9223372036854775808 ≤ k) (h2 : k ≤ 9223372036854775807) (ht : s.there k = some l) (hc : c ≤ l.length) (hu : 64 + l.length ≤ s.used) (hb : s.used < 1152921504606846976)
    (hsg : Segs (fun j => (s.there j).map fun _ => val j)) :
    Calls Try.prog 61 #[.pointer (some ⟨p, 0, none⟩), .int .i64 k, .int .i64 c] w (Shortened w p s bt bo val k l c) := by
  have c1 := h.c1
  have c2 := h.c2
  have f1 := h.fz 1
  have hl := (h.mt.look mapT zeroS h1 h2 0).2
  rw [show w.drewN 0 = w from rfl] at hl
  have hhe : s.held k = some l := by unfold St.held; rw [ht]
  obtain ⟨av, cv, hv⟩ := ownsRow_shape (h.row k l hhe).1
  simp only [ht, Option.map_some, Option.getD_some, hv] at hl
  obtain ⟨d, hd⟩ : ∃ d : Nat, d = l.length - c := ⟨_, rfl⟩
  have hw1 : wrap64 ((l.length : Int) - (c : Int)) = (d : Int) := by unfold wrap64; omega
  obtain ⟨q, hq⟩ : ∃ q : Nat, q = s.used - d := ⟨_, rfl⟩
  have hw2 : wrap64 ((s.used : Int) - (d : Int)) = (q : Int) := by unfold wrap64; omega
  have HG : Hid (∀ g, (Value.slice av l.length cv).ownBlock = some g → g ≠ p ∧ g ≠ bt ∧ g ≠ bo) := fun g e => h.gne hhe (by rw [hv]; exact e)
  have H := hide h
  have HV := hide hv
  have HD := hide hd
  have HQ := hide hq
  have HRw := hide (h.row k l hhe)
  have HSg := hide hsg
  clear h ht hu hb hv hq hd hhe hsg
  go_enter Try.func61, Try.ntmps61
  go_wp2
  generalize hW : w.setCell ⟨p, 1, none⟩ (.int .i64 (q : Int)) = W
  have kW : Keep (fun i => i = p) w W := by rw [← hW]; exact keep_cell w p 1 _
  have bW : W.heap[p]? = some (.cells (dcells { s with used := s.used - (l.length - c) } bt bo) 68 (0, 0)) := by
    rw [← hW, set_blk H.out.blk 1 _, ← HD.out, ← HQ.out]
    rfl
  have C2 : Hid (W.drew.cell? ⟨p, 2, none⟩ = some (.map (some bt))) := cell_blk bW 2 rfl
  have M1 := hide ((H.out.mt.keep kW (fun e => H.out.pt e.symm)).of_blk (w' := W.drew) rfl)
  have R1 : Hid (Row W.drew (.slice av l.length cv) l) := by
    have := (HRw.out.keep kW fun g e e' => by rw [HV.out] at e; exact (HG.out g e).1 e').keep (Keep.drew (fun _ => False) _) fun _ _ f => f
    rw [HV.out] at this
    exact this
  have KW := hide kW
  have BW := hide bW
  clear hW kW bW hl c1 c2 f1
  go_region_held3 (fun wx => wx.cell? ⟨p, 2, none⟩ = some (.map (some bt))) (first | (exact C2.out) | (exact HKc.out.cell C2.out fun e => (HG.out p e).1 rfl) | (exact K3.out.cell (HKc.out.cell C2.out fun e => (HG.out p e).1 rfl) fun e => H.out.pt e) | go_keep)
    ((go_at_call 53
      refine (cut_any (.slice av l.length cv) l c W.drew R1.out hc).mono ?_
      rintro e W1 ⟨v', rfl, hrow, hkp, hown⟩
      obtain ⟨w3, hst, m3, k3, z3⟩ := (M1.out.keep hkp fun e => (HG.out bt e).2.1 rfl).store mapT h1 h2 HSg.out v'
      have M3 := hide m3
      have K3 := hide k3
      have HRow1 := hide hrow
      have HKc := hide hkp
      have HOwn := hide hown
      clear m3 k3 hrow hown z3 hkp))
  refine bodyPost_ret (v := .tuple #[]) (by simp [results, Try.results61, go_sem]) rfl ⟨rfl, v', ?_, M3.out, ?_, by rw [HV.out]; exact HOwn.out, ?_⟩
  · exact K3.out.blk (HKc.out.blk (p := p) BW.out fun e => (HG.out p e).1 rfl) fun e => H.out.pt e
  · exact HRow1.out.keep K3.out fun g e e' => (HG.out g (by rw [← HOwn.out]; exact e)).2.1 e'
  · exact (((KW.out.mono fun i e => .inl e).more (Keep.drew _ _)).more (HKc.out.mono fun i e => .inr (.inr (by rw [HV.out]; exact e)))).more (K3.out.mono fun i e => .inr (.inl e))

end Go.Proofs.Ytilpidioengnbaa
