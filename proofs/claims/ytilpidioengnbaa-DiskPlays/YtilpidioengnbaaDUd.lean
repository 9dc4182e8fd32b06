/- DiskPlays: the document's step, kind by kind (written by dwan_gen.py). -/
import Derived.Test.YtilpidioengnbaaDUa
import Derived.Test.YtilpidioengnbaaDUc
import Derived.Test.YtilpidioengnbaaDThk
import Derived.Test.YtilpidioengnbaaDOn2
namespace Go.Proofs.Ytilpidioengnbaa
namespace DP
open Go.RowKit

/-- what the contracts of the document's disk ask for -/
structure FitW (r : Rf) (z : List Int) : Prop where
  f : Fit r
  s1 : SrtS r.th
  s2 : SrtS r.sf
  by2 : ∀ e ∈ r.sf, e.2.length ≤ 67108864
  cl : (crashS r.th r.sf z).length ≤ 1099511627776
theorem fitW_of {r : Rf} {s : St} {n : Nat} (h : Ag r s) (g : Good n s) (hn : n ≤ 70368744177664) (z : List Int) : FitW r z := ⟨fit_of h g hn, h.srt, h.srt2, fit2_of h g, crash_len h g z⟩
/-- what the document's step answers -/
def WantAs (S : Nat → Prop) (w : World) (p : Nat) (r : Rf) (q : Stp) (e : Ending) (w' : World) : Prop :=
  ∃ (vl vb : Value), e = .returned (.agg #[.int .i64 (stepR r q).1, .int .i64 (numR r q), .bool (isR r q), vl, vb]) ∧ RIn S w' p (stepR r q).2 ∧ Keep S w w' ∧
    w'.ownsRow 0 3 1 vl (ksR r q).length ((ksR r q).map (Value.int .i64)) ∧ Row w' vb (bsR r q) ∧ (∀ g, vl.ownBlock = some g → w.heap.size ≤ g) ∧ ∀ g, vb.ownBlock = some g → w.heap.size ≤ g
theorem RIn.part {S : Nat → Prop} {w w1 : World} {p : Nat} {r : Rf} (h : RIn S w p r) (hk : Keep (fun _ => False) w w1) : RIn (fun i => S i ∧ (i < w.heap.size ∨ w1.heap.size ≤ i)) w1 p r := by
  obtain ⟨vt, lt, vs, ls, h, h1, h2⟩ := h
  have h' := h.stay hk fun _ _ _ f => f
  have ht := h'.t
  have hs := h'.s
  refine ⟨vt, lt, vs, ls, ⟨h'.blk, ⟨h.sp, .inl (Array.getElem?_eq_some_iff.1 h.blk).1⟩, ⟨ht.row, ht.by8, ht.sep, fun g e => ⟨ht.sv g e, .inl (h.t.lt (.inl e))⟩, fun e he g e2 => ⟨ht.sb e he g e2, .inl (h.t.lt (.inr ⟨e, he, e2⟩))⟩⟩, ⟨hs.row, hs.by8, hs.sep, fun g e => ⟨hs.sv g e, .inl (h.s.lt (.inl e))⟩, fun e he g e2 => ⟨hs.sb e he g e2, .inl (h.s.lt (.inr ⟨e, he, e2⟩))⟩⟩, h'.ap⟩, h1, h2⟩
theorem RIn.low {S : Nat → Prop} {w : World} {p : Nat} {r : Rf} (h : RIn S w p r) : RIn (fun i => S i ∧ i < w.heap.size) w p r := by
  obtain ⟨vt, lt, vs, ls, h, h1, h2⟩ := h
  have ht := h.t
  have hs := h.s
  refine ⟨vt, lt, vs, ls, ⟨h.blk, ⟨h.sp, (Array.getElem?_eq_some_iff.1 h.blk).1⟩, ⟨ht.row, ht.by8, ht.sep, fun g e => ⟨ht.sv g e, h.t.lt (.inl e)⟩, fun e he g e2 => ⟨ht.sb e he g e2, h.t.lt (.inr ⟨e, he, e2⟩)⟩⟩, ⟨hs.row, hs.by8, hs.sep, fun g e => ⟨hs.sv g e, h.s.lt (.inl e)⟩, fun e he g e2 => ⟨hs.sb e he g e2, h.s.lt (.inr ⟨e, he, e2⟩)⟩⟩, h.ap⟩, h1, h2⟩
theorem stepR_0 {r : Rf} {q : Stp} (h : pickV q.what 12 = 0) : stepR r q = ((r.create q.seg).1, (r.create q.seg).2) := by unfold stepR; rw [if_pos h]
theorem stepR_1 {r : Rf} {q : Stp} (h : pickV q.what 12 = 1) : stepR r q = ((r.append q.seg q.b).1, (r.append q.seg q.b).2) := by unfold stepR; rw [if_neg (by rw [h]; decide), if_pos h]
theorem stepR_2 {r : Rf} {q : Stp} (h : pickV q.what 12 = 2) : stepR r q = ((r.remove q.seg).1, (r.remove q.seg).2) := by unfold stepR; rw [if_neg (by rw [h]; decide), if_neg (by rw [h]; decide), if_pos h]
theorem stepR_3 {r : Rf} {q : Stp} (h : pickV q.what 12 = 3) : stepR r q = ((r.sync).1, (r.sync).2) := by unfold stepR; rw [if_neg (by rw [h]; decide), if_neg (by rw [h]; decide), if_neg (by rw [h]; decide), if_pos h]
theorem stepR_4 {r : Rf} {q : Stp} (h : pickV q.what 12 = 4) : stepR r q = ((r.append q.seg q.thick).1, (r.append q.seg q.thick).2) := by unfold stepR; rw [if_neg (by rw [h]; decide), if_neg (by rw [h]; decide), if_neg (by rw [h]; decide), if_neg (by rw [h]; decide), if_pos h]
theorem stepR_5 {r : Rf} {q : Stp} (h : pickV q.what 12 = 5) : stepR r q = (if r.off then 56 else if lookS r.th q.seg = none then 53 else 0, r) := by unfold stepR; rw [if_neg (by rw [h]; decide), if_neg (by rw [h]; decide), if_neg (by rw [h]; decide), if_neg (by rw [h]; decide), if_neg (by rw [h]; decide), if_pos h]
theorem stepR_6 {r : Rf} {q : Stp} (h : pickV q.what 12 = 6) : stepR r q = (if r.off then 56 else 0, r) := by unfold stepR; rw [if_neg (by rw [h]; decide), if_neg (by rw [h]; decide), if_neg (by rw [h]; decide), if_neg (by rw [h]; decide), if_neg (by rw [h]; decide), if_neg (by rw [h]; decide), if_pos h]
theorem stepR_7 {r : Rf} {q : Stp} (h : pickV q.what 12 = 7) : stepR r q = ((r.arm q.n).1, (r.arm q.n).2) := by unfold stepR; rw [if_neg (by rw [h]; decide), if_neg (by rw [h]; decide), if_neg (by rw [h]; decide), if_neg (by rw [h]; decide), if_neg (by rw [h]; decide), if_neg (by rw [h]; decide), if_neg (by rw [h]; decide), if_pos h]
theorem stepR_8 {r : Rf} {q : Stp} (h : pickV q.what 12 = 8) : stepR r q = (0, r) := by unfold stepR; rw [if_neg (by rw [h]; decide), if_neg (by rw [h]; decide), if_neg (by rw [h]; decide), if_neg (by rw [h]; decide), if_neg (by rw [h]; decide), if_neg (by rw [h]; decide), if_neg (by rw [h]; decide), if_neg (by rw [h]; decide), if_pos h]
theorem stepR_9 {r : Rf} {q : Stp} (h : pickV q.what 12 = 9) : stepR r q = ((r.spoil q.seg q.n q.mask).1, (r.spoil q.seg q.n q.mask).2) := by unfold stepR; rw [if_neg (by rw [h]; decide), if_neg (by rw [h]; decide), if_neg (by rw [h]; decide), if_neg (by rw [h]; decide), if_neg (by rw [h]; decide), if_neg (by rw [h]; decide), if_neg (by rw [h]; decide), if_neg (by rw [h]; decide), if_neg (by rw [h]; decide), if_pos h]
theorem stepR_10 {r : Rf} {q : Stp} (h : pickV q.what 12 = 10) : stepR r q = (if r.off then 56 else 0, r) := by unfold stepR; rw [if_neg (by rw [h]; decide), if_neg (by rw [h]; decide), if_neg (by rw [h]; decide), if_neg (by rw [h]; decide), if_neg (by rw [h]; decide), if_neg (by rw [h]; decide), if_neg (by rw [h]; decide), if_neg (by rw [h]; decide), if_neg (by rw [h]; decide), if_neg (by rw [h]; decide), if_pos h]
theorem stepR_11 {r : Rf} {q : Stp} (h : pickV q.what 12 = 11) : stepR r q = (0, r.crash q.fate) := by unfold stepR; rw [if_neg (by rw [h]; decide), if_neg (by rw [h]; decide), if_neg (by rw [h]; decide), if_neg (by rw [h]; decide), if_neg (by rw [h]; decide), if_neg (by rw [h]; decide), if_neg (by rw [h]; decide), if_neg (by rw [h]; decide), if_neg (by rw [h]; decide), if_neg (by rw [h]; decide), if_neg (by rw [h]; decide)]
theorem numR_no {r : Rf} {q : Stp} (h : pickV q.what 12 ≠ 6) : numR r q = 0 := by unfold numR; rw [if_neg fun e => h e.1]
theorem isR_no {r : Rf} {q : Stp} (h : pickV q.what 12 ≠ 8) : isR r q = false := by unfold isR; rw [decide_eq_false h]; rfl
theorem ksR_no {r : Rf} {q : Stp} (h : pickV q.what 12 ≠ 10) : ksR r q = [] := by unfold ksR; rw [if_neg fun e => h e.1]
theorem bsR_no {r : Rf} {q : Stp} (h : pickV q.what 12 ≠ 5) : bsR r q = [] := by unfold bsR; rw [if_neg fun e => h e.1]
theorem numR_6 {r : Rf} {q : Stp} (h : pickV q.what 12 = 6) : numR r q = if r.off then (0 : Int) else (r.room : Int) := by unfold numR; cases r.off <;> simp [h]
theorem isR_8 {r : Rf} {q : Stp} (h : pickV q.what 12 = 8) : isR r q = r.off := by unfold isR; simp [h]
theorem ksR_10 {r : Rf} {q : Stp} (h : pickV q.what 12 = 10) : ksR r q = if r.off then [] else r.th.map Prod.fst := by unfold ksR; cases r.off <;> simp [h]
theorem bsR_5 {r : Rf} {q : Stp} (h : pickV q.what 12 = 5) : bsR r q = if r.off then [] else (lookS r.th q.seg).getD [] := by unfold bsR; cases r.off <;> simp [h]
structure BxR (S : Nat → Prop) (w : World) (p : Nat) (r : Rf) (q : Stp) : Prop where
  d : RIn (Sx S w) (bx w q) p r
  n : ∀ i, (bx w q).heap.size ≤ i → Sx S w i
  sq : StpOk (bx w q) q
  o : q.out S → q.out (Sx S w)
  k : Keep (fun _ => False) w (bx w q)
  b : (bx w q).heap[w.heap.size]? = some (.cells #[.int .i64 q.which, .bool q.copy, .int .i64 q.what, .int .i64 q.seg, .int .i64 q.n, .int .u8 (q.mask : Nat), .slice q.ba q.b.length q.bc, .slice q.fa q.fate.length q.fc] 36 (0, 0))
  r : (bx w q).heap[w.heap.size + 1]? = some (.cells #[.int .i64 0, .int .i64 0, .bool false, .slice none 0 0, .slice none 0 0] 40 (0, 0))
theorem bx_size (w : World) (q : Stp) : (bx w q).heap.size = w.heap.size + 2 := by unfold bx; rw [alloc_size, alloc_size]
theorem boxedR {S : Nat → Prop} {w : World} {p : Nat} {r : Rf} {q : Stp} (h : RIn S w p r) (hS : ∀ i, w.heap.size ≤ i → S i) (hq : StpOk w q) : BxR S w p r q := by
  have hz := bx_size w q
  have k : Keep (fun _ => False) w (bx w q) := (Keep.alloc _ _ _).more (Keep.alloc _ _ _)
  refine ⟨?_, fun i hi => ⟨hS i (by omega), .inr (by omega)⟩, hq.stay k ⟨fun _ _ _ _ f => f, fun _ _ _ _ f => f⟩, fun ho => ho.mono fun i e => e.1, k, (Keep.alloc (fun _ => False) _ _).blk (heap_alloc_new w _) fun f => f, ?_⟩
  · have := h.part k
    rw [hz] at this
    exact this
  · have := heap_alloc_new (w.alloc (.cells #[.int .i64 q.which, .bool q.copy, .int .i64 q.what, .int .i64 q.seg, .int .i64 q.n, .int .u8 (q.mask : Nat), .slice q.ba q.b.length q.bc, .slice q.fa q.fate.length q.fc] 36)) (.cells #[.int .i64 0, .int .i64 0, .bool false, .slice none 0 0, .slice none 0 0] 40)
    rw [alloc_size] at this
    exact this
theorem want_end {S : Nat → Prop} {w w3 : World} {p : Nat} {r r2 : Rf} {q : Stp} (hB : BxR S w p r q) (hS : ∀ i, w.heap.size ≤ i → S i) (hk : Keep (Sx S w) (bx w q) w3) (hd : RIn (Sx S w) w3 p r2) {c N : Int} {is : Bool} {vl vb : Value} {ks : List Int} {bs : List Nat}
    (e1 : stepR r q = (c, r2)) (e2 : numR r q = N) (e3 : isR r q = is) (e4 : ksR r q = ks) (e5 : bsR r q = bs) (hl : w3.ownsRow 0 3 1 vl ks.length (ks.map (Value.int .i64))) (hr : Row w3 vb bs) (h1 : ∀ g, vl.ownBlock = some g → w.heap.size + 2 ≤ g) (h2 : ∀ g, vb.ownBlock = some g → w.heap.size + 2 ≤ g) :
    WantAs S w p r q (.returned (.agg #[.int .i64 c, .int .i64 N, .bool is, vl, vb])) (put5 w3 (w.heap.size + 1) (.int .i64 c) (.int .i64 N) (.bool is) vl vb) := by
  subst e2 e3 e4 e5
  have kp := put5_keep w3 (w.heap.size + 1) (.int .i64 c) (.int .i64 (numR r q)) (.bool (isR r q)) vl vb
  refine ⟨vl, vb, by rw [e1], ?_, ?_, ownsRow_keep hl kp fun g e e2 => (by have := h1 g e; have e2 : g = w.heap.size + 1 := e2; omega), hr.keep kp fun g e e2 => (by have := h2 g e; have e2 : g = w.heap.size + 1 := e2; omega), fun g e => (by have := h1 g e; omega), fun g e => (by have := h2 g e; omega)⟩
  · rw [e1]
    exact (hd.stay kp fun i _ hi e => by have := hi.2; have e : i = w.heap.size + 1 := e; omega).mono fun i e => e.1
  · exact (hB.k.mono fun _ f => f.elim).more ((hk.mono fun i e => e.1).more (kp.mono fun i e => hS i (by have e : i = w.heap.size + 1 := e; omega)))

theorem list_row {w : World} {B : Nat} {v : Value} {r : Rf} (h : w.ownsRow B 3 1 v (if r.off then 0 else r.th.length) (if r.off then [] else kv r.th)) : w.ownsRow 0 3 1 v (if r.off then [] else r.th.map Prod.fst).length ((if r.off then [] else r.th.map Prod.fst).map (Value.int .i64)) := by
  cases hr : r.off with
  | true => rw [hr] at h; exact h.mono (Nat.zero_le _)
  | false =>
    rw [hr] at h
    have h2 := h.mono (Nat.zero_le B)
    unfold kv at h2
    simpa [Function.comp_def] using h2
set_option maxRecDepth 100000 in
set_option maxHeartbeats 4000000 in
theorem wanted_create (S : Nat → Prop) (w : World) (p : Nat) (r : Rf) (q : Stp) (h : RIn S w p r) (_fw : FitW r q.fate) (hS : ∀ i, w.heap.size ≤ i → S i) (hq : StpOk w q) (_hm : More q) (hw : pickV q.what 12 = 0) :
    Calls Try.prog 11 #[.pointer (some ⟨p, 0, none⟩), q.val] w (WantAs S w p r q) := by
  have hpick := fun w => pick_any q.what 12 hq.what.1 hq.what.2 (by decide) (by decide) w
  rw [hw] at hpick
  have HPk := hide hpick
  have HW := hide hw
  have HB := hide (boxedR h hS hq)
  have HS := hide hS
  have HC := hide (refCreate_any (Sx S w) (bx w q) p r q.seg HB.out.d hq.seg.1 hq.seg.2 HB.out.n _fw.f.cap _fw.f.sum _fw.f.len _fw.f.len2 _fw.f.left)
  unfold bx at HC
  unfold Stp.val
  clear hpick hw h _fw hS hq _hm
  go_enter Try.func11, Try.ntmps11
  go_wp2_with (first
    | (go_at_call 7; refine (HPk.out _).mono ?_; rintro e w1 ⟨rfl, rfl⟩)
    | (go_at_call 34
       refine HC.out.mono ?_
       rintro e w3 ⟨rfl, hd, hk⟩
       have r3 := hk.blk HB.out.r (fun e => by have := e.2; omega)
       have HE : Hid (WantAs S w p r q (.returned (.agg #[.int .i64 (r.create q.seg).1, .int .i64 0, .bool false, .slice none 0 0, .slice none 0 0])) (put5 w3 (w.heap.size + 1) (.int .i64 (r.create q.seg).1) (.int .i64 0) (.bool false) (.slice none 0 0) (.slice none 0 0))) := want_end HB.out HS.out hk hd (stepR_0 HW.out) (numR_no (by rw [HW.out]; decide)) (isR_no (by rw [HW.out]; decide)) (ksR_no (by rw [HW.out]; decide)) (bsR_no (by rw [HW.out]; decide)) (World.ownsRow_nil _ _ _ _) (row_nil _) (fun g e => by cases e) (fun g e => by cases e)
       generalize (r.create q.seg).1 = cd at *
       clear hd hk
       have r0 := cell_blk r3 0 (v := .int .i64 0) rfl
       have r1 := cell_blk r3 1 (v := .int .i64 0) rfl
       have r2 := cell_blk r3 2 (v := .bool false) rfl
       have r4 := cell_blk r3 3 (v := .slice none 0 0) rfl
       have r5 := cell_blk r3 4 (v := .slice none 0 0) rfl
       have f0 := frozen_blk r3 0
       have f1 := frozen_blk r3 1
       have f2 := frozen_blk r3 2
       have f3 := frozen_blk r3 3
       have f4 := frozen_blk r3 4
       have HR := hide r3
       clear r3))
  exact bodyPost_ret (res_told rfl _ _ (w.heap.size + 1) _ _ _ _ _ rfl (put5_blk HR.out _ _ _ _ _)) rfl HE.out

set_option maxRecDepth 100000 in
set_option maxHeartbeats 4000000 in
theorem wanted_append (S : Nat → Prop) (w : World) (p : Nat) (r : Rf) (q : Stp) (h : RIn S w p r) (_fw : FitW r q.fate) (hS : ∀ i, w.heap.size ≤ i → S i) (hq : StpOk w q) (_hm : More q) (hw : pickV q.what 12 = 1) :
    Calls Try.prog 11 #[.pointer (some ⟨p, 0, none⟩), q.val] w (WantAs S w p r q) := by
  have hpick := fun w => pick_any q.what 12 hq.what.1 hq.what.2 (by decide) (by decide) w
  rw [hw] at hpick
  have HPk := hide hpick
  have HW := hide hw
  have HB := hide (boxedR h hS hq)
  have HS := hide hS
  have HC := hide (refAppend_any (Sx S w) (bx w q) p r q.seg q.ba q.b.length q.bc q.b HB.out.d _fw.s1 HB.out.n HB.out.sq.rb _hm.2.1 _fw.f.cap _fw.f.sum _fw.f.len _fw.f.by_ _fw.f.left)
  unfold bx at HC
  unfold Stp.val
  clear hpick hw h _fw hS hq _hm
  go_enter Try.func11, Try.ntmps11
  go_wp2_with (first
    | (go_at_call 7; refine (HPk.out _).mono ?_; rintro e w1 ⟨rfl, rfl⟩)
    | (go_at_call 35
       refine HC.out.mono ?_
       rintro e w3 ⟨rfl, hd, hk⟩
       have r3 := hk.blk HB.out.r (fun e => by have := e.2; omega)
       have HE : Hid (WantAs S w p r q (.returned (.agg #[.int .i64 (r.append q.seg q.b).1, .int .i64 0, .bool false, .slice none 0 0, .slice none 0 0])) (put5 w3 (w.heap.size + 1) (.int .i64 (r.append q.seg q.b).1) (.int .i64 0) (.bool false) (.slice none 0 0) (.slice none 0 0))) := want_end HB.out HS.out hk hd (stepR_1 HW.out) (numR_no (by rw [HW.out]; decide)) (isR_no (by rw [HW.out]; decide)) (ksR_no (by rw [HW.out]; decide)) (bsR_no (by rw [HW.out]; decide)) (World.ownsRow_nil _ _ _ _) (row_nil _) (fun g e => by cases e) (fun g e => by cases e)
       generalize (r.append q.seg q.b).1 = cd at *
       clear hd hk
       have r0 := cell_blk r3 0 (v := .int .i64 0) rfl
       have r1 := cell_blk r3 1 (v := .int .i64 0) rfl
       have r2 := cell_blk r3 2 (v := .bool false) rfl
       have r4 := cell_blk r3 3 (v := .slice none 0 0) rfl
       have r5 := cell_blk r3 4 (v := .slice none 0 0) rfl
       have f0 := frozen_blk r3 0
       have f1 := frozen_blk r3 1
       have f2 := frozen_blk r3 2
       have f3 := frozen_blk r3 3
       have f4 := frozen_blk r3 4
       have HR := hide r3
       clear r3))
  exact bodyPost_ret (res_told rfl _ _ (w.heap.size + 1) _ _ _ _ _ rfl (put5_blk HR.out _ _ _ _ _)) rfl HE.out

set_option maxRecDepth 100000 in
set_option maxHeartbeats 4000000 in
theorem wanted_remove (S : Nat → Prop) (w : World) (p : Nat) (r : Rf) (q : Stp) (h : RIn S w p r) (_fw : FitW r q.fate) (hS : ∀ i, w.heap.size ≤ i → S i) (hq : StpOk w q) (_hm : More q) (hw : pickV q.what 12 = 2) :
    Calls Try.prog 11 #[.pointer (some ⟨p, 0, none⟩), q.val] w (WantAs S w p r q) := by
  have hpick := fun w => pick_any q.what 12 hq.what.1 hq.what.2 (by decide) (by decide) w
  rw [hw] at hpick
  have HPk := hide hpick
  have HW := hide hw
  have HB := hide (boxedR h hS hq)
  have HS := hide hS
  have HC := hide (refRemove_any (Sx S w) (bx w q) p r q.seg HB.out.d hq.seg.1 hq.seg.2 HB.out.n _fw.f.len _fw.f.left)
  unfold bx at HC
  unfold Stp.val
  clear hpick hw h _fw hS hq _hm
  go_enter Try.func11, Try.ntmps11
  go_wp2_with (first
    | (go_at_call 7; refine (HPk.out _).mono ?_; rintro e w1 ⟨rfl, rfl⟩)
    | (go_at_call 36
       refine HC.out.mono ?_
       rintro e w3 ⟨rfl, hd, hk⟩
       have r3 := hk.blk HB.out.r (fun e => by have := e.2; omega)
       have HE : Hid (WantAs S w p r q (.returned (.agg #[.int .i64 (r.remove q.seg).1, .int .i64 0, .bool false, .slice none 0 0, .slice none 0 0])) (put5 w3 (w.heap.size + 1) (.int .i64 (r.remove q.seg).1) (.int .i64 0) (.bool false) (.slice none 0 0) (.slice none 0 0))) := want_end HB.out HS.out hk hd (stepR_2 HW.out) (numR_no (by rw [HW.out]; decide)) (isR_no (by rw [HW.out]; decide)) (ksR_no (by rw [HW.out]; decide)) (bsR_no (by rw [HW.out]; decide)) (World.ownsRow_nil _ _ _ _) (row_nil _) (fun g e => by cases e) (fun g e => by cases e)
       generalize (r.remove q.seg).1 = cd at *
       clear hd hk
       have r0 := cell_blk r3 0 (v := .int .i64 0) rfl
       have r1 := cell_blk r3 1 (v := .int .i64 0) rfl
       have r2 := cell_blk r3 2 (v := .bool false) rfl
       have r4 := cell_blk r3 3 (v := .slice none 0 0) rfl
       have r5 := cell_blk r3 4 (v := .slice none 0 0) rfl
       have f0 := frozen_blk r3 0
       have f1 := frozen_blk r3 1
       have f2 := frozen_blk r3 2
       have f3 := frozen_blk r3 3
       have f4 := frozen_blk r3 4
       have HR := hide r3
       clear r3))
  exact bodyPost_ret (res_told rfl _ _ (w.heap.size + 1) _ _ _ _ _ rfl (put5_blk HR.out _ _ _ _ _)) rfl HE.out

set_option maxRecDepth 100000 in
set_option maxHeartbeats 4000000 in
theorem wanted_sync (S : Nat → Prop) (w : World) (p : Nat) (r : Rf) (q : Stp) (h : RIn S w p r) (_fw : FitW r q.fate) (hS : ∀ i, w.heap.size ≤ i → S i) (hq : StpOk w q) (_hm : More q) (hw : pickV q.what 12 = 3) :
    Calls Try.prog 11 #[.pointer (some ⟨p, 0, none⟩), q.val] w (WantAs S w p r q) := by
  have hpick := fun w => pick_any q.what 12 hq.what.1 hq.what.2 (by decide) (by decide) w
  rw [hw] at hpick
  have HPk := hide hpick
  have HW := hide hw
  have HB := hide (boxedR h hS hq)
  have HS := hide hS
  have HC := hide (refSync_any (Sx S w) (bx w q) p r HB.out.d HB.out.n _fw.f.len _fw.f.by_ _fw.f.left)
  unfold bx at HC
  unfold Stp.val
  clear hpick hw h _fw hS hq _hm
  go_enter Try.func11, Try.ntmps11
  go_wp2_with (first
    | (go_at_call 7; refine (HPk.out _).mono ?_; rintro e w1 ⟨rfl, rfl⟩)
    | (go_at_call 37
       refine HC.out.mono ?_
       rintro e w3 ⟨rfl, hd, hk⟩
       have r3 := hk.blk HB.out.r (fun e => by have := e.2; omega)
       have HE : Hid (WantAs S w p r q (.returned (.agg #[.int .i64 (r.sync).1, .int .i64 0, .bool false, .slice none 0 0, .slice none 0 0])) (put5 w3 (w.heap.size + 1) (.int .i64 (r.sync).1) (.int .i64 0) (.bool false) (.slice none 0 0) (.slice none 0 0))) := want_end HB.out HS.out hk hd (stepR_3 HW.out) (numR_no (by rw [HW.out]; decide)) (isR_no (by rw [HW.out]; decide)) (ksR_no (by rw [HW.out]; decide)) (bsR_no (by rw [HW.out]; decide)) (World.ownsRow_nil _ _ _ _) (row_nil _) (fun g e => by cases e) (fun g e => by cases e)
       generalize (r.sync).1 = cd at *
       clear hd hk
       have r0 := cell_blk r3 0 (v := .int .i64 0) rfl
       have r1 := cell_blk r3 1 (v := .int .i64 0) rfl
       have r2 := cell_blk r3 2 (v := .bool false) rfl
       have r4 := cell_blk r3 3 (v := .slice none 0 0) rfl
       have r5 := cell_blk r3 4 (v := .slice none 0 0) rfl
       have f0 := frozen_blk r3 0
       have f1 := frozen_blk r3 1
       have f2 := frozen_blk r3 2
       have f3 := frozen_blk r3 3
       have f4 := frozen_blk r3 4
       have HR := hide r3
       clear r3))
  exact bodyPost_ret (res_told rfl _ _ (w.heap.size + 1) _ _ _ _ _ rfl (put5_blk HR.out _ _ _ _ _)) rfl HE.out

set_option maxRecDepth 100000 in
set_option maxHeartbeats 4000000 in
theorem wanted_arm (S : Nat → Prop) (w : World) (p : Nat) (r : Rf) (q : Stp) (h : RIn S w p r) (_fw : FitW r q.fate) (hS : ∀ i, w.heap.size ≤ i → S i) (hq : StpOk w q) (_hm : More q) (hw : pickV q.what 12 = 7) :
    Calls Try.prog 11 #[.pointer (some ⟨p, 0, none⟩), q.val] w (WantAs S w p r q) := by
  have hpick := fun w => pick_any q.what 12 hq.what.1 hq.what.2 (by decide) (by decide) w
  rw [hw] at hpick
  have HPk := hide hpick
  have HW := hide hw
  have HB := hide (boxedR h hS hq)
  have HS := hide hS
  have HC := hide (refArm_any (Sx S w) (bx w q) p r q.n HB.out.d hq.n.1 hq.n.2)
  unfold bx at HC
  unfold Stp.val
  clear hpick hw h _fw hS hq _hm
  go_enter Try.func11, Try.ntmps11
  go_wp2_with (first
    | (go_at_call 7; refine (HPk.out _).mono ?_; rintro e w1 ⟨rfl, rfl⟩)
    | (go_at_call 40
       refine HC.out.mono ?_
       rintro e w3 ⟨rfl, hd, hk⟩
       have r3 := hk.blk HB.out.r (fun e => by have := e.2; omega)
       have HE : Hid (WantAs S w p r q (.returned (.agg #[.int .i64 (r.arm q.n).1, .int .i64 0, .bool false, .slice none 0 0, .slice none 0 0])) (put5 w3 (w.heap.size + 1) (.int .i64 (r.arm q.n).1) (.int .i64 0) (.bool false) (.slice none 0 0) (.slice none 0 0))) := want_end HB.out HS.out hk hd (stepR_7 HW.out) (numR_no (by rw [HW.out]; decide)) (isR_no (by rw [HW.out]; decide)) (ksR_no (by rw [HW.out]; decide)) (bsR_no (by rw [HW.out]; decide)) (World.ownsRow_nil _ _ _ _) (row_nil _) (fun g e => by cases e) (fun g e => by cases e)
       generalize (r.arm q.n).1 = cd at *
       clear hd hk
       have r0 := cell_blk r3 0 (v := .int .i64 0) rfl
       have r1 := cell_blk r3 1 (v := .int .i64 0) rfl
       have r2 := cell_blk r3 2 (v := .bool false) rfl
       have r4 := cell_blk r3 3 (v := .slice none 0 0) rfl
       have r5 := cell_blk r3 4 (v := .slice none 0 0) rfl
       have f0 := frozen_blk r3 0
       have f1 := frozen_blk r3 1
       have f2 := frozen_blk r3 2
       have f3 := frozen_blk r3 3
       have f4 := frozen_blk r3 4
       have HR := hide r3
       clear r3))
  exact bodyPost_ret (res_told rfl _ _ (w.heap.size + 1) _ _ _ _ _ rfl (put5_blk HR.out _ _ _ _ _)) rfl HE.out

set_option maxRecDepth 100000 in
set_option maxHeartbeats 4000000 in
theorem wanted_spoil (S : Nat → Prop) (w : World) (p : Nat) (r : Rf) (q : Stp) (h : RIn S w p r) (_fw : FitW r q.fate) (hS : ∀ i, w.heap.size ≤ i → S i) (hq : StpOk w q) (_hm : More q) (hw : pickV q.what 12 = 9) :
    Calls Try.prog 11 #[.pointer (some ⟨p, 0, none⟩), q.val] w (WantAs S w p r q) := by
  have hpick := fun w => pick_any q.what 12 hq.what.1 hq.what.2 (by decide) (by decide) w
  rw [hw] at hpick
  have HPk := hide hpick
  have HW := hide hw
  have HB := hide (boxedR h hS hq)
  have HS := hide hS
  have HC := hide (refSpoil_any (Sx S w) (bx w q) p r q.seg q.n q.mask HB.out.d _fw.s1 _fw.s2 HB.out.n hq.mask hq.n.1 hq.n.2 _fw.f.len _fw.f.len2 _fw.f.by_ _fw.by2)
  unfold bx at HC
  unfold Stp.val
  clear hpick hw h _fw hS hq _hm
  go_enter Try.func11, Try.ntmps11
  go_wp2_with (first
    | (go_at_call 7; refine (HPk.out _).mono ?_; rintro e w1 ⟨rfl, rfl⟩)
    | (go_at_call 41
       refine HC.out.mono ?_
       rintro e w3 ⟨rfl, hd, hk⟩
       have r3 := hk.blk HB.out.r (fun e => by have := e.2; omega)
       have HE : Hid (WantAs S w p r q (.returned (.agg #[.int .i64 (r.spoil q.seg q.n q.mask).1, .int .i64 0, .bool false, .slice none 0 0, .slice none 0 0])) (put5 w3 (w.heap.size + 1) (.int .i64 (r.spoil q.seg q.n q.mask).1) (.int .i64 0) (.bool false) (.slice none 0 0) (.slice none 0 0))) := want_end HB.out HS.out hk hd (stepR_9 HW.out) (numR_no (by rw [HW.out]; decide)) (isR_no (by rw [HW.out]; decide)) (ksR_no (by rw [HW.out]; decide)) (bsR_no (by rw [HW.out]; decide)) (World.ownsRow_nil _ _ _ _) (row_nil _) (fun g e => by cases e) (fun g e => by cases e)
       generalize (r.spoil q.seg q.n q.mask).1 = cd at *
       clear hd hk
       have r0 := cell_blk r3 0 (v := .int .i64 0) rfl
       have r1 := cell_blk r3 1 (v := .int .i64 0) rfl
       have r2 := cell_blk r3 2 (v := .bool false) rfl
       have r4 := cell_blk r3 3 (v := .slice none 0 0) rfl
       have r5 := cell_blk r3 4 (v := .slice none 0 0) rfl
       have f0 := frozen_blk r3 0
       have f1 := frozen_blk r3 1
       have f2 := frozen_blk r3 2
       have f3 := frozen_blk r3 3
       have f4 := frozen_blk r3 4
       have HR := hide r3
       clear r3))
  exact bodyPost_ret (res_told rfl _ _ (w.heap.size + 1) _ _ _ _ _ rfl (put5_blk HR.out _ _ _ _ _)) rfl HE.out

set_option maxRecDepth 100000 in
set_option maxHeartbeats 4000000 in
theorem wanted_read (S : Nat → Prop) (w : World) (p : Nat) (r : Rf) (q : Stp) (h : RIn S w p r) (_fw : FitW r q.fate) (hS : ∀ i, w.heap.size ≤ i → S i) (hq : StpOk w q) (_hm : More q) (hw : pickV q.what 12 = 5) :
    Calls Try.prog 11 #[.pointer (some ⟨p, 0, none⟩), q.val] w (WantAs S w p r q) := by
  have hpick := fun w => pick_any q.what 12 hq.what.1 hq.what.2 (by decide) (by decide) w
  rw [hw] at hpick
  have HPk := hide hpick
  have HW := hide hw
  have HB := hide (boxedR h hS hq)
  have HS := hide hS
  have HC := hide (refRead_any (Sx S w) (bx w q) p r q.seg HB.out.d hq.seg.1 hq.seg.2 _fw.f.len _fw.f.by_)
  unfold bx at HC
  unfold Stp.val
  clear hpick hw h _fw hS hq _hm
  go_enter Try.func11, Try.ntmps11
  go_wp2_with (first
    | (go_at_call 7; refine (HPk.out _).mono ?_; rintro e w1 ⟨rfl, rfl⟩)
    | (go_at_call 38
       refine HC.out.mono ?_
       rintro e w3 ⟨v, rfl, hrow, hnew, hk⟩
       have r3 := hk.blk HB.out.r fun f => f
       obtain ⟨va, vc, hv, _⟩ := ownsRow_sh hrow.1
       subst hv
       have hz := bx_size w q
       have HE : Hid (WantAs S w p r q (.returned (.agg #[.int .i64 (if r.off then 56 else if lookS r.th q.seg = none then 53 else 0), .int .i64 0, .bool false, .slice none 0 0, .slice va (if r.off then [] else (lookS r.th q.seg).getD []).length vc])) (put5 w3 (w.heap.size + 1) (.int .i64 (if r.off then 56 else if lookS r.th q.seg = none then 53 else 0)) (.int .i64 0) (.bool false) (.slice none 0 0) (.slice va (if r.off then [] else (lookS r.th q.seg).getD []).length vc))) := want_end HB.out HS.out (hk.mono fun _ f => f.elim) (HB.out.d.stay hk fun _ _ _ f => f) (stepR_5 HW.out) (numR_no (by rw [HW.out]; decide)) (isR_no (by rw [HW.out]; decide)) (ksR_no (by rw [HW.out]; decide)) (bsR_5 HW.out) (World.ownsRow_nil _ _ _ _) hrow (fun g e => by cases e) (fun g e => by have h := hnew g e; have h' : (bx w q).heap.size ≤ g := h; omega)
       generalize (if r.off then [] else (lookS r.th q.seg).getD []).length = ln at *
       generalize (if r.off then (56 : Int) else if lookS r.th q.seg = none then 53 else 0) = cd at *
       clear hk hrow hnew hz
       have r0 := cell_blk r3 0 (v := .int .i64 0) rfl
       have r1 := cell_blk r3 1 (v := .int .i64 0) rfl
       have r2 := cell_blk r3 2 (v := .bool false) rfl
       have r4 := cell_blk r3 3 (v := .slice none 0 0) rfl
       have r5 := cell_blk r3 4 (v := .slice none 0 0) rfl
       have f0 := frozen_blk r3 0
       have f1 := frozen_blk r3 1
       have f2 := frozen_blk r3 2
       have f3 := frozen_blk r3 3
       have f4 := frozen_blk r3 4
       have HR := hide r3
       clear r3))
  exact bodyPost_ret (res_told rfl _ _ (w.heap.size + 1) _ _ _ _ _ rfl (put5_blk HR.out _ _ _ _ _)) rfl HE.out

set_option maxRecDepth 100000 in
set_option maxHeartbeats 4000000 in
theorem wanted_room (S : Nat → Prop) (w : World) (p : Nat) (r : Rf) (q : Stp) (h : RIn S w p r) (_fw : FitW r q.fate) (hS : ∀ i, w.heap.size ≤ i → S i) (hq : StpOk w q) (_hm : More q) (hw : pickV q.what 12 = 6) :
    Calls Try.prog 11 #[.pointer (some ⟨p, 0, none⟩), q.val] w (WantAs S w p r q) := by
  have hpick := fun w => pick_any q.what 12 hq.what.1 hq.what.2 (by decide) (by decide) w
  rw [hw] at hpick
  have HPk := hide hpick
  have HW := hide hw
  have HB := hide (boxedR h hS hq)
  have HS := hide hS
  have HC := hide (refRoom_any (Sx S w) (bx w q) p r HB.out.d _fw.f.cap _fw.f.sum)
  unfold bx at HC
  unfold Stp.val
  clear hpick hw h _fw hS hq _hm
  go_enter Try.func11, Try.ntmps11
  go_wp2_with (first
    | (go_at_call 7; refine (HPk.out _).mono ?_; rintro e w1 ⟨rfl, rfl⟩)
    | (go_at_call 39
       refine HC.out.mono ?_
       rintro e w3 ⟨rfl, hw3⟩
       have hk : Keep (fun _ => False) (bx w q) w3 := by rw [hw3]; exact Keep.refl _ _
       have r3 := hk.blk HB.out.r fun f => f
       have HE : Hid (WantAs S w p r q (.returned (.agg #[.int .i64 (if r.off then 56 else 0), .int .i64 (if r.off then 0 else (r.room : Nat)), .bool false, .slice none 0 0, .slice none 0 0])) (put5 w3 (w.heap.size + 1) (.int .i64 (if r.off then 56 else 0)) (.int .i64 (if r.off then 0 else (r.room : Nat))) (.bool false) (.slice none 0 0) (.slice none 0 0))) := want_end HB.out HS.out (hk.mono fun _ f => f.elim) (HB.out.d.stay hk fun _ _ _ f => f) (stepR_6 HW.out) (numR_6 HW.out) (isR_no (by rw [HW.out]; decide)) (ksR_no (by rw [HW.out]; decide)) (bsR_no (by rw [HW.out]; decide)) (World.ownsRow_nil _ _ _ _) (row_nil _) (fun g e => by cases e) (fun g e => by cases e)
       generalize (if r.off then (0 : Int) else (r.room : Nat)) = rm at *
       generalize (if r.off then (56 : Int) else 0) = cd at *
       clear hk hw3
       have r0 := cell_blk r3 0 (v := .int .i64 0) rfl
       have r1 := cell_blk r3 1 (v := .int .i64 0) rfl
       have r2 := cell_blk r3 2 (v := .bool false) rfl
       have r4 := cell_blk r3 3 (v := .slice none 0 0) rfl
       have r5 := cell_blk r3 4 (v := .slice none 0 0) rfl
       have f0 := frozen_blk r3 0
       have f1 := frozen_blk r3 1
       have f2 := frozen_blk r3 2
       have f3 := frozen_blk r3 3
       have f4 := frozen_blk r3 4
       have HR := hide r3
       clear r3))
  exact bodyPost_ret (res_told rfl _ _ (w.heap.size + 1) _ _ _ _ _ rfl (put5_blk HR.out _ _ _ _ _)) rfl HE.out

set_option maxRecDepth 100000 in
set_option maxHeartbeats 4000000 in
theorem wanted_down (S : Nat → Prop) (w : World) (p : Nat) (r : Rf) (q : Stp) (h : RIn S w p r) (_fw : FitW r q.fate) (hS : ∀ i, w.heap.size ≤ i → S i) (hq : StpOk w q) (_hm : More q) (hw : pickV q.what 12 = 8) :
    Calls Try.prog 11 #[.pointer (some ⟨p, 0, none⟩), q.val] w (WantAs S w p r q) := by
  have hpick := fun w => pick_any q.what 12 hq.what.1 hq.what.2 (by decide) (by decide) w
  rw [hw] at hpick
  have HPk := hide hpick
  have HW := hide hw
  have HB := hide (boxedR h hS hq)
  have HS := hide hS
  have HC := hide (refDown_any (Sx S w) (bx w q) p r HB.out.d)
  unfold bx at HC
  unfold Stp.val
  clear hpick hw h _fw hS hq _hm
  go_enter Try.func11, Try.ntmps11
  go_wp2_with (first
    | (go_at_call 7; refine (HPk.out _).mono ?_; rintro e w1 ⟨rfl, rfl⟩)
    | (go_at_call 16
       refine HC.out.mono ?_
       rintro e w3 ⟨rfl, hw3⟩
       have hk : Keep (fun _ => False) (bx w q) w3 := by rw [hw3]; exact Keep.refl _ _
       have r3 := hk.blk HB.out.r fun f => f
       have HE : Hid (WantAs S w p r q (.returned (.agg #[.int .i64 0, .int .i64 0, .bool r.off, .slice none 0 0, .slice none 0 0])) (put5 w3 (w.heap.size + 1) (.int .i64 0) (.int .i64 0) (.bool r.off) (.slice none 0 0) (.slice none 0 0))) := want_end HB.out HS.out (hk.mono fun _ f => f.elim) (HB.out.d.stay hk fun _ _ _ f => f) (stepR_8 HW.out) (numR_no (by rw [HW.out]; decide)) (isR_8 HW.out) (ksR_no (by rw [HW.out]; decide)) (bsR_no (by rw [HW.out]; decide)) (World.ownsRow_nil _ _ _ _) (row_nil _) (fun g e => by cases e) (fun g e => by cases e)
       generalize r.off = dn at *
       clear hk hw3
       have r0 := cell_blk r3 0 (v := .int .i64 0) rfl
       have r1 := cell_blk r3 1 (v := .int .i64 0) rfl
       have r2 := cell_blk r3 2 (v := .bool false) rfl
       have r4 := cell_blk r3 3 (v := .slice none 0 0) rfl
       have r5 := cell_blk r3 4 (v := .slice none 0 0) rfl
       have f0 := frozen_blk r3 0
       have f1 := frozen_blk r3 1
       have f2 := frozen_blk r3 2
       have f3 := frozen_blk r3 3
       have f4 := frozen_blk r3 4
       have HR := hide r3
       clear r3))
  exact bodyPost_ret (res_told rfl _ _ (w.heap.size + 1) _ _ _ _ _ rfl (put5_blk HR.out _ _ _ _ _)) rfl HE.out

set_option maxRecDepth 100000 in
set_option maxHeartbeats 4000000 in
theorem wanted_list (S : Nat → Prop) (w : World) (p : Nat) (r : Rf) (q : Stp) (h : RIn S w p r) (_fw : FitW r q.fate) (hS : ∀ i, w.heap.size ≤ i → S i) (hq : StpOk w q) (_hm : More q) (hw : pickV q.what 12 = 10) :
    Calls Try.prog 11 #[.pointer (some ⟨p, 0, none⟩), q.val] w (WantAs S w p r q) := by
  have hpick := fun w => pick_any q.what 12 hq.what.1 hq.what.2 (by decide) (by decide) w
  rw [hw] at hpick
  have HPk := hide hpick
  have HW := hide hw
  have HB := hide (boxedR h hS hq)
  have HS := hide hS
  have HC := hide (refList_any (Sx S w) (bx w q) p r HB.out.d _fw.f.len)
  unfold bx at HC
  unfold Stp.val
  clear hpick hw h _fw hS hq _hm
  go_enter Try.func11, Try.ntmps11
  go_wp2_with (first
    | (go_at_call 7; refine (HPk.out _).mono ?_; rintro e w1 ⟨rfl, rfl⟩)
    | (go_at_call 42
       refine HC.out.mono ?_
       rintro e w3 ⟨v, rfl, hown, hk⟩
       have r3 := hk.blk HB.out.r fun f => f
       obtain ⟨va, vc, hv, _⟩ := ownsRow_sh hown
       subst hv
       have hz := bx_size w q
       have HE : Hid (WantAs S w p r q (.returned (.agg #[.int .i64 (if r.off then 56 else 0), .int .i64 0, .bool false, .slice va (if r.off then 0 else r.th.length) vc, .slice none 0 0])) (put5 w3 (w.heap.size + 1) (.int .i64 (if r.off then 56 else 0)) (.int .i64 0) (.bool false) (.slice va (if r.off then 0 else r.th.length) vc) (.slice none 0 0))) := want_end (ks := if r.off then [] else r.th.map Prod.fst) HB.out HS.out (hk.mono fun _ f => f.elim) (HB.out.d.stay hk fun _ _ _ f => f) (stepR_10 HW.out) (numR_no (by rw [HW.out]; decide)) (isR_no (by rw [HW.out]; decide)) (ksR_10 HW.out) (bsR_no (by rw [HW.out]; decide)) (list_row hown) (row_nil _) (fun g e => by have h := (hown.lt g e).1; have h' : (bx w q).heap.size ≤ g := h; omega) (fun g e => by cases e)
       generalize (if r.off then 0 else r.th.length) = ln at *
       generalize (if r.off then (56 : Int) else 0) = cd at *
       clear hk hown hz
       have r0 := cell_blk r3 0 (v := .int .i64 0) rfl
       have r1 := cell_blk r3 1 (v := .int .i64 0) rfl
       have r2 := cell_blk r3 2 (v := .bool false) rfl
       have r4 := cell_blk r3 3 (v := .slice none 0 0) rfl
       have r5 := cell_blk r3 4 (v := .slice none 0 0) rfl
       have f0 := frozen_blk r3 0
       have f1 := frozen_blk r3 1
       have f2 := frozen_blk r3 2
       have f3 := frozen_blk r3 3
       have f4 := frozen_blk r3 4
       have HR := hide r3
       clear r3))
  exact bodyPost_ret (res_told rfl _ _ (w.heap.size + 1) _ _ _ _ _ rfl (put5_blk HR.out _ _ _ _ _)) rfl HE.out

set_option maxRecDepth 100000 in
set_option maxHeartbeats 4000000 in
theorem wanted_crash (S : Nat → Prop) (w : World) (p : Nat) (r : Rf) (q : Stp) (h : RIn S w p r) (_fw : FitW r q.fate) (hS : ∀ i, w.heap.size ≤ i → S i) (hq : StpOk w q) (_hm : More q) (hw : pickV q.what 12 = 11) :
    Calls Try.prog 11 #[.pointer (some ⟨p, 0, none⟩), q.val] w (WantAs S w p r q) := by
  have hpick := fun w => pick_any q.what 12 hq.what.1 hq.what.2 (by decide) (by decide) w
  rw [hw] at hpick
  have HPk := hide hpick
  have HW := hide hw
  have HB := hide (boxedR h hS hq)
  have HS := hide hS
  have HC := hide (refCrash_any (Sx S w) (bx w q) p r q.fa q.fate.length q.fc q.fate HB.out.d HB.out.n HB.out.sq.rf _fw.f.len _fw.f.len2 _fw.f.by_ _fw.by2 _fw.cl)
  unfold bx at HC
  unfold Stp.val
  clear hpick hw h _fw hS hq _hm
  go_enter Try.func11, Try.ntmps11
  go_wp2_with (first
    | (go_at_call 7; refine (HPk.out _).mono ?_; rintro e w1 ⟨rfl, rfl⟩)
    | (go_at_call 20
       refine HC.out.mono ?_
       rintro e w3 ⟨rfl, hd, hk⟩
       have r3 := hk.blk HB.out.r (fun e => by have := e.2; omega)
       have HE : Hid (WantAs S w p r q (.returned (.agg #[.int .i64 0, .int .i64 0, .bool false, .slice none 0 0, .slice none 0 0])) (put5 w3 (w.heap.size + 1) (.int .i64 0) (.int .i64 0) (.bool false) (.slice none 0 0) (.slice none 0 0))) := want_end HB.out HS.out hk hd (stepR_11 HW.out) (numR_no (by rw [HW.out]; decide)) (isR_no (by rw [HW.out]; decide)) (ksR_no (by rw [HW.out]; decide)) (bsR_no (by rw [HW.out]; decide)) (World.ownsRow_nil _ _ _ _) (row_nil _) (fun g e => by cases e) (fun g e => by cases e)
       clear hd hk
       have r0 := cell_blk r3 0 (v := .int .i64 0) rfl
       have r1 := cell_blk r3 1 (v := .int .i64 0) rfl
       have r2 := cell_blk r3 2 (v := .bool false) rfl
       have r4 := cell_blk r3 3 (v := .slice none 0 0) rfl
       have r5 := cell_blk r3 4 (v := .slice none 0 0) rfl
       have f0 := frozen_blk r3 0
       have f1 := frozen_blk r3 1
       have f2 := frozen_blk r3 2
       have f3 := frozen_blk r3 3
       have f4 := frozen_blk r3 4
       have HR := hide r3
       clear r3))
  exact bodyPost_ret (res_told rfl _ _ (w.heap.size + 1) _ _ _ _ _ rfl (put5_blk HR.out _ _ _ _ _)) rfl HE.out

end DP
end Go.Proofs.Ytilpidioengnbaa
