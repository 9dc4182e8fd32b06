import Derived.Test.YtfoahfgehmghcaaGreatDoorUSpT
import Derived.Test.YtfoahfgehmghcaaGreatDoorULa2
import Derived.Maps.AppendAt
import Derived.Test.YtfoahfgehmghcaaGreatDoorULi2
import Derived.Test.YtfoahfgehmghcaaGreatDoorGRfC
/- The document's Parse: its draft in memory. -/
namespace Go.Proofs.YtfoahfgehmghcaaGreatDoor
namespace U
namespace Sp
open Go.RowKit

/-- rows in blocks that lie apart -/
def Ap (v u : Value) : Prop := ∀ g, v.ownBlock = some g → u.ownBlock ≠ some g
theorem Ap.symm {v u : Value} (h : Ap v u) : Ap u v := fun g h1 h2 => h g h2 h1
/-- a row of the document's draft -/
structure Rw where
  t : TypeId
  s : Nat
  v : Value
  n : Nat
  xs : List Value
def TyOk (t : TypeId) : Prop := t = 32 ∨ t = 3 ∨ t = 58
/-- rows of one's own, each in a block of its own -/
structure Rws (B : Nat) (w : World) (R : List Rw) : Prop where
  own : ∀ (i : Nat) r, R[i]? = some r → w.ownsRow B r.t r.s r.v r.n r.xs
  ap : ∀ (i j : Nat) r q, R[i]? = some r → R[j]? = some q → i ≠ j → Ap r.v q.v
  ty : ∀ r ∈ R, TyOk r.t
theorem Rws.keep {B : Nat} {w w' : World} {R : List Rw} {S : Nat → Prop} (h : Rws B w R) (k : Keep S w w') (hS : ∀ r ∈ R, ∀ g, r.v.ownBlock = some g → ¬ S g) : Rws B w' R :=
  ⟨fun i r hr => own_keep (h.own i r hr) k (hS r (List.mem_of_getElem? hr)), h.ap, h.ty⟩
theorem Rws.below {B : Nat} {w w' : World} {R : List Rw} (h : Rws B w R) (k : Below w.heap.size w w') : Rws B w' R :=
  h.keep (Keep.ofBelow (S := fun _ => False) k (Nat.le_refl _)) (fun _ _ _ _ f => f)
theorem Rws.far {B : Nat} {w : World} {R : List Rw} (h : Rws B w R) {D : Nat} {cs : Array Value} {t : TypeId} (hD : w.heap[D]? = some (.cells cs t (0, 0))) (ht : ¬ TyOk t) : ∀ r ∈ R, ∀ g, r.v.ownBlock = some g → g ≠ D := fun r hr g hg e => by
  subst e
  obtain ⟨i, hi⟩ := List.getElem?_of_mem hr
  exact own_far (h.own i r hi) hD (fun e => ht (e ▸ h.ty r hr)) hg
theorem Rws.put {B : Nat} {w : World} {R : List Rw} (h : Rws B w R) {D : Nat} {cs : Array Value} {t : TypeId} (hD : w.heap[D]? = some (.cells cs t (0, 0))) (ht : ¬ TyOk t) (j : Nat) (u : Value) : Rws B (w.setCell ⟨D, j, none⟩ u) R :=
  h.keep (keep_cell w D j u) fun r hr g hg e => h.far hD ht r hr g hg e
/-- a row that was turned within its own block, or was laid anew -/
theorem Rws.app {B : Nat} {w w4 : World} {R : List Rw} (h : Rws B w R) {i : Nat} {r : Rw} (hr : R[i]? = some r) (k : Keep (fun k => r.v.ownBlock = some k) w w4) {v' : Value} {n' : Nat} {xs' : List Value} (ho : w4.ownsRow B r.t r.s v' n' xs') (hv : v'.ownBlock = r.v.ownBlock ∨ ∃ g, v'.ownBlock = some g ∧ w.heap.size ≤ g) : Rws B w4 (R.set i { r with v := v', n := n', xs := xs' }) := by
  have hil : i < R.length := (List.getElem?_eq_some_iff.1 hr).1
  have at_ : ∀ j q, (R.set i { r with v := v', n := n', xs := xs' })[j]? = some q → (j = i ∧ q = { r with v := v', n := n', xs := xs' }) ∨ (j ≠ i ∧ R[j]? = some q) := fun j q hq => by
    rw [List.getElem?_set] at hq
    by_cases e : i = j
    · subst e
      rw [if_pos rfl, if_pos hil] at hq
      exact .inl ⟨rfl, (Option.some.inj hq).symm⟩
    · rw [if_neg e] at hq
      exact .inr ⟨fun k => e k.symm, hq⟩
  have apn : ∀ j q, j ≠ i → R[j]? = some q → Ap v' q.v := fun j q hj hq g hg hg' => by
    rcases hv with e | ⟨g2, e, hz⟩
    · rw [e] at hg
      exact h.ap i j r q hr hq (fun k => hj k.symm) g hg hg'
    · rw [e] at hg
      cases hg
      have := (own_blk (h.own j q hq) hg').2.1
      omega
  refine ⟨fun j q hq => ?_, fun j l q q' hq hq' hne => ?_, fun q hq => ?_⟩
  · rcases at_ j q hq with ⟨rfl, rfl⟩ | ⟨hj, hq⟩
    · exact ho
    · exact own_keep (h.own j q hq) k fun g hg hg' => h.ap j i q r hq hr hj g hg hg'
  · rcases at_ j q hq with ⟨rfl, rfl⟩ | ⟨hj, hq⟩
    · rcases at_ l q' hq' with ⟨rfl, rfl⟩ | ⟨hl, hq'⟩
      · exact absurd rfl hne
      · exact apn l q' hl hq'
    · rcases at_ l q' hq' with ⟨rfl, rfl⟩ | ⟨hl, hq'⟩
      · exact (apn j q hj (by assumption)).symm
      · exact h.ap j l q q' hq hq' hne
  · obtain ⟨j, hj⟩ := List.getElem?_of_mem hq
    rcases at_ j q hj with ⟨rfl, rfl⟩ | ⟨_, hj⟩
    · exact h.ty r (List.mem_of_getElem? hr)
    · exact h.ty q (List.mem_of_getElem? hj)
/-- a cell of a row -/
theorem Rws.set {B : Nat} {w : World} {R : List Rw} (h : Rws B w R) {i : Nat} {r : Rw} (hr : R[i]? = some r) {g cap : Nat} (hv : r.v = .slice (some ⟨g, 0, none⟩) r.n cap) (j : Nat) (u : Value) : Rws B (w.setCell ⟨g, j, none⟩ u) (R.set i { r with xs := r.xs.set j u }) := by
  have ho := h.own i r hr
  rw [hv] at ho
  have h1 := own_set ho j u
  have := h.app hr (w4 := w.setCell ⟨g, j, none⟩ u) (v' := r.v) (n' := r.n) (xs' := r.xs.set j u) ((keep_cell w g j u).mono fun k e => by subst e; rw [hv]; rfl) (by rw [hv]; exact h1) (.inl rfl)
  exact this
/-- blocks that the document's draft is made of -/
def Tq (w : World) (k : Nat) : Prop := ∃ cs t, w.heap[k]? = some (.cells cs t (0, 0)) ∧ (t = 63 ∨ TyOk t)
def Fq (B : Nat) (w w' : World) : Prop := Keep (fun k => B ≤ k ∧ Tq w k) w w'
theorem Fq.refl (B : Nat) (w : World) : Fq B w w := Keep.refl _ w
theorem Fq.trans {B : Nat} {a b c : World} (h : Fq B a b) (k : Fq B b c) : Fq B a c :=
  ⟨k.os.trans h.os, k.tape.trans h.tape, k.output.trans h.output, Nat.le_trans h.size k.size, fun i hi hn => by
    have e1 := h.block i hi hn
    refine (k.block i (Nat.lt_of_lt_of_le hi h.size) fun ht => hn ⟨ht.1, ?_⟩).trans e1
    obtain ⟨cs, t, hc, hs⟩ := ht.2
    exact ⟨cs, t, e1 ▸ hc, hs⟩⟩
theorem Fq.ofBelow {B : Nat} {a b : World} (h : Below a.heap.size a b) : Fq B a b := Keep.ofBelow h (Nat.le_refl _)
theorem Fq.ofKeep {B : Nat} {a b : World} {S : Nat → Prop} (h : Keep S a b) (hS : ∀ k, S k → B ≤ k ∧ Tq a k) : Fq B a b := h.mono hS
theorem Fq.below {B : Nat} {a b : World} (h : Fq B a b) (hB : B ≤ a.heap.size) : Below B a b := Keep.below h hB fun _ h => h.1
theorem Fq.noStr {w : World} {g : Nat} {B : Nat} (h : B ≤ g ∧ Tq w g) : ¬ StrB w g := by
  obtain ⟨_, cs, t, hc, ht⟩ := h
  refine not_strB hc fun e => ?_
  subst e
  revert ht
  unfold TyOk
  decide
theorem Fq.rdS {B : Nat} {w w' : World} (h : Fq B w w') {a : Option Addr} {ws : List (List UInt8)} (hr : RdS w a ws) : RdS w' a ws := hr.keep h fun _ hg => Fq.noStr hg
theorem Fq.blk {B : Nat} {w w' : World} {k : Nat} (h : Fq B w w') {cs : Array Value} {t : TypeId} (hc : w.heap[k]? = some (.cells cs t (0, 0))) (ht : t ≠ 63) (ht2 : ¬ TyOk t) : w'.heap[k]? = some (.cells cs t (0, 0)) := by
  refine Keep.blk h hc ?_
  rintro ⟨_, cs', t', h', ht'⟩
  rw [hc] at h'
  injection h' with h'
  injection h' with _ h'
  subst h'
  rcases ht' with e | e
  · exact ht e
  · exact ht2 e
theorem row_tq {B : Nat} {w : World} {R : List Rw} (h : Rws B w R) {i : Nat} {r : Rw} (hr : R[i]? = some r) {g : Nat} (hg : r.v.ownBlock = some g) : B ≤ g ∧ Tq w g := by
  obtain ⟨h1, _, cur, h3⟩ := own_blk (h.own i r hr) hg
  exact ⟨h1, cur, r.t, h3, .inr (h.ty r (List.mem_of_getElem? hr))⟩
theorem inf_node : Inf 32 22 10 := by
  obtain ⟨i, h1, h2, h3, h4⟩ := info_parts info_node
  exact ⟨Tryz.underlying22, i, _, _, h1, h2, h3, h4, rfl, by decide, by decide⟩
/-- one thing more behind a row: W is the world in which it is appended -/
theorem Rws.more {B : Nat} {W : World} {R : List Rw} (h : Rws B W R) (hB : B ≤ W.heap.size) {i : Nat} {r : Rw} (hr : R[i]? = some r) {tt : TypeId} (hI : Inf r.t tt r.s) (hn : r.n < 1000000) (news : List Value) (hl : news.length = r.s) (h1 : ∀ u ∈ news, u.oneCell' = true) {T : Nat} (hT : ∀ (j : Nat) u, news[j]? = some u → W.cell? ⟨T, j, none⟩ = some u) (c : Nat) (ty : TypeId) :
    ∃ v' w4, (Builtin.append_ #[tt, tt] ty #[r.v, .slice (some ⟨T, 0, none⟩) 1 c]).run Tryz.prog W = .ok v' w4 ∧ Rws B w4 (R.set i { r with v := v', n := r.n + 1, xs := r.xs ++ news }) ∧ Keep (fun k => r.v.ownBlock = some k) W w4 := by
  obtain ⟨hu, inf, z, b, i1, i2, i3, i4, i5, i6, i7⟩ := hI
  have hbb : (r.n + 1) * b ≤ 1000000 * 120 := Nat.mul_le_mul (by omega) i7
  obtain ⟨v', w4, a1, a2, a3, _, a5⟩ := run_append_own_at (P := Tryz.prog) W B tt ty r.t inf z r.s b hu i1 i2 i3 i4 i5 i6 r.v r.n r.xs (h.own i r hr) ⟨T, 0, none⟩ 1 c news (by rw [hl, Nat.one_mul]) (fun j u hu => by rw [Addr.add_mid, Nat.zero_add]; exact hT j u hu) h1 (by unfold maxLen; omega) (by omega) hB
  have k4 : Keep (fun k => r.v.ownBlock = some k) W w4 := Keep.grown (S := fun k => r.v.ownBlock = some k) a3 fun _ e => e
  refine ⟨v', w4, a1, h.app hr k4 a2 ?_, k4⟩
  rcases a5 with e | e
  · exact .inl e
  · exact .inr ⟨_, e, Nat.le_refl _⟩
/-- a draft's block and its rows -/
structure DfG (B : Nat) (w : World) (D : Nat) (cs : Array Value) (R : List Rw) : Prop where
  lo : B ≤ D
  blk : w.heap[D]? = some (.cells cs 63 (0, 0))
  rws : Rws B w R
theorem draft_ty : ¬ TyOk 63 := by unfold TyOk; decide
theorem DfG.below {B : Nat} {w w' : World} {D : Nat} {cs : Array Value} {R : List Rw} (h : DfG B w D cs R) (k : Below w.heap.size w w') : DfG B w' D cs R :=
  ⟨h.lo, (k.block D (Array.getElem?_eq_some_iff.1 h.blk).1).trans h.blk, h.rws.below k⟩
theorem DfG.tq {B : Nat} {w : World} {D : Nat} {cs : Array Value} {R : List Rw} (h : DfG B w D cs R) : B ≤ D ∧ Tq w D := ⟨h.lo, _, _, h.blk, .inl rfl⟩
/-- a field that is no row -/
theorem DfG.put {B : Nat} {w : World} {D : Nat} {cs : Array Value} {R : List Rw} (h : DfG B w D cs R) (j : Nat) (u : Value) : DfG B (w.setCell ⟨D, j, none⟩ u) D (cs.setIfInBounds j u) R ∧ Fq B w (w.setCell ⟨D, j, none⟩ u) :=
  ⟨⟨h.lo, set_blk h.blk j u, h.rws.put h.blk draft_ty j u⟩, Fq.ofKeep (keep_cell w D j u) fun i e => by subst e; exact h.tq⟩
/-- a row that grows, and its field: W is the world in which it is appended -/
theorem DfG.more {B : Nat} {W : World} {D : Nat} {cs : Array Value} {R : List Rw} (h : DfG B W D cs R) {i : Nat} {r : Rw} (hr : R[i]? = some r) {tt : TypeId} (hI : Inf r.t tt r.s) (hn : r.n < 1000000) (news : List Value) (hl : news.length = r.s) (h1 : ∀ u ∈ news, u.oneCell' = true) {T : Nat} (hT : ∀ (j : Nat) u, news[j]? = some u → W.cell? ⟨T, j, none⟩ = some u) (c : Nat) (ty : TypeId) (j : Nat) :
    ∃ v' w4, (Builtin.append_ #[tt, tt] ty #[r.v, .slice (some ⟨T, 0, none⟩) 1 c]).run Tryz.prog W = .ok v' w4 ∧ w4.heap[D]? = some (.cells cs 63 (0, 0)) ∧ DfG B (w4.setCell ⟨D, j, none⟩ v') D (cs.setIfInBounds j v') (R.set i { r with v := v', n := r.n + 1, xs := r.xs ++ news }) ∧ Fq B W (w4.setCell ⟨D, j, none⟩ v') := by
  have hB : B ≤ W.heap.size := by have := (Array.getElem?_eq_some_iff.1 h.blk).1; have := h.lo; omega
  obtain ⟨v', w4, a1, a2, a3⟩ := h.rws.more hB hr hI hn news hl h1 hT c ty
  have b4 : w4.heap[D]? = some (.cells cs 63 (0, 0)) := a3.blk h.blk fun e => h.rws.far h.blk draft_ty r (List.mem_of_getElem? hr) D e rfl
  have G4 : DfG B w4 D cs (R.set i { r with v := v', n := r.n + 1, xs := r.xs ++ news }) := ⟨h.lo, b4, a2⟩
  exact ⟨v', w4, a1, b4, (G4.put j v').1, (Fq.ofKeep a3 fun k e => row_tq h.rws hr e).trans (G4.put j v').2⟩
/-- rows of words -/
def svs (L : List (Option Addr × Nat × Nat)) : List Value := L.map fun s => .slice s.1 s.2.1 s.2.2
def Sx (w : World) (L : List (Option Addr × Nat × Nat)) (N : List (List (List UInt8))) : Prop := L.length = N.length ∧ ∀ (i : Nat) s ns, L[i]? = some s → N[i]? = some ns → s.2.1 = ns.length ∧ RdS w s.1 ns
theorem Sx.fq {B : Nat} {w w' : World} {L : List (Option Addr × Nat × Nat)} {N : List (List (List UInt8))} (h : Sx w L N) (k : Fq B w w') : Sx w' L N := ⟨h.1, fun i s ns hs hn => ⟨(h.2 i s ns hs hn).1, k.rdS (h.2 i s ns hs hn).2⟩⟩
theorem Sx.snoc {w : World} {L : List (Option Addr × Nat × Nat)} {N : List (List (List UInt8))} (h : Sx w L N) : Sx w (L ++ [(none, 0, 0)]) (N ++ [[]]) := by
  refine ⟨by simp [h.1], fun i s ns hs hn => ?_⟩
  by_cases hi : i < L.length
  · rw [List.getElem?_append_left hi] at hs
    rw [List.getElem?_append_left (by rw [← h.1]; exact hi)] at hn
    exact h.2 i s ns hs hn
  · rw [List.getElem?_append_right (by omega)] at hs
    rw [List.getElem?_append_right (by rw [← h.1]; omega), ← h.1] at hn
    obtain ⟨k, hk⟩ : ∃ k, i - L.length = k := ⟨_, rfl⟩
    rw [hk] at hs hn
    cases k with
    | zero => simp at hs hn; subst hs; subst hn; exact ⟨rfl, .inl rfl⟩
    | succ k => simp at hs
theorem Sx.set {w : World} {L : List (Option Addr × Nat × Nat)} {N : List (List (List UInt8))} (h : Sx w L N) (k : Nat) (s : Option Addr × Nat × Nat) (ns : List (List UInt8)) (h1 : s.2.1 = ns.length) (h2 : RdS w s.1 ns) : Sx w (L.set k s) (N.set k ns) := by
  refine ⟨by simp [h.1], fun i s' ns' hs hn => ?_⟩
  rw [List.getElem?_set] at hs hn
  by_cases e : k = i
  · subst e
    by_cases hk : k < L.length
    · rw [if_pos rfl, if_pos hk] at hs
      rw [if_pos rfl, if_pos (by rw [← h.1]; exact hk)] at hn
      cases hs
      cases hn
      exact ⟨h1, h2⟩
    · rw [if_pos rfl, if_neg hk] at hs
      cases hs
  · rw [if_neg e] at hs hn
    exact h.2 i s' ns' hs hn
/-- the draft's rows -/
def rw6 (vn vl vN vA vL vP : Value) (qs : List Gr.Nd) (zl : List Nat) (L M : List (Option Addr × Nat × Nat)) (zL zP : List Nat) : List Rw :=
  [⟨32, 10, vn, qs.length, flat qs⟩, ⟨3, 1, vl, zl.length, ivs zl⟩, ⟨58, 1, vN, L.length, svs L⟩, ⟨58, 1, vA, M.length, svs M⟩, ⟨3, 1, vL, zL.length, ivs zL⟩, ⟨3, 1, vP, zP.length, ivs zP⟩]
def cs9 (nm : List UInt8) (dl : Int) (pl : Nat) (vn vl vN vA vL vP : Value) : Array Value := #[.string (ba nm), .int .i64 dl, vn, .int .i64 (pl : Int), vl, vN, vA, vL, vP]
/-- the document's draft in memory -/
def DfX (B : Nat) (w : World) (D : Nat) (d : Dr) (vn vl vN vA vL vP : Value) (L M : List (Option Addr × Nat × Nat)) : Prop :=
  DfG B w D (cs9 d.nm d.dl d.place vn vl vN vA vL vP) (rw6 vn vl vN vA vL vP (d.nds.map fun x => (no x).q) d.places L M (rowL d.ms d.nds.length 0) (rowL d.ms d.nds.length 1)) ∧ Sx w L (rowN d.ms d.nds.length 0) ∧ Sx w M (rowN d.ms d.nds.length 1)
def DfAt (B : Nat) (w : World) (D : Nat) (d : Dr) : Prop := ∃ vn vl vN vA vL vP L M, DfX B w D d vn vl vN vA vL vP L M
theorem DfX.below {B : Nat} {w w' : World} {D : Nat} {d : Dr} {vn vl vN vA vL vP : Value} {L M : List (Option Addr × Nat × Nat)} (h : DfX B w D d vn vl vN vA vL vP L M) (k : Below w.heap.size w w') : DfX B w' D d vn vl vN vA vL vP L M :=
  ⟨h.1.below k, h.2.1.fq (B := B) (Fq.ofBelow k), h.2.2.fq (B := B) (Fq.ofBelow k)⟩
theorem DfAt.below {B : Nat} {w w' : World} {D : Nat} {d : Dr} (h : DfAt B w D d) (k : Below w.heap.size w w') : DfAt B w' D d := by
  obtain ⟨vn, vl, vN, vA, vL, vP, L, M, h⟩ := h
  exact ⟨vn, vl, vN, vA, vL, vP, L, M, h.below k⟩
theorem nil_own (w : World) (B : Nat) (t : TypeId) (s : Nat) : w.ownsRow B t s (.slice none 0 0) 0 [] := World.ownsRow_nil _ _ _ _
/-- an empty draft -/
theorem DfAt.new (w : World) (B : Nat) (hB : B ≤ w.heap.size) : DfAt B (w.alloc (.cells #[.string ⟨#[]⟩, .int .i64 0, .slice none 0 0, .int .i64 0, .slice none 0 0, .slice none 0 0, .slice none 0 0, .slice none 0 0, .slice none 0 0] 63)) w.heap.size Dr.new := by
  refine ⟨.slice none 0 0, .slice none 0 0, .slice none 0 0, .slice none 0 0, .slice none 0 0, .slice none 0 0, [], [], ⟨hB, heap_alloc_new _ _, ⟨fun i r hr => ?_, fun i j r q hr hq _ g hg => ?_, fun r hr => ?_⟩⟩, ⟨rfl, fun i s ns hs => by simp at hs⟩, ⟨rfl, fun i s ns hs => by simp at hs⟩⟩
  · match i, hr with
    | 0, hr => cases hr; exact nil_own _ _ _ _
    | 1, hr => cases hr; exact nil_own _ _ _ _
    | 2, hr => cases hr; exact nil_own _ _ _ _
    | 3, hr => cases hr; exact nil_own _ _ _ _
    | 4, hr => cases hr; exact nil_own _ _ _ _
    | 5, hr => cases hr; exact nil_own _ _ _ _
    | i + 6, hr => simp [rw6] at hr
  · exfalso
    have : ∀ r ∈ rw6 (.slice none 0 0) (.slice none 0 0) (.slice none 0 0) (.slice none 0 0) (.slice none 0 0) (.slice none 0 0) (Dr.new.nds.map fun x => (no x).q) Dr.new.places [] [] (rowL Dr.new.ms Dr.new.nds.length 0) (rowL Dr.new.ms Dr.new.nds.length 1), r.v = .slice none 0 0 := by
      intro r hr
      simp [rw6] at hr
      rcases hr with rfl | rfl | rfl | rfl | rfl | rfl <;> rfl
    rw [this r (List.mem_of_getElem? hr)] at hg
    cases hg
  · simp [rw6] at hr
    unfold TyOk
    rcases hr with rfl | rfl | rfl | rfl | rfl | rfl <;> decide
end Sp
end U
end Go.Proofs.YtfoahfgehmghcaaGreatDoor

/- The document's Parse: numbered. -/
namespace Go.Proofs.YtfoahfgehmghcaaGreatDoor
namespace U
namespace Sp
open Go.RowKit

/-- a row of nodes whose names are those of nds, at a draft's third cell -/
structure NmAt (B : Nat) (w : World) (D : Nat) (vn : Value) (qs : List Gr.Nd) (nds : List Pn) : Prop where
  cell : w.cell? ⟨D, 2, none⟩ = some vn
  own : w.ownsRow B 32 10 vn qs.length (flat qs)
  nms : qs.map (·.nm) = nds.map fun x => ba x.nm
theorem NmAt.len {B : Nat} {w : World} {D : Nat} {vn : Value} {qs : List Gr.Nd} {nds : List Pn} (h : NmAt B w D vn qs nds) : qs.length = nds.length := by
  have := congrArg List.length h.nms
  simpa using this
/-- a node's name in such a row -/
theorem own_name {B : Nat} {w : World} {a : Option Addr} {m c : Nat} {qs : List Gr.Nd} (h : w.ownsRow B 32 10 (.slice a m c) m (flat qs)) {i : Nat} {q : Gr.Nd} (hq : qs[i]? = some q) : ∃ g, a = some ⟨g, 0, none⟩ ∧ ∀ (j : Nat) v, q.row[j]? = some v → w.cell? ⟨g, i * 10 + j, none⟩ = some v ∧ w.frozen? ⟨g, i * 10 + j, none⟩ = false := by
  rcases h.2 with ⟨e1, e2⟩ | ⟨g, cap, cur, e1, e2, e3, e4, e5, e6, e7⟩
  · have h1 := h.1
    have h0 := flat_length qs
    have : i < qs.length := (List.getElem?_eq_some_iff.1 hq).1
    omega
  · cases e1
    refine ⟨g, rfl, fun j v hv => ⟨?_, frozen_blk e3 _⟩⟩
    have h2 := flat_get qs i j q v hq hv
    rw [← e7, List.getElem?_take] at h2
    split at h2
    · exact cell_blk e3 _ (by simpa using h2)
    · cases h2
def idxI (o : Option Nat) : Int := match o with
  | some i => (i : Int)
  | none => -1
theorem idx_from (nds : List Pn) (n : List UInt8) (i : Nat) (h : ∀ j x, j < i → nds[j]? = some x → x.nm ≠ n) (x : Pn) (hx : nds[i]? = some x) (he : x.nm = n) : idx nds n = some i := by
  unfold idx
  rw [List.findIdx?_eq_some_iff_getElem]
  obtain ⟨hl, e⟩ := List.getElem?_eq_some_iff.1 hx
  refine ⟨hl, by rw [e]; simpa using he, fun j hj => ?_⟩
  have := h j nds[j] hj (List.getElem?_eq_getElem (by omega))
  simpa using this
theorem idx_none (nds : List Pn) (n : List UInt8) (h : ∀ j x, j < nds.length → nds[j]? = some x → x.nm ≠ n) : idx nds n = none := by
  unfold idx
  rw [List.findIdx?_eq_none_iff]
  intro x hx
  obtain ⟨j, hj⟩ := List.getElem?_of_mem hx
  have := h j x (List.getElem?_eq_some_iff.1 hj).1 hj
  simpa using this
set_option maxHeartbeats 1000000 in
theorem numbered_any (B D : Nat) (vn : Value) (qs : List Gr.Nd) (nds : List Pn) (nm : List UInt8) (w : World) (h : NmAt B w D vn qs nds) (hl : nds.length ≤ 1000000) :
    Calls Tryz.prog 48 #[.pointer (some ⟨D, 0, none⟩), .string (ba nm)] w fun e w' => e = .returned (.int .i64 (idxI (idx nds nm))) ∧ w' = w := by
  have hlen := h.len
  obtain ⟨a, c, rfl⟩ := own_shape h.own
  have c2 := h.cell
  have HN := hide h.nms
  have HO := hide h.own
  have HI := hide (fun i hj x hx he => idx_from nds nm i hj x hx he)
  have HJ := hide (fun hj => idx_none nds nm hj)
  generalize idx nds nm = R at *
  generalize hm : qs.length = m at *
  have HM := hide hm
  have HL := hide hlen
  clear h hm hlen
  have hm6 : m ≤ 1000000 := by have := HL.out; omega
  go_enter Tryz.func48, Tryz.ntmps48
  go_wp2_with fail
  go_loopw [5] (fun iv wr => ∃ i : Nat, iv = .int .i64 (i : Nat) ∧ i ≤ m ∧ wr = w ∧ Hid (∀ j x, j < i → nds[j]? = some x → x.nm ≠ nm)) (fun iv _ => m - (intOf iv).toNat)
  case atStart => exact ⟨0, rfl, Nat.zero_le _, rfl, fun j x hj => absurd hj (Nat.not_lt_zero _)⟩
  case round =>
    obtain ⟨i, rfl, hi, rfl, HD⟩ := hrel
    by_cases hlt : i < m
    · obtain ⟨q, hq⟩ : ∃ q, qs[i]? = some q := ⟨_, List.getElem?_eq_getElem (by rw [HM.out]; exact hlt)⟩
      obtain ⟨x, hx⟩ : ∃ x, nds[i]? = some x := ⟨_, List.getElem?_eq_getElem (by rw [← HL.out]; exact hlt)⟩
      have hqx : q.nm = ba x.nm := by
        have h1 : (qs.map (·.nm))[i]? = some q.nm := by rw [List.getElem?_map, hq]; rfl
        rw [HN.out, List.getElem?_map, hx] at h1
        exact (Option.some.inj h1).symm
      obtain ⟨g, ha, hc⟩ := own_name HO.out hq
      subst ha
      have c0 := (hc 0 (.string q.nm) rfl).1
      rw [Nat.add_zero, hqx] at c0
      have hs := string_eq x.nm nm
      have ii : (i : Int) < m := by omega
      clear hc hqx hq
      by_cases he : x.nm = nm
      · rw [decide_eq_true he] at hs
        obtain rfl := HI.out i HD.out x hx he
        clear he HI HJ hx
        go_wp2_with fail
        go_ret
        exact ⟨rfl, rfl⟩
      · rw [decide_eq_false he] at hs
        have HD2 : Hid (∀ j x, j < i + 1 → nds[j]? = some x → x.nm ≠ nm) := fun j y hj hy => by
          rcases Nat.lt_or_ge j i with h | h
          · exact HD.out j y h hy
          · obtain rfl : j = i := by omega
            rw [hx] at hy
            cases hy
            exact he
        clear he HI HJ hx HD
        go_wp2_with fail
        go_roundw
        · exact ⟨i + 1, rfl, by omega, trivial, HD2.out⟩
        · show m - ((i : Int) + 1).toNat < m - (i : Int).toNat
          omega
    · obtain rfl := HJ.out (fun j x hj hx => HD.out j x (by have := HL.out; omega) hx)
      have ii : ¬ (i : Int) < m := by omega
      clear HI HJ HD
      go_wp2_with fail
      go_ret
      exact ⟨rfl, rfl⟩
end Sp
end U
end Go.Proofs.YtfoahfgehmghcaaGreatDoor

/- The document's Parse: edges. -/
namespace Go.Proofs.YtfoahfgehmghcaaGreatDoor
namespace U
namespace Sp
open Go.RowKit

theorem NmAt.below {B : Nat} {w w' : World} {D : Nat} {vn : Value} {qs : List Gr.Nd} {nds : List Pn} (h : NmAt B w D vn qs nds) (k : Below w.heap.size w w') : NmAt B w' D vn qs nds :=
  ⟨(k.cell (p := ⟨D, 2, none⟩) (World.block_lt_of_cell? _ _ h.cell)).trans h.cell, own_below h.own k, h.nms⟩
theorem flags_snoc (nds : List Pn) (ns : List (List UInt8)) (x : List UInt8) (j : Nat) : flagsT nds (ns ++ [x]) j = (flagsT nds ns j || idx nds x == some j) := by
  unfold flagsT
  rw [List.any_append]
  simp
/-- the numbers so far -/
def upTo (f : Nat → Bool) (k : Nat) : List Nat := (List.range k).filter f
theorem upTo_yes {f : Nat → Bool} {k : Nat} (h : f k = true) : upTo f (k + 1) = upTo f k ++ [k] := by unfold upTo; rw [List.range_succ, List.filter_append]; simp [h]
theorem upTo_no {f : Nat → Bool} {k : Nat} (h : f k = false) : upTo f (k + 1) = upTo f k := by unfold upTo; rw [List.range_succ, List.filter_append]; simp [h]
theorem upTo_len (f : Nat → Bool) (k : Nat) : (upTo f k).length ≤ k := by
  have := List.length_filter_le f (List.range k)
  simpa [upTo] using this
/-- what edges leaves -/
def EdEnd (o : Option (List Int)) (w : World) (e : Ending) (w' : World) : Prop :=
  ∃ s : Option Addr × Nat × Nat, e = .returned (.tuple #[.slice s.1 s.2.1 s.2.2, .bool o.isSome]) ∧ LsI w' s (o.getD []) ∧ Below w.heap.size w w'
theorem ls_of {w : World} {B : Nat} {a : Option Addr} {n c : Nat} {l : List Nat} (h : w.ownsRow B 3 1 (.slice a n c) n (ivs l)) (hn : n = l.length) (hl : l.length ≤ 1000000) : LsI w (a, n, c) (l.map fun (i : Nat) => (i : Int)) := by
  refine ⟨by simpa using hn, by simpa using hl, ?_⟩
  rcases h.2 with ⟨e1, e2⟩ | ⟨g, cap, cur, e1, e2, e3, e4, e5, e6, e7⟩
  · left
    have : l = [] := List.eq_nil_of_length_eq_zero (by omega)
    rw [this]; rfl
  · right
    cases e1
    refine ⟨g, rfl, cur, e3, fun j x hx => ?_⟩
    rw [List.getElem?_map] at hx
    obtain ⟨y, hy, rfl⟩ := Option.map_eq_some_iff.1 hx
    have h2 : (ivs l)[j]? = some (.int .i64 (y : Int)) := by simp [ivs, hy]
    rw [← e7, List.getElem?_take] at h2
    split at h2
    · simpa using h2
    · cases h2
theorem ivs_snoc (l : List Nat) (x : Nat) : ivs (l ++ [x]) = ivs l ++ [.int .i64 (x : Int)] := by simp [ivs]
set_option maxRecDepth 100000 in
set_option maxHeartbeats 2000000 in
theorem edges_any (B D : Nat) (vn : Value) (qs : List Gr.Nd) (nds : List Pn) (a : Option Addr) (c : Nat) (ns : List (List UInt8)) (w : World) (h : NmAt B w D vn qs nds) (hr : RdS w a ns) (hl : nds.length ≤ 1000000) (hl2 : ns.length ≤ 1000000) :
    Calls Tryz.prog 26 #[.pointer (some ⟨D, 0, none⟩), .slice a ns.length c] w (EdEnd (edg nds ns) w) := by
  have hlen := h.len
  obtain ⟨va, vc, rfl⟩ := own_shape h.own
  have c2 := h.cell
  have HE := hide (edg_flags nds ns)
  have NB := hide (fun nm W (k : Below w.heap.size w W) => numbered_any B D _ qs nds nm W (h.below k) hl)
  have HR := hide (fun W (k : Below w.heap.size w W) => hr.below k)
  have HIL := hide (fun n i (h : idx nds n = some i) => idx_lt h)
  generalize edg nds ns = R at *
  generalize hm : qs.length = m at *
  have hm6 : m ≤ 1000000 := by omega
  have HL : Hid (m = nds.length) := hlen
  generalize hn : ns.length = n at *
  have HN := hide hn
  have hmk := Gr.made_boolsR w m (by omega)
  have SN0 := hide (Gr.sn_new w m)
  have B0 : Hid (Below w.heap.size w (w.alloc (.cells (madeCells #[.bool false] m) 4))) := (Below.refl _ w).alloc (Nat.le_refl _) _
  clear h hr hm hn hlen
  go_enter Tryz.func26, Tryz.ntmps26
  go_upto_region 2 with fail
  generalize w.alloc (.cells (madeCells #[.bool false] m) 4) = w0 at *
  clear hmk c2
  generalize hF : w.heap.size = F at *
  go_wp2_with fail
  go_loopw [7, 8] (fun iv nv wr => ∃ i : Nat, iv = .int .i64 (i : Nat) ∧ i ≤ n ∧ Hid (Below F w wr ∧ (∃ f, Gr.SnAt wr F m f ∧ ∀ j, f j = flagsT nds (ns.take i) j) ∧ (ns.take i).all (fun n => (idx nds n).isSome) = true)) (fun iv _ _ => n - (intOf iv).toNat)
  case atStart => exact ⟨0, rfl, Nat.zero_le _, B0.out, ⟨fun _ => false, SN0.out, fun j => by simp [flagsT]⟩, by simp⟩
  case round =>
    obtain ⟨i, rfl, hi, HD⟩ := hrel
    clear SN0 B0
    by_cases hlt : i < n
    · obtain ⟨x, hx⟩ : ∃ x, ns[i]? = some x := ⟨_, List.getElem?_eq_getElem (by rw [HN.out]; exact hlt)⟩
      have ii : (i : Int) < n := by omega
      have htk := Gr.take_snoc ns i x hx
      obtain ⟨g, off, ha, _, hc⟩ := (HR.out wr HD.out.1).resolve_left (fun e => by rw [e] at hx; simp at hx)
      subst ha
      have cx := hc i x hx
      have NX := hide (NB.out x wr HD.out.1)
      cases hk : idx nds x with
      | none =>
        obtain rfl : R = none := by
          rw [HE.out, if_neg]
          intro hall
          have := List.all_eq_true.1 hall x (List.mem_of_getElem? hx)
          rw [hk] at this
          cases this
        rw [hk] at NX
        unfold idxI at NX
        simp only at NX
        clear hk hc hx htk
        go_wp2_with (go_at_call 48; refine NX.out.mono ?_; rintro e wz ⟨rfl, rfl⟩)
        go_ret2
        exact ⟨(none, 0, 0), rfl, ⟨rfl, by simp, .inl rfl⟩, by rw [hF]; exact HD.out.1⟩
      | some k =>
        have hkl : k < m := by rw [HL.out]; exact HIL.out x k hk
        rw [hk] at NX
        unfold idxI at NX
        simp only at NX
        obtain ⟨f, hf, hfj⟩ := HD.out.2.1
        have HF1 := hide (hf.set k)
        have HN2 : Hid (∀ j, Gr.setF f k j = flagsT nds (ns.take (i + 1)) j) := fun j => by
          rw [htk, flags_snoc, ← hfj, hk]
          unfold Gr.setF
          by_cases e : j = k
          · rw [if_pos e, e]; simp
          · rw [if_neg e]
            have : (some k == some j) = false := by simp; exact fun h => e h.symm
            rw [this, Bool.or_false]
        have HAL : Hid ((ns.take (i + 1)).all (fun n => (idx nds n).isSome) = true) := by
          show _ = _
          rw [htk, List.all_append, HD.out.2.2]
          simp [hk]
        obtain ⟨ck, fk⟩ := hf.at hkl
        have kk : (k : Int) < m := by omega
        have k0 : ¬ (k : Int) < 0 := by omega
        have BB := hide HD.out.1
        clear hk hc hx htk hf hfj HD
        go_wp2_with (go_at_call 48; refine NX.out.mono ?_; rintro e wz ⟨rfl, rfl⟩)
        go_roundw
        · exact ⟨i + 1, rfl, by omega, BB.out.trans ((keep_cell wz F k (.bool true)).below (by rw [← hF]; have := BB.out.size; omega) fun i e => by omega), ⟨_, HF1.out, HN2.out⟩, HAL.out⟩
        · show n - ((i : Int) + 1).toNat < n - (i : Int).toNat
          omega
    · have htk : ns.take i = ns := List.take_of_length_le (by rw [HN.out]; omega)
      have hdd := HD.out
      rw [htk] at hdd
      obtain ⟨BB0, ⟨f, hf, hfj⟩, hal⟩ := hdd
      have HB := hide BB0
      clear BB0
      have HSN := hide hf
      have HRR : Hid (R = some ((upTo f m).map fun (i : Nat) => (i : Int))) := by
        show _ = _
        rw [HE.out, if_pos hal, ← HL.out]
        congr 2
        unfold upTo
        exact List.filter_congr fun j _ => (hfj j).symm
      have ii : ¬ (i : Int) < n := by omega
      clear HD hf hfj hal htk NB HR HIL HE
      go_wp2_with fail
      go_loopw [9, 10] (fun ov kv wy => ∃ (k : Nat) (ua : Option Addr) (uc : Nat), ov = .slice ua (upTo f k).length uc ∧ kv = .int .i64 (k : Nat) ∧ k ≤ m ∧ Hid (wy.ownsRow F 3 1 (.slice ua (upTo f k).length uc) (upTo f k).length (ivs (upTo f k)) ∧ Gr.SnAt wy F m f ∧ Below F w wy)) (fun _ kv _ => m - (intOf kv).toNat)
      case atStart => exact ⟨0, none, 0, rfl, rfl, Nat.zero_le _, World.ownsRow_nil _ _ _ _, HSN.out, HB.out⟩
      case round =>
        obtain ⟨k, ua, uc, rfl, rfl, hk, HD⟩ := hrel
        have hul := upTo_len f k
        by_cases hkm : k < m
        · obtain ⟨ck, fk⟩ := HD.out.2.1.at hkm
          have kk : (k : Int) < m := by omega
          cases hfk : f k with
          | true =>
            rw [hfk] at ck
            have hup := upTo_yes hfk
            have HUP := hide hup
            generalize hgl : (upTo f k).length = gl at *
            have HGL := hide hgl
            clear hfk hup hgl fk
            go_wp2_with (first
              | (at_builtin; refine wp_app rfl _ _ inf_int rfl F _ gl _ (ivs (upTo f k)) (.int .i64 (k : Int)) rfl rfl (HD.out.1.alloc _) (cell_new _ _ _) rfl ?b1 ?b2 ?_
                 rotate_left
                 rotate_left
                 intro va2 vc2 w8 own8 gr8
                 have HF := hide (⟨own8, gr8⟩ : _ ∧ _)
                 clear own8 gr8))
            · go_roundw
              · have e1 : (upTo f (k + 1)).length = gl + 1 := by rw [HUP.out, List.length_append, HGL.out]; rfl
                have bw := HD.out.2.2
                refine ⟨k + 1, va2, vc2, by rw [e1], rfl, by omega, ?_, ?_, ?_⟩
                · rw [e1, HUP.out, ivs_snoc]; exact HF.out.1
                · have ka := Keep.alloc (fun _ => False) wr (.cells #[.int .i64 (k : Int)] 3)
                  have s1 := HD.out.2.1.keep ka (fun h => h)
                  have o1 := HD.out.1.alloc (.cells #[.int .i64 (k : Int)] 3)
                  obtain ⟨cs, hcs, _⟩ := s1
                  exact (HD.out.2.1.keep ka (fun h => h)).keep (Keep.grown (S := fun k => Value.ownBlock (.slice ua gl uc) = some k) HF.out.2 fun _ e => e) (own_far o1 hcs (by decide))
                · exact (bw.alloc (by rw [← hF]; have := bw.size; omega) _).grown HF.out.2 (by have := bw.size; rw [hF] at this; simp; omega) (fun k hk => (HD.out.1.lt k hk).1)
              · show m - ((k : Int) + 1).toNat < m - (k : Int).toNat
                omega
            case b1 => omega
            case b2 => have := HD.out.2.2.size; rw [hF] at this; simp; omega
          | false =>
            rw [hfk] at ck
            have hup := upTo_no hfk
            have HUP := hide hup
            clear hfk hup fk
            go_wp2_with fail
            go_roundw
            · exact ⟨k + 1, ua, uc, by rw [HUP.out], rfl, by omega, by rw [HUP.out]; exact HD.out⟩
            · show m - ((k : Int) + 1).toNat < m - (k : Int).toNat
              omega
        · obtain rfl : k = m := by omega
          have kk : ¬ (k : Int) < k := by omega
          go_wp2_with fail
          go_ret2
          have hr := HRR.out
          subst hr
          exact ⟨(ua, (upTo f k).length, uc), rfl, ls_of HD.out.1 rfl (by omega), by rw [hF]; exact HD.out.2.2⟩
end Sp
end U
end Go.Proofs.YtfoahfgehmghcaaGreatDoor
