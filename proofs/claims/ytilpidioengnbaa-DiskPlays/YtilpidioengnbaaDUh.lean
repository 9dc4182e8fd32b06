/- DiskPlays: several disks and the document's, side by side, in memory. -/
import Derived.Test.YtilpidioengnbaaDUg
import Derived.Test.YtilpidioengnbaaDUf
namespace Go.Proofs.Ytilpidioengnbaa
namespace DP
open Go.RowKit Go.Lib

/-- a disk and the document's -/
structure Dk where
  p : Nat
  r : Nat
  s : St
  f : Rf
def Dk.pv (x : Dk) : Value := .pointer (some ⟨x.p, 0, none⟩)
def Dk.rv (x : Dk) : Value := .pointer (some ⟨x.r, 0, none⟩)
/-- the blocks of a colour -/
def CC (col : Nat → Nat) (B N x b : Nat) : Prop := col b = x ∧ B ≤ b ∧ b < N
/-- new blocks get a colour -/
def exC (col : Nat → Nat) (N x b : Nat) : Nat := if b < N then col b else x
theorem exC_old {col : Nat → Nat} {N x b : Nat} (h : b < N) : exC col N x b = col b := by unfold exC; rw [if_pos h]
theorem exC_new {col : Nat → Nat} {N x b : Nat} (h : N ≤ b) : exC col N x b = x := by unfold exC; rw [if_neg (Nat.not_lt.2 h)]
theorem CC.ext {col : Nat → Nat} {B N M x y b : Nat} (h : CC col B N x b) (hM : N ≤ M) : CC (exC col N y) B M x b := ⟨(exC_old h.2.2).trans h.1, h.2.1, Nat.lt_of_lt_of_le h.2.2 hM⟩
/-- the disks, and the two lists that point at them; what is theirs lies from B to N -/
structure PlD (B : Nat) (w : World) (col : Nat → Nat) (N : Nat) (L : List Dk) (vd vr : Value) : Prop where
  hB : B ≤ N
  hN : N ≤ w.heap.size
  d : ∀ i x, L[i]? = some x → DAt (CC col B N (4 * i + 4)) w x.p x.s
  r : ∀ i x, L[i]? = some x → RIn (CC col B N (4 * i + 5)) w x.r x.f
  rd : w.ownsRow B 24 1 vd L.length (L.map Dk.pv)
  rr : w.ownsRow B 26 1 vr L.length (L.map Dk.rv)
  cd : ∀ g, vd.ownBlock = some g → CC col B N 1 g
  cr : ∀ g, vr.ownBlock = some g → CC col B N 2 g
theorem RIn.blk_lt {S : Nat → Prop} {w : World} {p : Nat} {r : Rf} (h : RIn S w p r) : p < w.heap.size := by
  obtain ⟨vt, lt, vs, ls, h, _⟩ := h
  exact (Array.getElem?_eq_some_iff.1 h.blk).1
theorem PlD.keep {B N : Nat} {w w' : World} {col : Nat → Nat} {L : List Dk} {vd vr : Value} (h : PlD B w col N L vd vr) (k : Keep (fun b => N ≤ b) w w') : PlD B w' col N L vd vr :=
  ⟨h.hB, Nat.le_trans h.hN k.size, fun i x hx => (h.d i x hx).stay k fun _ _ e e2 => Nat.not_lt.2 e2 e.2.2, fun i x hx => (h.r i x hx).stay k fun _ _ e e2 => Nat.not_lt.2 e2 e.2.2,
    ownsRow_keep h.rd k fun g e e2 => Nat.not_lt.2 e2 (h.cd g e).2.2, ownsRow_keep h.rr k fun g e e2 => Nat.not_lt.2 e2 (h.cr g e).2.2, h.cd, h.cr⟩
theorem get_set {L : List Dk} {i j : Nat} {y x : Dk} (h : (L.set i y)[j]? = some x) : (j = i ∧ x = y) ∨ (j ≠ i ∧ L[j]? = some x) := by
  rw [List.getElem?_set] at h
  split at h
  · rename_i hij
    split at h
    · injection h with h
      exact .inl ⟨hij.symm, h.symm⟩
    · cases h
  · rename_i hij
    exact .inr ⟨fun e => hij e.symm, h⟩
theorem map_set_same {L : List Dk} {i : Nat} {x y : Dk} {f : Dk → Value} (hi : L[i]? = some x) (hf : f y = f x) : (L.set i y).map f = L.map f := by
  apply List.ext_getElem?
  intro j
  rw [List.getElem?_map, List.getElem?_map, List.getElem?_set]
  by_cases hij : i = j
  · subst hij
    rw [if_pos rfl, if_pos (List.getElem?_eq_some_iff.1 hi).1, hi]
    simp [hf]
  · rw [if_neg hij]
/-- a disk behind its step -/
theorem PlD.stepD {B N i : Nat} {w w2 w3 : World} {col : Nat → Nat} {L : List Dk} {vd vr : Value} {x : Dk} {t : St} (h : PlD B w col N L vd vr) (hi : L[i]? = some x) (k0 : Keep (fun b => N ≤ b) w w2) (k1 : Keep (fun b => CC col B N (4 * i + 4) b ∨ N ≤ b) w2 w3)
    (hd : DAt (fun b => CC col B N (4 * i + 4) b ∨ N ≤ b) w3 x.p t) : PlD B w3 (exC col N (4 * i + 4)) w3.heap.size (L.set i { x with s := t }) vd vr := by
  have h2 := h.keep k0
  have hz : N ≤ w3.heap.size := Nat.le_trans h2.hN k1.size
  have nb : ∀ {y b : Nat}, CC col B N y b → y ≠ 4 * i + 4 → ¬ (CC col B N (4 * i + 4) b ∨ N ≤ b) := fun e hne e2 => by
    rcases e2 with e2 | e2
    · exact hne (e.1.symm.trans e2.1)
    · exact Nat.not_lt.2 e2 e.2.2
  refine ⟨Nat.le_trans h.hB hz, Nat.le_refl _, fun j y hy => ?_, fun j y hy => ?_, ?_, ?_, fun g e => (h2.cd g e).ext hz, fun g e => (h2.cr g e).ext hz⟩
  · rcases get_set hy with ⟨rfl, rfl⟩ | ⟨hne, hy⟩
    · refine hd.low.mono fun b e => ?_
      rcases e.1 with e1 | e1
      · exact e1.ext hz
      · exact ⟨exC_new e1, Nat.le_trans h.hB e1, e.2⟩
    · exact ((h2.d j y hy).stay k1 fun b _ e => nb e (by omega)).mono fun b e => e.ext hz
  · have hr : L[j]? = some { y with s := if j = i then x.s else y.s } ∧ True := by
      rcases get_set hy with ⟨rfl, rfl⟩ | ⟨hne, hy⟩
      · rw [if_pos rfl]; exact ⟨hi, trivial⟩
      · rw [if_neg hne]; exact ⟨hy, trivial⟩
    exact ((h2.r j _ hr.1).stay k1 fun b _ e => nb e (by omega)).mono fun b e => e.ext hz
  · rw [map_set_same (y := { x with s := t }) (f := Dk.pv) hi rfl, List.length_set]
    exact ownsRow_keep h2.rd k1 fun g e => nb (h2.cd g e) (by omega)
  · rw [map_set_same (y := { x with s := t }) (f := Dk.rv) hi rfl, List.length_set]
    exact ownsRow_keep h2.rr k1 fun g e => nb (h2.cr g e) (by omega)
/-- the document's disk behind its step -/
theorem PlD.stepR {B N i : Nat} {w w2 w3 : World} {col : Nat → Nat} {L : List Dk} {vd vr : Value} {x : Dk} {t : Rf} (h : PlD B w col N L vd vr) (hi : L[i]? = some x) (k0 : Keep (fun b => N ≤ b) w w2) (k1 : Keep (fun b => CC col B N (4 * i + 5) b ∨ N ≤ b) w2 w3)
    (hd : RIn (fun b => CC col B N (4 * i + 5) b ∨ N ≤ b) w3 x.r t) : PlD B w3 (exC col N (4 * i + 5)) w3.heap.size (L.set i { x with f := t }) vd vr := by
  have h2 := h.keep k0
  have hz : N ≤ w3.heap.size := Nat.le_trans h2.hN k1.size
  have nb : ∀ {y b : Nat}, CC col B N y b → y ≠ 4 * i + 5 → ¬ (CC col B N (4 * i + 5) b ∨ N ≤ b) := fun e hne e2 => by
    rcases e2 with e2 | e2
    · exact hne (e.1.symm.trans e2.1)
    · exact Nat.not_lt.2 e2 e.2.2
  refine ⟨Nat.le_trans h.hB hz, Nat.le_refl _, fun j y hy => ?_, fun j y hy => ?_, ?_, ?_, fun g e => (h2.cd g e).ext hz, fun g e => (h2.cr g e).ext hz⟩
  · have hr : L[j]? = some { y with f := if j = i then x.f else y.f } ∧ True := by
      rcases get_set hy with ⟨rfl, rfl⟩ | ⟨hne, hy⟩
      · rw [if_pos rfl]; exact ⟨hi, trivial⟩
      · rw [if_neg hne]; exact ⟨hy, trivial⟩
    exact ((h2.d j _ hr.1).stay k1 fun b _ e => nb e (by omega)).mono fun b e => e.ext hz
  · rcases get_set hy with ⟨rfl, rfl⟩ | ⟨hne, hy⟩
    · refine hd.low.mono fun b e => ?_
      rcases e.1 with e1 | e1
      · exact e1.ext hz
      · exact ⟨exC_new e1, Nat.le_trans h.hB e1, e.2⟩
    · exact ((h2.r j y hy).stay k1 fun b _ e => nb e (by omega)).mono fun b e => e.ext hz
  · rw [map_set_same (y := { x with f := t }) (f := Dk.pv) hi rfl, List.length_set]
    exact ownsRow_keep h2.rd k1 fun g e => nb (h2.cd g e) (by omega)
  · rw [map_set_same (y := { x with f := t }) (f := Dk.rv) hi rfl, List.length_set]
    exact ownsRow_keep h2.rr k1 fun g e => nb (h2.cr g e) (by omega)
/-- a copy more -/
def colC (col : Nat → Nat) (N z1 z2 z3 n b : Nat) : Nat := if b < N then col b else if b < z1 then 4 * n + 4 else if b < z2 then 1 else if b < z3 then 4 * n + 5 else 2
theorem PlD.copy {B N P R : Nat} {w w0 w1 w2 w3 w4 : World} {col : Nat → Nat} {L : List Dk} {vd vr vd' vr' : Value} {s : St} {f : Rf} (h : PlD B w col N L vd vr) (k0 : Keep (fun b => N ≤ b) w w0)
    (k1 : Keep (fun _ => False) w0 w1) (hd : DAt (fun b => w0.heap.size ≤ b) w1 P s)
    (k2 : Keep (fun b => vd.ownBlock = some b) w1 w2) (rd : w2.ownsRow B 24 1 vd' (L.length + 1) (L.map Dk.pv ++ [.pointer (some ⟨P, 0, none⟩)])) (nd : ∀ g, vd'.ownBlock = some g → vd.ownBlock = some g ∨ w1.heap.size ≤ g)
    (k3 : Keep (fun _ => False) w2 w3) (hr : RIn (fun b => w2.heap.size ≤ b) w3 R f)
    (k4 : Keep (fun b => vr.ownBlock = some b) w3 w4) (rr : w4.ownsRow B 26 1 vr' (L.length + 1) (L.map Dk.rv ++ [.pointer (some ⟨R, 0, none⟩)])) (nr : ∀ g, vr'.ownBlock = some g → vr.ownBlock = some g ∨ w3.heap.size ≤ g) :
    PlD B w4 (colC col N w1.heap.size w2.heap.size w3.heap.size L.length) w4.heap.size (L ++ [⟨P, R, s, f⟩]) vd' vr' := by
  have h0 := h.keep k0
  have z0 := h0.hN
  have z1 := k1.size
  have z2 := k2.size
  have z3 := k3.size
  have z4 := k4.size
  have old : ∀ {y b : Nat}, CC col B N y b → CC (colC col N w1.heap.size w2.heap.size w3.heap.size L.length) B w4.heap.size y b := fun e => ⟨by unfold colC; rw [if_pos e.2.2]; exact e.1, e.2.1, by have := e.2.2; omega⟩
  have K14 : Keep (fun b => vd.ownBlock = some b ∨ vr.ownBlock = some b) w0 w4 := (((k1.mono fun _ f => f.elim).more (k2.mono fun _ e => .inl e)).more (k3.mono fun _ f => f.elim)).more (k4.mono fun _ e => .inr e)
  have far : ∀ {y b : Nat}, CC col B N y b → y ≠ 1 → y ≠ 2 → ¬ (vd.ownBlock = some b ∨ vr.ownBlock = some b) := fun e h1 h2 e2 => by
    rcases e2 with e2 | e2
    · exact h1 (e.1.symm.trans (h.cd _ e2).1)
    · exact h2 (e.1.symm.trans (h.cr _ e2).1)
  have hlast : ∀ {j : Nat} {y : Dk}, (L ++ [(⟨P, R, s, f⟩ : Dk)])[j]? = some y → (L[j]? = some y) ∨ (j = L.length ∧ y = ⟨P, R, s, f⟩) := fun {j y} e => by
    by_cases hj : j < L.length
    · rw [List.getElem?_append_left hj] at e
      exact .inl e
    · rw [List.getElem?_append_right (by omega)] at e
      by_cases h0 : j - L.length = 0
      · rw [h0] at e
        simp at e
        exact .inr ⟨by omega, e.symm⟩
      · rw [List.getElem?_eq_none (by simp; omega)] at e
        cases e
  have hvd : ∀ b, vd.ownBlock = some b → b < N := fun b e => (h.cd b e).2.2
  have hvr : ∀ b, vr.ownBlock = some b → b < N := fun b e => (h.cr b e).2.2
  refine ⟨by have := h.hB; omega, Nat.le_refl _, fun j y hy => ?_, fun j y hy => ?_, ?_, ?_, fun g e => ?_, fun g e => ?_⟩
  · rcases hlast hy with hy | ⟨rfl, rfl⟩
    · exact ((h0.d j y hy).stay K14 fun b _ e => far e (by omega) (by omega)).mono fun b e => old e
    · have k : Keep (fun b => vd.ownBlock = some b ∨ vr.ownBlock = some b) w1 w4 := ((k2.mono fun _ e => .inl e).more (k3.mono fun _ f => f.elim)).more (k4.mono fun _ e => .inr e)
      refine (hd.low.stay k fun b _ e e2 => ?_).mono fun b e => ?_
      · have e1 := e.1
        rcases e2 with e2 | e2
        · have := hvd b e2; omega
        · have := hvr b e2; omega
      · have e1 := e.1
        have e2 := e.2
        refine ⟨?_, by have := h.hB; omega, by omega⟩
        unfold colC
        rw [if_neg (by omega), if_pos e2]
  · rcases hlast hy with hy | ⟨rfl, rfl⟩
    · exact ((h0.r j y hy).stay K14 fun b _ e => far e (by omega) (by omega)).mono fun b e => old e
    · refine (hr.low.stay k4 fun b _ e e2 => ?_).mono fun b e => ?_
      · have := hvr b e2
        have := e.1
        omega
      · have e1 := e.1
        have e2 := e.2
        refine ⟨?_, by have := h.hB; omega, by omega⟩
        unfold colC
        rw [if_neg (by omega), if_neg (by omega), if_neg (by omega), if_pos e2]
  · rw [List.length_append, List.length_singleton, List.map_append]
    refine ownsRow_keep rd ((k3.mono fun _ f => f.elim).more k4) fun g e e2 => ?_
    rcases nd g e with e3 | e3
    · have h1 := (h.cd g e3).1
      have h2 := (h.cr g e2).1
      omega
    · have := hvr g e2
      omega
  · rw [List.length_append, List.length_singleton, List.map_append]
    exact rr
  · have hlt := (rd.lt g e).2
    have hge := (rd.lt g e).1
    rcases nd g e with e3 | e3
    · exact old (h.cd g e3)
    · refine ⟨?_, hge, by omega⟩
      unfold colC
      rw [if_neg (by omega), if_neg (by omega), if_pos hlt]
  · have hlt := (rr.lt g e).2
    have hge := (rr.lt g e).1
    rcases nr g e with e3 | e3
    · exact old (h.cr g e3)
    · refine ⟨?_, hge, hlt⟩
      unfold colC
      rw [if_neg (by omega), if_neg (by omega), if_neg (by omega), if_neg (by omega)]
end DP
end Go.Proofs.Ytilpidioengnbaa
