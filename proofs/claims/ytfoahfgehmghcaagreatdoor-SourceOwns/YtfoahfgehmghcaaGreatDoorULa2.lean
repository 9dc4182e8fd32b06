import Derived.Test.YtfoahfgehmghcaaGreatDoorUNof
import Derived.Test.YtfoahfgehmghcaaGreatDoorURdl
import Derived.Deep.QuietTactic
import Derived.Deep.Cut
/- Package source: edges laid: the mathematics, and nodes with their lists in memory. -/
namespace Go.Proofs.YtfoahfgehmghcaaGreatDoor
namespace U
open Go.RowKit

theorem idxB_no (nds : List Pn) (n : List UInt8) : idxB (nds.map no) (ba n) = idx nds n := by
  unfold idxB idx
  rw [List.findIdx?_map]
  congr 1
  funext x
  show decide (ba x.nm = ba n) = (x.nm == n)
  rw [Bool.eq_iff_iff]
  simp [ba_eq]
theorem risen_edg (nds : List Pn) (ns : List (List UInt8)) : risen (idxB (nds.map no)) ns = ((List.range nds.length).filter fun i => ns.any fun n => idx nds n == some i).map fun (i : Nat) => (i : Int) := by
  unfold risen
  refine edg_sort nds ns _ ?_
  congr 2
  unfold nums
  congr 1
  funext n
  exact idxB_no nds n
theorem edg_risen (nds : List Pn) (ns : List (List UInt8)) : edg nds ns = if ns.all (fun n => (idxB (nds.map no) (ba n)).isSome) = true then some (risen (idxB (nds.map no)) ns) else none := by
  unfold edg
  rw [risen_edg]
  have : (fun n => (idxB (nds.map no) (ba n)).isSome) = fun n => (idx nds n).isSome := by funext n; rw [idxB_no]
  rw [this]
/-- edges do not turn names -/
theorem idx_set (nds : List Pn) (m : Mn) (l : List Int) (n : List UInt8) : idx (setEdge nds m l) n = idx nds n := by
  unfold idx setEdge
  have h : ∀ (xs : List Pn) (k : Nat), (xs.modify k fun x => if m.kind = 0 then { x with nl := l } else { x with al := l }).map (·.nm) = xs.map (·.nm) := by
    intro xs
    induction xs with
    | nil => intro k; simp
    | cons x xs ih =>
      intro k
      cases k with
      | zero => simp only [List.modify_zero_cons, List.map_cons]; split <;> rfl
      | succ k => simp only [List.modify_succ_cons, List.map_cons, ih k]
  have e : ∀ (xs : List Pn), List.findIdx? (fun x => x.nm == n) xs = List.findIdx? (fun y => y == n) (xs.map (·.nm)) := by
    intro xs
    rw [List.findIdx?_map]
    rfl
  rw [e, e, h]
theorem edg_set (nds : List Pn) (m : Mn) (l : List Int) (ns : List (List UInt8)) : edg (setEdge nds m l) ns = edg nds ns := by
  unfold edg
  have h1 : ∀ n, idx (setEdge nds m l) n = idx nds n := idx_set nds m l
  simp only [h1]
  have h2 : (setEdge nds m l).length = nds.length := by unfold setEdge; simp
  rw [h2]

/-- a node without its places in memory -/
def er (x : Gr.No) : Gr.No := ⟨{ x.q with ne := (none, 0, 0), af := (none, 0, 0) }, x.nl, x.al⟩
/-- a list of numbers in a block of its own -/
def LsI (w : World) (s : Option Addr × Nat × Nat) (z : List Int) : Prop :=
  s.2.1 = z.length ∧ z.length ≤ 1000000 ∧ (z = [] ∨ ∃ g, s.1 = some ⟨g, 0, none⟩ ∧ ∃ cur : Array Value, w.heap[g]? = some (.cells cur 3 (0, 0)) ∧ ∀ (j : Nat) (x : Int), z[j]? = some x → cur[j]? = some (Value.int .i64 x))
theorem LsI.keep {w w' : World} {s : Option Addr × Nat × Nat} {z : List Int} (h : LsI w s z) {S : Nat → Prop} (k : Keep S w w') (hS : ∀ g cur, S g → w.heap[g]? ≠ some (.cells cur 3 (0, 0))) : LsI w' s z := by
  obtain ⟨h1, h2, h3⟩ := h
  refine ⟨h1, h2, ?_⟩
  rcases h3 with h3 | ⟨g, e, cur, hb, hc⟩
  · exact .inl h3
  · exact .inr ⟨g, e, cur, k.blk hb (fun s => hS g cur s hb), hc⟩
theorem LsI.below {w w' : World} {s : Option Addr × Nat × Nat} {z : List Int} (h : LsI w s z) (k : Below w.heap.size w w') : LsI w' s z :=
  h.keep (Keep.ofBelow (S := fun _ => False) k (Nat.le_refl _)) (fun _ _ f => f.elim)
theorem LsI.rd {w : World} {s : Option Addr × Nat × Nat} {z : List Int} (h : LsI w s z) : Gr.RdZ w.heap.size w s z := by
  obtain ⟨h1, h2, h3⟩ := h
  refine ⟨h1, by omega, ?_⟩
  rcases h3 with rfl | ⟨g, e, cur, hb, hc⟩
  · exact .inl h1
  · exact .inr ⟨g, 0, e, (Array.getElem?_eq_some_iff.1 hb).1, fun j x hx => by rw [Nat.zero_add]; exact cell_blk hb j (hc j x hx)⟩
/-- nodes in memory, with their lists -/
def NdsAt (B : Nat) (w : World) (vn : Value) (nds : List Pn) : Prop :=
  ∃ xs : List Gr.No, xs.map er = nds.map no ∧ w.ownsRow B 32 10 vn xs.length (flat (xs.map (·.q))) ∧ ∀ x ∈ xs, LsI w x.q.ne x.nl ∧ LsI w x.q.af x.al
theorem NdsAt.below {B : Nat} {w w' : World} {vn : Value} {nds : List Pn} (h : NdsAt B w vn nds) (k : Below w.heap.size w w') : NdsAt B w' vn nds := by
  obtain ⟨xs, h1, h2, h3⟩ := h
  exact ⟨xs, h1, own_below h2 k, fun x hx => ⟨(h3 x hx).1.below k, (h3 x hx).2.below k⟩⟩
theorem NdsAt.len {B : Nat} {w : World} {vn : Value} {nds : List Pn} (h : NdsAt B w vn nds) : ∃ a c, vn = .slice a nds.length c := by
  obtain ⟨xs, h1, h2, _⟩ := h
  obtain ⟨a, c, e⟩ := own_shape h2
  have := congrArg List.length h1
  simp at this
  exact ⟨a, c, by rw [e, this]⟩
theorem NdsAt.rd {B : Nat} {w : World} {a : Option Addr} {n c : Nat} {nds : List Pn} (h : NdsAt B w (.slice a n c) nds) (hl : nds.length ≤ 1000000) : ∃ xs : List Gr.No, xs.map er = nds.map no ∧ Gr.RdP w.heap.size w (a, n, c) xs := by
  obtain ⟨xs, h1, h2, h3⟩ := h
  refine ⟨xs, h1, ?_⟩
  have hx : xs.length = nds.length := by have := congrArg List.length h1; simpa using this
  obtain ⟨a', c', e⟩ := own_shape h2
  injection e with e1 e2 e3
  subst e1; subst e2; subst e3
  refine ⟨rfl, by simp only; omega, ?_, fun x hx => ⟨(h3 x hx).1.rd, (h3 x hx).2.rd⟩⟩
  rcases h2.2 with ⟨e1, e2⟩ | ⟨g, cap, cur, e1, e2, e3, e4, e5, e6, e7⟩
  · left; exact e2
  · right
    injection e1 with e1 e1' e1''
    refine ⟨g, 0, e1, (Array.getElem?_eq_some_iff.1 e3).1, fun i x hx j u hu => ?_⟩
    have := flat_get (xs.map (·.q)) i j x.q u (by simp [hx]) hu
    rw [← e7, List.getElem?_take] at this
    split at this
    · rw [Nat.zero_add]; exact cell_blk e3 _ (by simpa using this)
    · cases this
/-- a list of numbers that is its owner's alone -/
def LsO (B M : Nat) (w : World) (s : Option Addr × Nat × Nat) (z : List Int) : Prop :=
  z.length ≤ 1000000 ∧ w.ownsRow B 3 1 (.slice s.1 s.2.1 s.2.2) z.length (z.map (Value.int .i64)) ∧ ∀ g, (Value.slice s.1 s.2.1 s.2.2).ownBlock = some g → g < M
theorem LsO.ls {B M : Nat} {w : World} {s : Option Addr × Nat × Nat} {z : List Int} (h : LsO B M w s z) : LsI w s z := by
  obtain ⟨a, n, c⟩ := s
  obtain ⟨h1, h2, _⟩ := h
  obtain ⟨a', c', e⟩ := own_shape h2
  injection e with e1 e2 e3
  refine ⟨e2, h1, ?_⟩
  rcases h2.2 with ⟨_, e⟩ | ⟨g, cap, cur, e4, e5, e6, _, _, _, e7⟩
  · exact .inl (List.eq_nil_of_length_eq_zero e)
  · injection e4 with e4
    refine .inr ⟨g, e4, cur, e6, fun j x hx => ?_⟩
    have h8 : (z.map (Value.int .i64))[j]? = some (.int .i64 x) := by simp [hx]
    rw [← e7, List.getElem?_take] at h8
    split at h8
    · simpa using h8
    · cases h8
theorem LsO.keep {B M : Nat} {w w' : World} {s : Option Addr × Nat × Nat} {z : List Int} (h : LsO B M w s z) {S : Nat → Prop} (k : Keep S w w') (hS : ∀ g cur, S g → w.heap[g]? ≠ some (.cells cur 3 (0, 0))) : LsO B M w' s z :=
  ⟨h.1, own_keep h.2.1 k fun g hg s => by obtain ⟨_, _, cur, hcur⟩ := own_blk h.2.1 hg; exact hS g cur s hcur, h.2.2⟩
theorem LsO.below {B M : Nat} {w w' : World} {s : Option Addr × Nat × Nat} {z : List Int} (h : LsO B M w s z) (k : Below w.heap.size w w') : LsO B M w' s z := ⟨h.1, own_below h.2.1 k, h.2.2⟩
theorem LsO.up {B M M' : Nat} {w : World} {s : Option Addr × Nat × Nat} {z : List Int} (h : LsO B M w s z) (hm : M ≤ M') : LsO B M' w s z := ⟨h.1, h.2.1, fun g e => Nat.lt_of_lt_of_le (h.2.2 g e) hm⟩
theorem LsO.base {B B' M : Nat} {w : World} {s : Option Addr × Nat × Nat} {z : List Int} (h : LsO B M w s z) (hb : B' ≤ B) : LsO B' M w s z := ⟨h.1, ownsRow_base h.2.1 hb, h.2.2⟩
theorem LsO.nil {B M : Nat} {w : World} {z : List Int} (h : z = []) : LsO B M w (none, 0, 0) z := by
  subst h
  exact ⟨by simp, World.ownsRow_nil _ _ _ _, fun g e => by cases e⟩
/-- the one list of a node, or the other; its block -/
def sl (x : Gr.No) (k : Bool) : Option Addr × Nat × Nat := if k then x.q.af else x.q.ne
def slB (x : Gr.No) (k : Bool) : Option Nat := (Value.slice (sl x k).1 (sl x k).2.1 (sl x k).2.2).ownBlock
/-- no two lists lie in one block -/
def ApX (xs : List Gr.No) : Prop := ∀ (i j : Nat) (x y : Gr.No) (k l : Bool) (g : Nat), xs[i]? = some x → xs[j]? = some y → slB x k = some g → slB y l = some g → i = j ∧ k = l
/-- nodes in memory, with lists that are their owner's alone, each in a block of its own (below M) -/
def NdsU (B M : Nat) (w : World) (vn : Value) (nds : List Pn) : Prop :=
  ∃ xs : List Gr.No, xs.map er = nds.map no ∧ w.ownsRow B 32 10 vn xs.length (flat (xs.map (·.q))) ∧ (∀ x ∈ xs, LsO B M w x.q.ne x.nl ∧ LsO B M w x.q.af x.al) ∧ ApX xs
def NdsO (B : Nat) (w : World) (vn : Value) (nds : List Pn) : Prop := ∃ M, NdsU B M w vn nds
theorem NdsU.at_ {B M : Nat} {w : World} {vn : Value} {nds : List Pn} (h : NdsU B M w vn nds) : NdsAt B w vn nds := by
  obtain ⟨xs, h1, h2, h3, _⟩ := h
  exact ⟨xs, h1, h2, fun x hx => ⟨(h3 x hx).1.ls, (h3 x hx).2.ls⟩⟩
theorem NdsO.at_ {B : Nat} {w : World} {vn : Value} {nds : List Pn} (h : NdsO B w vn nds) : NdsAt B w vn nds := by
  obtain ⟨M, h⟩ := h
  exact h.at_
theorem NdsU.below {B M : Nat} {w w' : World} {vn : Value} {nds : List Pn} (h : NdsU B M w vn nds) (k : Below w.heap.size w w') : NdsU B M w' vn nds := by
  obtain ⟨xs, h1, h2, h3, h4⟩ := h
  exact ⟨xs, h1, own_below h2 k, fun x hx => ⟨(h3 x hx).1.below k, (h3 x hx).2.below k⟩, h4⟩
theorem NdsO.below {B : Nat} {w w' : World} {vn : Value} {nds : List Pn} (h : NdsO B w vn nds) (k : Below w.heap.size w w') : NdsO B w' vn nds := by
  obtain ⟨M, h⟩ := h
  exact ⟨M, h.below k⟩
theorem NdsU.up {B M M' : Nat} {w : World} {vn : Value} {nds : List Pn} (h : NdsU B M w vn nds) (hm : M ≤ M') : NdsU B M' w vn nds := by
  obtain ⟨xs, h1, h2, h3, h4⟩ := h
  exact ⟨xs, h1, h2, fun x hx => ⟨(h3 x hx).1.up hm, (h3 x hx).2.up hm⟩, h4⟩
/-- a list of a node exchanged -/
theorem ApX.set {xs : List Gr.No} (h : ApX xs) {m : Nat} {x x' : Gr.No} (hx : xs[m]? = some x) (k : Bool) {M g : Nat} (h1 : slB x' (!k) = slB x (!k)) (h2 : slB x' k = some g) (hM : ∀ y ∈ xs, ∀ l b, slB y l = some b → b < M) (hg : M ≤ g) : ApX (xs.set m x') := by
  have key : ∀ (i : Nat) (y : Gr.No) (l : Bool) (b : Nat), (xs.set m x')[i]? = some y → slB y l = some b → (i = m ∧ l = k ∧ b = g) ∨ (b < M ∧ ∃ y', xs[i]? = some y' ∧ slB y' l = some b) := by
    intro i y l b hy hb
    by_cases e : m = i
    · subst e
      rw [List.getElem?_set_self (List.getElem?_eq_some_iff.1 hx).1] at hy
      injection hy with hy
      subst hy
      by_cases el : l = k
      · subst el
        rw [h2] at hb
        injection hb with hb
        exact .inl ⟨rfl, rfl, hb.symm⟩
      · have el' : l = !k := by cases l <;> cases k <;> simp_all
        subst el'
        rw [h1] at hb
        exact .inr ⟨hM x (List.mem_of_getElem? hx) _ _ hb, x, hx, hb⟩
    · rw [List.getElem?_set_ne e] at hy
      exact .inr ⟨hM y (List.mem_of_getElem? hy) _ _ hb, y, hy, hb⟩
  intro i j y z l l' b hy hz hb hb'
  rcases key i y l b hy hb with ⟨e1, e2, e3⟩ | ⟨e1, y', e2, e3⟩
  · rcases key j z l' b hz hb' with ⟨f1, f2, f3⟩ | ⟨f1, _⟩
    · exact ⟨e1.trans f1.symm, e2.trans f2.symm⟩
    · omega
  · rcases key j z l' b hz hb' with ⟨f1, f2, f3⟩ | ⟨f1, z', f2, f3⟩
    · omega
    · exact h i j y' z' l l' b e2 f2 e3 f3
/-- a cell of a row of one's own -/
theorem own_set {w : World} {b : Nat} {e : TypeId} {s g n cap : Nat} {xs : List Value} (h : w.ownsRow b e s (.slice (some ⟨g, 0, none⟩) n cap) n xs) (j : Nat) (v : Value) : (w.setCell ⟨g, j, none⟩ v).ownsRow b e s (.slice (some ⟨g, 0, none⟩) n cap) n (xs.set j v) := by
  have hl := h.1
  rcases h.2 with ⟨h0, _⟩ | ⟨g', cap', cur, hv, h1, h2, h3, h4, h5, h6⟩
  · cases h0
  · cases hv
    refine ⟨by simpa using hl, .inr ⟨g, cap, cur.setIfInBounds j v, rfl, h1, set_blk h2 j v, h3, h4, by simpa using h5, ?_⟩⟩
    rw [Array.toList_setIfInBounds, List.take_set, h6]
theorem flat_set (qs : List Gr.Nd) (i j : Nat) (q q' : Gr.Nd) (v : Value) (hq : qs[i]? = some q) (hr : q'.row = q.row.set j v) (hj : j < 10) : (flat qs).set (i * 10 + j) v = flat (qs.set i q') := by
  induction qs generalizing i with
  | nil => simp at hq
  | cons p qs ih =>
    have hl : ∀ q : Gr.Nd, q.row.length = 10 := fun q => rfl
    have e : ∀ p qs, flat (p :: qs) = p.row ++ flat qs := fun p qs => by simp [flat]
    rw [e]
    cases i with
    | zero =>
      simp only [List.getElem?_cons_zero, Option.some.injEq] at hq
      subst hq
      rw [List.set_cons_zero, e, hr, Nat.zero_mul, Nat.zero_add, List.set_append_left _ _ (by rw [hl]; exact hj)]
    | succ i =>
      simp only [List.getElem?_cons_succ] at hq
      rw [List.set_cons_succ, e, List.set_append_right _ _ (by rw [hl]; omega), hl, show (i + 1) * 10 + j - 10 = i * 10 + j by omega, ih i hq]
end U
end Go.Proofs.YtfoahfgehmghcaaGreatDoor

/- Package source: the edges of the nodes. -/
namespace Go.Proofs.YtfoahfgehmghcaaGreatDoor
namespace U
open Go.RowKit

def MOk (n : Nat) (m : Mn) : Prop := m.names ≠ [] ∧ m.names.length ≤ 1000000 ∧ (∀ x ∈ m.names, x.length ≤ 65536) ∧ m.node < n ∧ (m.kind = 0 ∨ m.kind = 1)
def NOk (x : Pn) : Prop := x.nm.length ≤ 65536 ∧ x.nl = [] ∧ x.al = []
theorem idxB_er (xs : List Gr.No) : idxB (xs.map er) = idxB xs := by
  funext k
  unfold idxB
  rw [List.findIdx?_map]
  rfl
/-- what layEdges leaves -/
def LayEnd (B D : Nat) (d : Dr) (r : Nat ⊕ List Pn) (w : World) (e : Ending) (w' : World) : Prop :=
  Below B w w' ∧ ((∃ p v, r = .inl p ∧ e = .returned v ∧ ErrAt w' v p 112) ∨ ∃ nds vn vp vm, r = .inr nds ∧ nds.length = d.nds.length ∧ e = .returned .nilIface ∧ w'.heap[D]? = some (.cells (drow d vn vp vm).toArray 87 (0, 0)) ∧ NdsO B w' vn nds ∧ w'.ownsRow B 3 1 vp d.places.length (ivs d.places))
/-- between two mentions -/
structure LyI (B D b : Nat) (d : Dr) (vn vp vm : Value) (l : List (Mn × Option Addr × Nat)) (f : ByteArray → Option Nat) (w : World) (nds : List Pn) (wr : World) (M : Nat) : Prop where
  blk : wr.heap[D]? = some (.cells (drow d vn vp vm).toArray 87 (0, 0))
  nd : NdsU B M wr vn nds
  pl : wr.ownsRow B 3 1 vp d.places.length (ivs d.places)
  ms : wr.ownsRow B 131 4 vm l.length (mflat l)
  nm : ∀ x ∈ l, RdS wr x.2.1 x.1.names
  mp : ∃ N, Gr.MapS wr b N f
  bel : Below B w wr
  ed : ∀ ns, edg nds ns = edg d.nds ns
  len : nds.length = d.nds.length
theorem LyI.below {B D b : Nat} {d : Dr} {vn vp vm : Value} {l : List (Mn × Option Addr × Nat)} {f : ByteArray → Option Nat} {w : World} {nds : List Pn} {wr w' : World} {M : Nat} (h : LyI B D b d vn vp vm l f w nds wr M) (k : Below wr.heap.size wr w') (hB : B ≤ wr.heap.size) : LyI B D b d vn vp vm l f w nds w' M := by
  obtain ⟨N, hm⟩ := h.mp
  exact ⟨(k.block D (Array.getElem?_eq_some_iff.1 h.blk).1).trans h.blk, h.nd.below k, own_below h.pl k, own_below h.ms k, fun x hx => (h.nm x hx).below k, ⟨N, hm.of_blk (k.block b hm.lt)⟩, h.bel.trans (k.mono hB), h.ed, h.len⟩
theorem LyI.up {B D b : Nat} {d : Dr} {vn vp vm : Value} {l : List (Mn × Option Addr × Nat)} {f : ByteArray → Option Nat} {w : World} {nds : List Pn} {wr : World} {M M' : Nat} (h : LyI B D b d vn vp vm l f w nds wr M) (hm : M ≤ M') : LyI B D b d vn vp vm l f w nds wr M' := { h with nd := h.nd.up hm }
theorem mflat_get (l : List (Mn × Option Addr × Nat)) (i j : Nat) (x : Mn × Option Addr × Nat) (u : Value) (hx : l[i]? = some x) (hu : (mrow x)[j]? = some u) : (mflat l)[i * 4 + j]? = some u := by
  induction l generalizing i with
  | nil => simp at hx
  | cons p l ih =>
    have hl : ∀ q : Mn × Option Addr × Nat, (mrow q).length = 4 := fun q => rfl
    have e : mflat (p :: l) = mrow p ++ mflat l := by simp [mflat]
    have hj : j < 4 := by rw [← hl x]; exact (List.getElem?_eq_some_iff.1 hu).1
    rw [e]
    cases i with
    | zero =>
      simp only [List.getElem?_cons_zero, Option.some.injEq] at hx
      subst hx
      rw [Nat.zero_mul, Nat.zero_add, List.getElem?_append_left (by rw [hl]; omega)]
      exact hu
    | succ i =>
      simp only [List.getElem?_cons_succ] at hx
      rw [List.getElem?_append_right (by rw [hl]; omega), hl, show (i + 1) * 4 + j - 4 = i * 4 + j by omega]
      exact ih i hx
/-- a mention of the row, cell by cell -/
theorem men_cells {B : Nat} {w : World} {va : Option Addr} {vc : Nat} {l : List (Mn × Option Addr × Nat)} (h : w.ownsRow B 131 4 (.slice va l.length vc) l.length (mflat l)) {i : Nat} {x : Mn × Option Addr × Nat} (hx : l[i]? = some x) : ∃ g, va = some ⟨g, 0, none⟩ ∧ w.cell? ⟨g, i * 4, none⟩ = some (.int .i64 (x.1.place : Int)) ∧ w.cell? ⟨g, i * 4 + 1, none⟩ = some (.int .i64 (x.1.node : Int)) ∧ w.cell? ⟨g, i * 4 + 2, none⟩ = some (.int .i64 (x.1.kind : Int)) ∧ w.cell? ⟨g, i * 4 + 3, none⟩ = some (.slice x.2.1 x.1.names.length x.2.2) := by
  have hi : i < l.length := (List.getElem?_eq_some_iff.1 hx).1
  rcases h.2 with ⟨_, e2⟩ | ⟨g, cap, cur, e1, e2, e3, e4, e5, e6, e7⟩
  · omega
  · injection e1 with e1
    have key : ∀ j u, (mrow x)[j]? = some u → w.cell? ⟨g, i * 4 + j, none⟩ = some u := fun j u hu => by
      have := mflat_get l i j x u hx hu
      rw [← e7, List.getElem?_take] at this
      split at this
      · exact cell_blk e3 _ (by simpa using this)
      · cases this
    exact ⟨g, e1, key 0 _ rfl, key 1 _ rfl, key 2 _ rfl, key 3 _ rfl⟩
theorem modify_set {α : Type} (f : α → α) : ∀ (l : List α) (i : Nat) (p : α), l[i]? = some p → l.modify i f = l.set i (f p)
  | [], i, p, h => by simp at h
  | x :: l, 0, p, h => by simp at h; subst h; simp
  | x :: l, i + 1, p, h => by simp only [List.getElem?_cons_succ] at h; simp only [List.modify_succ_cons, List.set_cons_succ, modify_set f l i p h]
/-- a list stored into a node -/
theorem LyI.store {B D b : Nat} {d : Dr} {vn vp vm : Value} {l : List (Mn × Option Addr × Nat)} {f : ByteArray → Option Nat} {w : World} {nds : List Pn} {wr : World} {M : Nat} (h : LyI B D b d vn vp vm l f w nds wr M) (m : Mn) (hm : m.node < nds.length) (hk : m.kind = 0 ∨ m.kind = 1) (z : List Int) (a : Nat) (c : Nat) (hz : LsO B (a + 1) wr (some ⟨a, 0, none⟩, z.length, c) z) (hMa : M ≤ a) :
    ∃ g cap, vn = .slice (some ⟨g, 0, none⟩) nds.length cap ∧ LyI B D b d vn vp vm l f w (setEdge nds m z) (wr.setCell ⟨g, m.node * 10 + (8 + m.kind), none⟩ (.slice (some ⟨a, 0, none⟩) z.length c)) (a + 1) ∧ (∃ old, wr.cell? ⟨g, m.node * 10 + (8 + m.kind), none⟩ = some old) ∧ wr.frozen? ⟨g, m.node * 10 + (8 + m.kind), none⟩ = false := by
  obtain ⟨xs, h1, h2, h3, h4⟩ := h.nd
  have hx : xs.length = nds.length := by have := congrArg List.length h1; simpa using this
  rcases h2.2 with ⟨_, e2⟩ | ⟨g, cap, cur, e1, e2, e3, e4, e5, e6, e7⟩
  · omega
  · subst e1
    have h2n : wr.ownsRow B 32 10 (.slice (some ⟨g, 0, none⟩) xs.length cap) xs.length (flat (xs.map (·.q))) := h2
    obtain ⟨x, hxi⟩ : ∃ x, xs[m.node]? = some x := ⟨_, List.getElem?_eq_getElem (by omega)⟩
    obtain ⟨p, hpi⟩ : ∃ p, nds[m.node]? = some p := ⟨_, List.getElem?_eq_getElem hm⟩
    have hep : er x = no p := by
      have := congrArg (fun l => l[m.node]?) h1
      simp only [List.getElem?_map, hxi, hpi, Option.map_some, Option.some.injEq] at this
      exact this
    have kk := keep_cell wr g (m.node * 10 + (8 + m.kind)) (.slice (some ⟨a, 0, none⟩) z.length c)
    have hgt : ∀ {t : TypeId} {k : Nat} {cs : Array Value}, t ≠ 32 → wr.heap[k]? = some (.cells cs t (0, 0)) → k ≠ g := fun ht hc e => by
      subst e
      rw [e3] at hc
      injection hc with hc
      injection hc with _ hc
      exact ht hc.symm
    have hint : ∀ (k : Nat) (cur : Array Value), k = g → wr.heap[k]? ≠ some (.cells cur 3 (0, 0)) := fun k cur e hc => hgt (by decide) hc e
    have hstr : ∀ k, k = g → ¬ StrB wr k := fun k e => by subst e; exact not_strB e3 (by decide)
    obtain ⟨N, hmp⟩ := h.mp
    have hcell : wr.cell? ⟨g, m.node * 10 + (8 + m.kind), none⟩ ≠ none ∧ wr.frozen? ⟨g, m.node * 10 + (8 + m.kind), none⟩ = false := by
      refine ⟨?_, frozen_blk e3 _⟩
      have hj : (x.q.row)[8 + m.kind]? ≠ none := by rcases hk with e | e <;> rw [e] <;> simp [Gr.Nd.row]
      obtain ⟨u, hu⟩ := Option.ne_none_iff_exists'.1 hj
      have := flat_get (xs.map (·.q)) m.node (8 + m.kind) x.q u (by simp [hxi]) hu
      rw [← e7, List.getElem?_take] at this
      split at this
      · rw [cell_blk e3 _ (v := u) (by simpa using this)]; simp
      · cases this
    refine ⟨g, cap, by rw [hx], ⟨kk.blk h.blk (hgt (by decide) h.blk), ?_, own_keep h.pl kk fun k hk' e => ?_, own_keep h.ms kk fun k hk' e => ?_, fun y hy => (h.nm y hy).keep kk hstr, ⟨N, hmp.of_blk (kk.block b hmp.lt fun e => ?_)⟩, h.bel.trans (kk.below (by have := h.bel.size; have := (Array.getElem?_eq_some_iff.1 e3).1; omega) fun i e => by subst e; exact e2), fun ns => (edg_set nds m z ns).trans (h.ed ns), by rw [← h.len]; unfold setEdge; simp⟩, ?_, hcell.2⟩
    · -- the nodes
      obtain ⟨x', hx'⟩ : ∃ x' : Gr.No, x' = if m.kind = 0 then ⟨{ x.q with ne := (some ⟨a, 0, none⟩, z.length, c) }, z, x.al⟩ else ⟨{ x.q with af := (some ⟨a, 0, none⟩, z.length, c) }, x.nl, z⟩ := ⟨_, rfl⟩
      refine ⟨xs.set m.node x', ?_, ?_, ?_, ?_⟩
      · have e8 : er x' = no (if m.kind = 0 then { p with nl := z } else { p with al := z }) := by
          have a1 : x.q.nm = ba p.nm := congrArg (fun y : Gr.No => y.q.nm) hep
          have a2 : x.q.la = p.la := congrArg (fun y : Gr.No => y.q.la) hep
          have a3 : x.q.bu = p.bu := congrArg (fun y : Gr.No => y.q.bu) hep
          have a4 : x.q.cl = p.cl := congrArg (fun y : Gr.No => y.q.cl) hep
          have a5 : x.q.be = p.be := congrArg (fun y : Gr.No => y.q.be) hep
          have a6 : x.q.ba = p.bs := congrArg (fun y : Gr.No => y.q.ba) hep
          have a7 : x.q.ca = p.ca := congrArg (fun y : Gr.No => y.q.ca) hep
          have a8 : x.q.ji = p.ji := congrArg (fun y : Gr.No => y.q.ji) hep
          have a9 : x.nl = p.nl := congrArg (fun y : Gr.No => y.nl) hep
          have a10 : x.al = p.al := congrArg (fun y : Gr.No => y.al) hep
          rw [hx']
          rcases hk with e | e
          · rw [if_pos e, if_pos e]
            simp only [er, no, a1, a2, a3, a4, a5, a6, a7, a8, a10]
          · rw [if_neg (by omega), if_neg (by omega)]
            simp only [er, no, a1, a2, a3, a4, a5, a6, a7, a8, a9]
        unfold setEdge
        rw [List.map_set, e8, h1, modify_set _ nds m.node p hpi, List.map_set]
      · have hrow : x'.q.row = x.q.row.set (8 + m.kind) (.slice (some ⟨a, 0, none⟩) z.length c) := by
          rw [hx']
          rcases hk with e | e
          · rw [if_pos e, e]; rfl
          · rw [if_neg (by omega), e]; rfl
        have := own_set h2n (m.node * 10 + (8 + m.kind)) (.slice (some ⟨a, 0, none⟩) z.length c)
        rw [flat_set (xs.map (·.q)) m.node (8 + m.kind) x.q x'.q _ (by simp [hxi]) hrow (by omega)] at this
        rw [List.length_set, List.map_set]
        exact this
      · intro y hy
        have hz' : LsO B (a + 1) (wr.setCell ⟨g, m.node * 10 + (8 + m.kind), none⟩ (.slice (some ⟨a, 0, none⟩) z.length c)) (some ⟨a, 0, none⟩, z.length, c) z := hz.keep kk hint
        rcases List.mem_or_eq_of_mem_set hy with hy | rfl
        · exact ⟨((h3 y hy).1.keep kk hint).up (by omega), ((h3 y hy).2.keep kk hint).up (by omega)⟩
        · have hxm := h3 x (List.mem_of_getElem? hxi)
          rw [hx']
          rcases hk with e | e
          · rw [if_pos e]; exact ⟨hz', (hxm.2.keep kk hint).up (by omega)⟩
          · rw [if_neg (by omega)]; exact ⟨(hxm.1.keep kk hint).up (by omega), hz'⟩
      · have hM : ∀ y ∈ xs, ∀ l b, slB y l = some b → b < M := fun y hy l b hb => by
          cases l
          · exact (h3 y hy).1.2.2 b hb
          · exact (h3 y hy).2.2.2 b hb
        rcases hk with e | e
        · exact h4.set hxi false (g := a) (by rw [hx', if_pos e]; rfl) (by rw [hx', if_pos e]; rfl) hM hMa
        · exact h4.set hxi true (g := a) (by rw [hx', if_neg (by omega)]; rfl) (by rw [hx', if_neg (by omega)]; rfl) hM hMa
    · obtain ⟨_, _, cur', hc'⟩ := own_blk h.pl hk'
      exact hgt (by decide) hc' e
    · obtain ⟨_, _, cur', hc'⟩ := own_blk h.ms hk'
      exact hgt (by decide) hc' e
    · obtain ⟨DD, ⟨es, cc, hh1, _⟩, _⟩ := hmp
      rw [e, e3] at hh1
      cases hh1
    · cases hc : wr.cell? ⟨g, m.node * 10 + (8 + m.kind), none⟩ with
      | none => exact absurd hc hcell.1
      | some old => exact ⟨old, rfl⟩
end U
end Go.Proofs.YtfoahfgehmghcaaGreatDoor

/- Package source: layEdges: the walk. -/
namespace Go.Proofs.YtfoahfgehmghcaaGreatDoor
namespace U
open Go.RowKit

theorem risen_len (f : ByteArray → Option Nat) (ns : List (List UInt8)) : (risen f ns).length ≤ ns.length := by
  unfold risen
  refine Nat.le_trans (compact_len _) ?_
  rw [List.length_mergeSort, List.length_map]
  exact List.length_filterMap_le _ _
theorem layE_step (m : Mn) (r : List Mn) (nds : List Pn) : layE (m :: r) nds = match edg nds m.names with
    | none => .inl m.place
    | some l => layE r (setEdge nds m l) := by
  rw [layE]
  cases edg nds m.names <;> rfl
set_option maxRecDepth 100000 in
set_option maxHeartbeats 4000000 in
theorem layEdges_any (B D : Nat) (d : Dr) (w : World) (hD : DrAt B w D d) (hnl : d.nds.length ≤ 1000000) (hml : d.ms.length ≤ 1000000) (hms : ∀ m ∈ d.ms, MOk d.nds.length m) (hnn : ∀ x ∈ d.nds, NOk x) :
    Calls Tryz.prog 39 #[.pointer (some ⟨D, 0, none⟩)] w (LayEnd B D d (layE d.ms d.nds) w) := by
  generalize hR : layE d.ms d.nds = R
  have HR := hide hR
  clear hR
  obtain ⟨vn, vp, vm, h0, h1, h2, h3, l, hle, h4, h5⟩ := hD
  have hBs : B ≤ w.heap.size := by have := (Array.getElem?_eq_some_iff.1 h1).1; omega
  have hnd : NdsU B 0 w vn d.nds := by
    refine ⟨d.nds.map no, ?_, ?_, fun x hx => ?_, fun i j x y k l g hx _ hb _ => ?_⟩
    · rw [List.map_map]; rfl
    · rw [List.length_map, List.map_map]; exact h2
    · obtain ⟨p, hp, rfl⟩ := List.mem_map.1 hx
      obtain ⟨_, e1, e2⟩ := hnn p hp
      exact ⟨LsO.nil e1, LsO.nil e2⟩
    · rw [List.getElem?_map] at hx
      cases hp : d.nds[i]? with
      | none => rw [hp] at hx; cases hx
      | some p =>
        rw [hp] at hx
        injection hx with hx
        subst hx
        cases k <;> cases hb
  obtain ⟨va, vc, rfl⟩ := hnd.at_.len
  obtain ⟨ma, mc, rfl⟩ := own_shape h4
  obtain ⟨xs, hxs, hrp⟩ := hnd.at_.rd hnl
  have FB := hide (bearers_any (va, d.nds.length, vc) xs w.heap.size w hrp hnl (fun x hx => by
    have : er x ∈ xs.map er := List.mem_map_of_mem hx
    rw [hxs] at this
    obtain ⟨p, hp, he⟩ := List.mem_map.1 this
    have e1 : x.q.nm = ba p.nm := (congrArg (fun y : Gr.No => y.q.nm) he).symm
    rw [e1, ba_size]
    have := (hnn p hp).1
    unfold maxLen
    omega))
  rw [← idxB_er xs, hxs] at FB
  simp only at FB
  have c2 := cell_blk h1 2 (v := .slice va d.nds.length vc) rfl
  have c7 := cell_blk h1 7 (v := .slice ma l.length mc) rfl
  have HI0 : Hid (∀ w1 b N, Below w.heap.size w w1 → Gr.MapS w1 b N (idxB (d.nds.map no)) → LyI B D b d (.slice va d.nds.length vc) vp (.slice ma l.length mc) l (idxB (d.nds.map no)) w d.nds w1 0) := fun w1 b N k hm =>
    ⟨(k.block D (Array.getElem?_eq_some_iff.1 h1).1).trans h1, hnd.below k, own_below h3 k, own_below h4 k, fun x hx => (h5 x hx).1.below k, ⟨N, hm⟩, k.mono hBs, fun _ => rfl, rfl⟩
  have HMS := hide hms
  have HLE := hide hle
  have HED := hide (fun ns => edg_risen d.nds ns)
  generalize idxB (d.nds.map no) = f at *
  have H1 := hide h1
  generalize hnN : d.nds.length = nN at *
  have HNN := hide hnN
  generalize hlN : l.length = lN at *
  have HLN := hide hlN
  have hlb : lN ≤ 1000000 := by
    have e : l.length = d.ms.length := by rw [← HLE.out]; simp
    have := HLN.out
    omega
  clear h1 h2 h3 h4 h5 hnd hrp hxs hms hle hnn hnN hlN
  go_enter Tryz.func39, Tryz.ntmps39
  go_wp2_with fail
  go_at_call 68
  refine FB.out.mono ?_
  rintro e w1 ⟨b, rfl, mp1, bel1, _⟩
  have I1 := hide (HI0.out w1 b _ bel1 mp1)
  have HS1 := hide bel1.size
  clear mp1 bel1 FB HI0 c2 c7
  have c7 := cell_blk I1.out.blk 7 (v := .slice ma lN mc) rfl
  go_wp2_with fail
  go_loopw [20] (fun iv wr => ∃ (i : Nat) (nds : List Pn), iv = .int .i64 (i : Nat) ∧ i ≤ lN ∧ Hid (LyI B D b d (.slice va nN vc) vp (.slice ma lN mc) l f w nds wr wr.heap.size ∧ layE (d.ms.drop i) nds = R ∧ B ≤ wr.heap.size)) (fun iv _ => lN - (intOf iv).toNat)
  case atStart => exact ⟨0, d.nds, rfl, Nat.zero_le _, I1.out.up (Nat.zero_le _), HR.out, by have := HS1.out; omega⟩
  case round =>
    clear I1 c7
    obtain ⟨i, nds, rfl, hi, HI⟩ := hrel
    by_cases hlt : i < lN
    · obtain ⟨x, hx⟩ : ∃ x, l[i]? = some x := ⟨_, List.getElem?_eq_getElem (by have := HLN.out; omega)⟩
      have hms := HI.out.1.ms
      rw [← HLN.out] at hms
      obtain ⟨g, rfl, m0, m1, m2, m3⟩ := men_cells hms hx
      have hmx : d.ms[i]? = some x.1 := by rw [← HLE.out]; simp [hx]
      have hdr : d.ms.drop i = x.1 :: d.ms.drop (i + 1) := by
        obtain ⟨e1, e2⟩ := List.getElem?_eq_some_iff.1 hmx
        rw [List.drop_eq_getElem_cons e1, e2]
      have HST : Hid ((match edg nds x.1.names with | none => .inl x.1.place | some l => layE (d.ms.drop (i + 1)) (setEdge nds x.1 l)) = R) := by
        show _ = _
        rw [← HI.out.2.1, hdr, layE_step]
      have hmok := HMS.out x.1 (List.mem_of_getElem? hmx)
      have hrd := HI.out.1.nm x (List.mem_of_getElem? hx)
      have HEDx := hide (HI.out.1.ed x.1.names)
      rw [HED.out] at HEDx
      obtain ⟨⟨pl, nd, kd, ns⟩, na, nc⟩ := x
      simp only at *
      obtain ⟨o1, o2, o3, o4, o5⟩ := hmok
      have hbn : Below wr.heap.size wr (wr.alloc (.cells #[.int .i64 (pl : Int), .int .i64 (nd : Int), .int .i64 (kd : Int), .slice na ns.length nc] 131)) := (Below.refl _ wr).alloc (Nat.le_refl _) _
      have I2 := hide (HI.out.1.below hbn HI.out.2.2)
      have hblk := heap_alloc_new wr (.cells #[.int .i64 (pl : Int), .int .i64 (nd : Int), .int .i64 (kd : Int), .slice na ns.length nc] 131)
      obtain ⟨N, hmp⟩ := I2.out.mp
      have NO := hide (numbersOf_any na ns nc b N f _ (hrd.below hbn) o1 o2 o3 hmp)
      have HB2 := hide hblk
      have HZ2 : Hid (B ≤ (wr.alloc (.cells #[.int .i64 (pl : Int), .int .i64 (nd : Int), .int .i64 (kd : Int), .slice na ns.length nc] 131)).heap.size) := Nat.le_trans HI.out.2.2 hbn.size
      have q3 := cell_blk hblk 3 (v := .slice na ns.length nc) rfl
      have HO4 := hide o4
      have HO2 := hide o2
      have HO5 := hide o5
      clear hbn hblk hmp hrd hdr hmx hms hx o1 o2 o3 o4 o5 HI HMS
      go_upto_region 5 with fail
      generalize hwn : wr.alloc (.cells #[.int .i64 (pl : Int), .int .i64 (nd : Int), .int .i64 (kd : Int), .slice na ns.length nc] 131) = wn at *
      generalize hmb : wr.heap.size = mb at *
      clear hwn hmb m0 m1 m2 m3
      go_wp2_with fail
      go_at_call 69
      refine NO.out.mono ?_
      rintro e w3 ⟨bel3, hres⟩
      have I3 := hide (I2.out.below bel3 HZ2.out)
      have HB3 := hide ((bel3.block mb (Array.getElem?_eq_some_iff.1 HB2.out).1).trans HB2.out)
      have HZ3 := hide (Nat.le_trans HZ2.out bel3.size)
      have HRES := hide hres
      have HMB := hide (show mb < wn.heap.size from (Array.getElem?_eq_some_iff.1 HB2.out).1)
      clear bel3 hres NO I2 HB2 q3
      have q0 := cell_blk HB3.out 0 (v := .int .i64 (pl : Int)) rfl
      have q1 := cell_blk HB3.out 1 (v := .int .i64 (nd : Int)) rfl
      have q2 := cell_blk HB3.out 2 (v := .int .i64 (kd : Int)) rfl
      rcases HRES.out with ⟨ha, rfl⟩ | ⟨ha, g', cap', rfl, hown⟩
      · have hst := HST.out
        rw [HEDx.out, ha] at hst
        simp only [Bool.false_eq_true, if_false] at hst
        have HST2 := hide hst
        clear hst HST HEDx HRES ha
        go_wp2_with fail
        go_ret
        have hb := (Below.refl w3.heap.size w3).alloc (Nat.le_refl _) (.cells #[.int .i64 (pl : Int), .int .i64 112] 57)
        exact ⟨I3.out.bel.trans (hb.mono HZ3.out), .inl ⟨pl, _, HST2.out.symm, rfl, err_new w3 pl 112⟩⟩
      · have hst := HST.out
        rw [HEDx.out, ha] at hst
        simp only [if_true] at hst
        have HST2 := hide hst
        have hzl : (risen f ns).length ≤ 1000000 := Nat.le_trans (risen_len f ns) HO2.out
        generalize risen f ns = zs at *
        have hls : LsO B (g' + 1) w3 (some ⟨g', 0, none⟩, zs.length, cap') zs := ⟨hzl, ownsRow_base hown HZ2.out, fun g e => by cases e; exact Nat.lt_succ_self _⟩
        have hfr0 : mb ≤ g' := Nat.le_trans (Nat.le_of_lt HMB.out) (own_blk hown rfl).1
        have HFR := hide hfr0
        have HLS := hide hls
        have HZL := hide hzl
        obtain ⟨gn, capn, hvn, _, _, _⟩ := I3.out.store ⟨pl, nd, kd, ns⟩ (by rw [I3.out.len, HNN.out]; exact HO4.out) HO5.out zs g' cap' hls hfr0
        injection hvn with v1 v2 v3
        subst v1; subst v3
        have c2 := cell_blk I3.out.blk 2 (v := .slice (some ⟨gn, 0, none⟩) nN vc) rfl
        have n1 : (nd : Int) < (nN : Int) := by have := HO4.out; omega
        have n2 : (0 : Int) ≤ (nd : Int) := by omega
        clear hst HST HEDx HRES ha hown hls hzl v2 hfr0
        go_upto_region 8 with fail
        go_region
        have bd : Below w3.heap.size w3 w3.drew := (Below.refl _ w3).drew
        have I5 := hide (I3.out.below bd HZ3.out)
        have HLS5 := hide (HLS.out.below bd)
        have HZ5 : Hid (B ≤ w3.drew.heap.size) := HZ3.out
        obtain ⟨gn2, capn, hvn, I6, ⟨old, hold⟩, hfr⟩ := I5.out.store ⟨pl, nd, kd, ns⟩ (by rw [I5.out.len, HNN.out]; exact HO4.out) HO5.out zs g' cap' HLS5.out HFR.out
        injection hvn with v1
        injection v1 with v1
        injection v1 with v1
        subst v1
        have k2 := cell_blk ((bd.block mb (Array.getElem?_eq_some_iff.1 HB3.out).1).trans HB3.out) 2 (v := .int .i64 (kd : Int)) rfl
        clear bd I3 HLS HZ3 HB3 q0 q1 q2 c2 n1 n2
        simp only at I6 hold hfr
        have hz6 : ∀ (j : Nat) (u : Value), B ≤ (w3.drew.setCell ⟨gn, j, none⟩ u).heap.size := fun j u => by have := HZ5.out; simpa [World.setCell] using this
        have HZ6 := hide hz6
        have hz7 : ∀ (j : Nat) (u : Value), g' + 1 ≤ (w3.drew.setCell ⟨gn, j, none⟩ u).heap.size := fun j u => by
          have : g' < w3.drew.heap.size := (own_blk HLS5.out.2.1 rfl).2.1
          have e : (w3.drew.setCell ⟨gn, j, none⟩ u).heap.size = w3.drew.heap.size := by simp [World.setCell]
          omega
        have HZ7 := hide hz7
        clear hz7
        have I6H := hide I6
        clear hz6 I6
        generalize w3.drew = w4 at *
        rcases HO5.out with rfl | rfl
        · have hold' : w4.cell? ⟨gn, nd * 10 + 8, none⟩ = some old := hold
          have hfr' : w4.frozen? ⟨gn, nd * 10 + 8, none⟩ = false := hfr
          clear hold hfr
          go_wp2_with fail
          go_roundw
          · exact ⟨i + 1, _, by go_num, by omega, I6H.out.up (HZ7.out _ _), HST2.out, HZ6.out _ _⟩
          · show lN - ((i : Int) + 1).toNat < lN - (i : Int).toNat
            omega
        · have hold' : w4.cell? ⟨gn, nd * 10 + 9, none⟩ = some old := hold
          have hfr' : w4.frozen? ⟨gn, nd * 10 + 9, none⟩ = false := hfr
          clear hold hfr
          go_wp2_with fail
          go_roundw
          · exact ⟨i + 1, _, by go_num, by omega, I6H.out.up (HZ7.out _ _), HST2.out, HZ6.out _ _⟩
          · show lN - ((i : Int) + 1).toNat < lN - (i : Int).toNat
            omega
    · have hRn : R = .inr nds := by
        rw [← HI.out.2.1, List.drop_eq_nil_of_le (by rw [← HLE.out]; have := HLN.out; simp; omega)]
        rfl
      go_wp2_with fail
      go_ret
      exact ⟨HI.out.1.bel, .inr ⟨nds, _, _, _, hRn, HI.out.1.len, rfl, HI.out.1.blk, ⟨_, HI.out.1.nd⟩, HI.out.1.pl⟩⟩
end U
end Go.Proofs.YtfoahfgehmghcaaGreatDoor
