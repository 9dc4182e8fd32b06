/- Package source: edges laid: the mathematics, and nodes with their lists in memory. -/
import Derived.Test.YtnhmmplheihojaaGreatDoorUNof
import Derived.Test.YtnhmmplheihojaaGreatDoorURdl
namespace Go.Proofs.YtnhmmplheihojaaGreatDoor
namespace U
open Go.RowKit

theorem idxB_no (nds : List Pn) (n : List UInt8) : idxB (nds.map no) (ba n) = idx nds n := by
  unfold idxB idx
  rw [List.findIdx?_map]
  congr 1
  funext x
  show decide (ba x.nm = ba n) = (x.nm == n)
  rw [Bool.eq_iff_iff]
  simp [ba_eq]
theorem risen_edg (nds : List Pn) (ns : List (List UInt8)) : risen (idxB (nds.map no)) ns = ((List.range nds.length).filter fun i => ns.any fun n => idx nds n == some i).map fun (i : Nat) => (i : Int) := by
  unfold risen
  refine edg_sort nds ns _ ?_
  congr 2
  unfold nums
  congr 1
  funext n
  exact idxB_no nds n
theorem edg_risen (nds : List Pn) (ns : List (List UInt8)) : edg nds ns = if ns.all (fun n => (idxB (nds.map no) (ba n)).isSome) = true then some (risen (idxB (nds.map no)) ns) else none := by
  unfold edg
  rw [risen_edg]
  have : (fun n => (idxB (nds.map no) (ba n)).isSome) = fun n => (idx nds n).isSome := by funext n; rw [idxB_no]
  rw [this]
/-- edges do not turn names -/
theorem idx_set (nds : List Pn) (m : Mn) (l : List Int) (n : List UInt8) : idx (setEdge nds m l) n = idx nds n := by
  unfold idx setEdge
  have h : ∀ (xs : List Pn) (k : Nat), (xs.modify k fun x => if m.kind = 0 then { x with nl := l } else { x with al := l }).map (·.nm) = xs.map (·.nm) := by
    intro xs
    induction xs with
    | nil => intro k; simp
    | cons x xs ih =>
      intro k
      cases k with
      | zero => simp only [List.modify_zero_cons, List.map_cons]; split <;> rfl
      | succ k => simp only [List.modify_succ_cons, List.map_cons, ih k]
  have e : ∀ (xs : List Pn), List.findIdx? (fun x => x.nm == n) xs = List.findIdx? (fun y => y == n) (xs.map (·.nm)) := by
    intro xs
    rw [List.findIdx?_map]
    rfl
  rw [e, e, h]
theorem edg_set (nds : List Pn) (m : Mn) (l : List Int) (ns : List (List UInt8)) : edg (setEdge nds m l) ns = edg nds ns := by
  unfold edg
  have h1 : ∀ n, idx (setEdge nds m l) n = idx nds n := idx_set nds m l
  simp only [h1]
  have h2 : (setEdge nds m l).length = nds.length := by unfold setEdge; simp
  rw [h2]

/-- a node without its places in memory -/
def er (x : Gr.No) : Gr.No := ⟨{ x.q with ne := (none, 0, 0), af := (none, 0, 0) }, x.nl, x.al⟩
/-- a list of numbers in a block of its own -/
def LsI (w : World) (s : Option Addr × Nat × Nat) (z : List Int) : Prop :=
  s.2.1 = z.length ∧ z.length ≤ 1000000 ∧ (z = [] ∨ ∃ g, s.1 = some ⟨g, 0, none⟩ ∧ ∃ cur : Array Value, w.heap[g]? = some (.cells cur 3 (0, 0)) ∧ ∀ (j : Nat) (x : Int), z[j]? = some x → cur[j]? = some (Value.int .i64 x))
theorem LsI.keep {w w' : World} {s : Option Addr × Nat × Nat} {z : List Int} (h : LsI w s z) {S : Nat → Prop} (k : Keep S w w') (hS : ∀ g cur, S g → w.heap[g]? ≠ some (.cells cur 3 (0, 0))) : LsI w' s z := by
  obtain ⟨h1, h2, h3⟩ := h
  refine ⟨h1, h2, ?_⟩
  rcases h3 with h3 | ⟨g, e, cur, hb, hc⟩
  · exact .inl h3
  · exact .inr ⟨g, e, cur, k.blk hb (fun s => hS g cur s hb), hc⟩
theorem LsI.below {w w' : World} {s : Option Addr × Nat × Nat} {z : List Int} (h : LsI w s z) (k : Below w.heap.size w w') : LsI w' s z :=
  h.keep (Keep.ofBelow (S := fun _ => False) k (Nat.le_refl _)) (fun _ _ f => f.elim)
theorem LsI.rd {w : World} {s : Option Addr × Nat × Nat} {z : List Int} (h : LsI w s z) : Gr.RdZ w.heap.size w s z := by
  obtain ⟨h1, h2, h3⟩ := h
  refine ⟨h1, by omega, ?_⟩
  rcases h3 with rfl | ⟨g, e, cur, hb, hc⟩
  · exact .inl h1
  · exact .inr ⟨g, 0, e, (Array.getElem?_eq_some_iff.1 hb).1, fun j x hx => by rw [Nat.zero_add]; exact cell_blk hb j (hc j x hx)⟩
/-- nodes in memory, with their lists -/
def NdsAt (B : Nat) (w : World) (vn : Value) (nds : List Pn) : Prop :=
  ∃ xs : List Gr.No, xs.map er = nds.map no ∧ w.ownsRow B 35 10 vn xs.length (flat (xs.map (·.q))) ∧ ∀ x ∈ xs, LsI w x.q.ne x.nl ∧ LsI w x.q.af x.al
theorem NdsAt.below {B : Nat} {w w' : World} {vn : Value} {nds : List Pn} (h : NdsAt B w vn nds) (k : Below w.heap.size w w') : NdsAt B w' vn nds := by
  obtain ⟨xs, h1, h2, h3⟩ := h
  exact ⟨xs, h1, own_below h2 k, fun x hx => ⟨(h3 x hx).1.below k, (h3 x hx).2.below k⟩⟩
theorem NdsAt.len {B : Nat} {w : World} {vn : Value} {nds : List Pn} (h : NdsAt B w vn nds) : ∃ a c, vn = .slice a nds.length c := by
  obtain ⟨xs, h1, h2, _⟩ := h
  obtain ⟨a, c, e⟩ := own_shape h2
  have := congrArg List.length h1
  simp at this
  exact ⟨a, c, by rw [e, this]⟩
theorem NdsAt.rd {B : Nat} {w : World} {a : Option Addr} {n c : Nat} {nds : List Pn} (h : NdsAt B w (.slice a n c) nds) (hl : nds.length ≤ 1000000) : ∃ xs : List Gr.No, xs.map er = nds.map no ∧ Gr.RdP w.heap.size w (a, n, c) xs := by
  obtain ⟨xs, h1, h2, h3⟩ := h
  refine ⟨xs, h1, ?_⟩
  have hx : xs.length = nds.length := by have := congrArg List.length h1; simpa using this
  obtain ⟨a', c', e⟩ := own_shape h2
  injection e with e1 e2 e3
  subst e1; subst e2; subst e3
  refine ⟨rfl, by simp only; omega, ?_, fun x hx => ⟨(h3 x hx).1.rd, (h3 x hx).2.rd⟩⟩
  rcases h2.2 with ⟨e1, e2⟩ | ⟨g, cap, cur, e1, e2, e3, e4, e5, e6, e7⟩
  · left; exact e2
  · right
    injection e1 with e1 e1' e1''
    refine ⟨g, 0, e1, (Array.getElem?_eq_some_iff.1 e3).1, fun i x hx j u hu => ?_⟩
    have := flat_get (xs.map (·.q)) i j x.q u (by simp [hx]) hu
    rw [← e7, List.getElem?_take] at this
    split at this
    · rw [Nat.zero_add]; exact cell_blk e3 _ (by simpa using this)
    · cases this
/-- a cell of a row of one's own -/
theorem own_set {w : World} {b : Nat} {e : TypeId} {s g n cap : Nat} {xs : List Value} (h : w.ownsRow b e s (.slice (some ⟨g, 0, none⟩) n cap) n xs) (j : Nat) (v : Value) : (w.setCell ⟨g, j, none⟩ v).ownsRow b e s (.slice (some ⟨g, 0, none⟩) n cap) n (xs.set j v) := by
  have hl := h.1
  rcases h.2 with ⟨h0, _⟩ | ⟨g', cap', cur, hv, h1, h2, h3, h4, h5, h6⟩
  · cases h0
  · cases hv
    refine ⟨by simpa using hl, .inr ⟨g, cap, cur.setIfInBounds j v, rfl, h1, set_blk h2 j v, h3, h4, by simpa using h5, ?_⟩⟩
    rw [Array.toList_setIfInBounds, List.take_set, h6]
theorem flat_set (qs : List Gr.Nd) (i j : Nat) (q q' : Gr.Nd) (v : Value) (hq : qs[i]? = some q) (hr : q'.row = q.row.set j v) (hj : j < 10) : (flat qs).set (i * 10 + j) v = flat (qs.set i q') := by
  induction qs generalizing i with
  | nil => simp at hq
  | cons p qs ih =>
    have hl : ∀ q : Gr.Nd, q.row.length = 10 := fun q => rfl
    have e : ∀ p qs, flat (p :: qs) = p.row ++ flat qs := fun p qs => by simp [flat]
    rw [e]
    cases i with
    | zero =>
      simp only [List.getElem?_cons_zero, Option.some.injEq] at hq
      subst hq
      rw [List.set_cons_zero, e, hr, Nat.zero_mul, Nat.zero_add, List.set_append_left _ _ (by rw [hl]; exact hj)]
    | succ i =>
      simp only [List.getElem?_cons_succ] at hq
      rw [List.set_cons_succ, e, List.set_append_right _ _ (by rw [hl]; omega), hl, show (i + 1) * 10 + j - 10 = i * 10 + j by omega, ih i hq]
end U
end Go.Proofs.YtnhmmplheihojaaGreatDoor
