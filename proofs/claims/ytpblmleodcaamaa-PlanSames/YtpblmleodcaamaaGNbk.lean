/- A whole block of nodes of the call's own. -/
import Derived.Test.YtpblmleodcaamaaGRow
import Derived.Laws.MakeOwn
namespace Go.Proofs.Ytpblmleodcaamaa
namespace Gr
open Go.RowKit

def flat (qs : List Nd) : List Value := (qs.map Nd.row).flatten
theorem flat_length (qs : List Nd) : (flat qs).length = qs.length * 10 := by
  induction qs with
  | nil => rfl
  | cons q qs ih => simp only [flat, List.map_cons, List.flatten_cons, List.length_append] at ih ⊢; rw [ih]; simp [Nd.row]; omega
theorem flat_get (qs : List Nd) (i j : Nat) (q : Nd) (u : Value) (hq : qs[i]? = some q) (hu : q.row[j]? = some u) : (flat qs)[i * 10 + j]? = some u := by
  induction qs generalizing i with
  | nil => simp at hq
  | cons p qs ih =>
    have hl : ∀ q : Nd, q.row.length = 10 := fun q => rfl
    have e : flat (p :: qs) = p.row ++ flat qs := by simp [flat]
    have hj : j < 10 := by rw [← hl q]; exact (List.getElem?_eq_some_iff.1 hu).1
    rw [e]
    cases i with
    | zero =>
      simp only [List.getElem?_cons_zero, Option.some.injEq] at hq
      subst hq
      rw [Nat.zero_mul, Nat.zero_add, List.getElem?_append_left (by rw [hl]; omega)]
      exact hu
    | succ i =>
      simp only [List.getElem?_cons_succ] at hq
      rw [List.getElem?_append_right (by rw [hl]; omega), hl, show (i + 1) * 10 + j - 10 = i * 10 + j by omega]
      exact ih i hq
theorem info_node3 : (Try.prog.info? 44).map (fun i => (i.zero, i.size, i.bytes)) = some (some (.agg #[.string ⟨#[]⟩, .int .i64 0, .int .i64 0, .int .i64 0, .int .i64 0, .int .i64 0, .int .i64 0, .int .i64 0, .slice none 0 0, .slice none 0 0]), 10, 120) := by kernel_rfl
/-- a node of which nothing is said -/
def zN (lane : Int) : Nd := ⟨⟨#[]⟩, lane, 0, 0, 0, 0, 0, 0, (none, 0, 0), (none, 0, 0)⟩
/-- a whole block of nodes -/
def RowsAt (w : World) (B : Nat) (rs : List Nd) : Prop := ∃ cur, w.heap[B]? = some (.cells cur 44 (0, 0)) ∧ cur.toList = flat rs
theorem RowsAt.keep {w w' : World} {B : Nat} {rs : List Nd} (h : RowsAt w B rs) (hb : w'.heap[B]? = w.heap[B]?) : RowsAt w' B rs := by
  obtain ⟨cur, h1, h2⟩ := h
  exact ⟨cur, hb.trans h1, h2⟩
theorem RowsAt.lt {w : World} {B : Nat} {rs : List Nd} (h : RowsAt w B rs) : B < w.heap.size := by
  obtain ⟨cur, h1, _⟩ := h
  exact (Array.getElem?_eq_some_iff.1 h1).1
theorem RowsAt.new {w w' : World} {B : Nat} {rs : List Nd} (h : RowsAt w B rs) {S : Nat → Prop} (k : Keep S w w') (hS : ¬ S B) : RowsAt w' B rs := h.keep (k.block B h.lt hS)
theorem RowsAt.node {w : World} {B : Nat} {rs : List Nd} (h : RowsAt w B rs) (i : Nat) (q : Nd) (hq : rs[i]? = some q) : NodeAt w B (i * 10) q := by
  obtain ⟨cur, h1, h2⟩ := h
  intro j u hu
  refine cell_blk h1 _ ?_
  have := flat_get rs i j q u hq hu
  rw [← h2] at this
  simpa using this
theorem RowsAt.froz {w : World} {B : Nat} {rs : List Nd} (h : RowsAt w B rs) (j : Nat) : w.frozen? ⟨B, j, none⟩ = false := by
  obtain ⟨cur, h1, _⟩ := h
  exact frozen_blk h1 j
theorem flat_made (k : Nat) : (madeCells (zN 0).row.toArray (k * 10)).toList = flat (List.replicate k (zN 0)) := by
  apply List.ext_getElem?
  intro j
  by_cases hj : j < k * 10
  · have e : j = j / 10 * 10 + j % 10 := by omega
    have hz : (zN 0).row[j % 10]? = some ((zN 0).row[j % 10]'(by show j % 10 < 10; omega)) := List.getElem?_eq_getElem _
    have := flat_get (List.replicate k (zN 0)) (j / 10) (j % 10) (zN 0) _ (by rw [List.getElem?_replicate, if_pos (by omega)]) hz
    rw [← e] at this
    rw [this]
    simp [madeCells, hj, Nd.row]
    rw [List.getElem?_eq_getElem (by show j % 10 < 10; omega)]
    rfl
  · rw [List.getElem?_eq_none (by simp [madeCells]; omega), List.getElem?_eq_none (by rw [flat_length]; simp; omega)]
theorem made_nodes (u : World) (n : Nat) (hn : n ≤ 20000) : (Instr.makeSlice 22 (.int .i64 ((n : Nat) + 3)) (.int .i64 ((n : Nat) + 3))).run Try.prog u = .ok (.slice (some ⟨u.heap.size, 0, none⟩) (n + 3) (n + 3)) (u.alloc (.cells (madeCells (zN 0).row.toArray ((n + 3) * 10)) 44)) := by
  have hi := info_node3
  rcases hi0 : Try.prog.info? 44 with _ | i0
  · rw [hi0] at hi; cases hi
  · rw [hi0] at hi
    simp only [Option.map_some, Option.some.injEq, Prod.mk.injEq] at hi
    obtain ⟨hz, hs, hby⟩ := hi
    have h := run_make (P := Try.prog) (w := u) 22 44 i0 _ Try.underlying22 hi0 hz .i64 .i64 ((n : Int) + 3) ((n : Int) + 3) (by omega) (Int.le_refl _) (by rw [hby]; omega) (by omega)
    have e : ((n : Int) + 3).toNat = n + 3 := by omega
    rw [e, hs] at h
    exact h

/-- a row of values stored one behind the other -/
def putR (w : World) (B o : Nat) : List Value → World
  | [] => w
  | v :: vs => putR (w.setCell ⟨B, o, none⟩ v) B (o + 1) vs
def setR (L : List Value) (o : Nat) : List Value → List Value
  | [] => L
  | v :: vs => setR (L.set o v) (o + 1) vs
theorem setR_get (r : List Value) : ∀ (L : List Value) (o j : Nat), o + r.length ≤ L.length → (setR L o r)[j]? = if o ≤ j ∧ j < o + r.length then r[j - o]? else L[j]? := by
  induction r with
  | nil => intro L o j _; rw [if_neg (by simp only [List.length_nil]; omega)]; rfl
  | cons v r ih =>
    intro L o j h
    simp only [List.length_cons] at h ⊢
    rw [setR, ih (L.set o v) (o + 1) j (by simp; omega)]
    by_cases h1 : o + 1 ≤ j ∧ j < o + 1 + r.length
    · rw [if_pos h1, if_pos (by omega), show j - o = (j - (o + 1)) + 1 by omega, List.getElem?_cons_succ]
    · rw [if_neg h1]
      by_cases h2 : j = o
      · subst h2
        rw [if_pos (by omega), Nat.sub_self, List.getElem?_cons_zero, List.getElem?_set_self (by omega)]
      · rw [if_neg (by omega), List.getElem?_set_ne (by omega)]
theorem setR_length (r : List Value) : ∀ (L : List Value) (o : Nat), (setR L o r).length = L.length := by
  induction r with
  | nil => intro L o; rfl
  | cons v r ih => intro L o; rw [setR, ih]; simp
theorem flat_set (rs : List Nd) (i : Nat) (q : Nd) (hi : i < rs.length) : setR (flat rs) (i * 10) q.row = flat (rs.set i q) := by
  have hq : q.row.length = 10 := rfl
  apply List.ext_getElem?
  intro j
  rw [setR_get _ _ _ _ (by rw [flat_length, hq]; omega), hq]
  by_cases hj : j < rs.length * 10
  · have e : j = j / 10 * 10 + j % 10 := by omega
    by_cases h : j / 10 = i
    · rw [if_pos (by omega)]
      have hr : q.row[j % 10]? = some (q.row[j % 10]'(by rw [hq]; omega)) := List.getElem?_eq_getElem _
      have := flat_get (rs.set i q) (j / 10) (j % 10) q _ (by rw [h]; exact List.getElem?_set_self hi) hr
      rw [← e] at this
      rw [this, show j - i * 10 = j % 10 by omega, hr]
    · rw [if_neg (by omega)]
      have hp : rs[j / 10]? = some (rs[j / 10]'(by omega)) := List.getElem?_eq_getElem _
      have hr : (rs[j / 10]'(by omega)).row[j % 10]? = some ((rs[j / 10]'(by omega)).row[j % 10]'(by show j % 10 < 10; omega)) := List.getElem?_eq_getElem _
      have a1 := flat_get rs (j / 10) (j % 10) _ _ hp hr
      have a2 := flat_get (rs.set i q) (j / 10) (j % 10) _ _ (by rw [List.getElem?_set_ne (by omega)]; exact hp) hr
      rw [← e] at a1 a2
      rw [a1, a2]
  · rw [if_neg (by omega), List.getElem?_eq_none (by rw [flat_length]; omega), List.getElem?_eq_none (by rw [flat_length]; simp; omega)]
theorem putR_blk (B : Nat) (t : TypeId) (r : List Value) : ∀ (w : World) (o : Nat) (cur : Array Value), w.heap[B]? = some (.cells cur t (0, 0)) → ∃ cur', (putR w B o r).heap[B]? = some (.cells cur' t (0, 0)) ∧ cur'.toList = setR cur.toList o r := by
  induction r with
  | nil => intro w o cur h; exact ⟨cur, h, rfl⟩
  | cons v r ih =>
    intro w o cur h
    obtain ⟨cur', h1, h2⟩ := ih (w.setCell ⟨B, o, none⟩ v) (o + 1) (cur.setIfInBounds o v) (set_blk h o v)
    exact ⟨cur', h1, by rw [h2, setR]; simp⟩
theorem putR_other (B : Nat) (r : List Value) : ∀ (w : World) (o : Nat), (∀ k, k ≠ B → (putR w B o r).heap[k]? = w.heap[k]?) ∧ (putR w B o r).heap.size = w.heap.size ∧ ∀ B0, B0 ≤ B → Below B0 w (putR w B o r) := by
  induction r with
  | nil => intro w o; exact ⟨fun _ _ => rfl, rfl, fun _ _ => Below.refl _ _⟩
  | cons v r ih =>
    intro w o
    obtain ⟨h1, h2, h3⟩ := ih (w.setCell ⟨B, o, none⟩ v) (o + 1)
    refine ⟨fun k hk => (h1 k hk).trans (Below.heap_setCell _ _ _ _ hk), h2.trans (by simp [World.setCell]), fun B0 hB => ((Below.refl B0 w).setCell (p := ⟨B, o, none⟩) hB v).trans (h3 B0 hB)⟩
/-- a node stored into a block of nodes -/
theorem RowsAt.put {w : World} {B : Nat} {rs : List Nd} (h : RowsAt w B rs) (i : Nat) (q : Nd) (hi : i < rs.length) : RowsAt (putR w B (i * 10) q.row) B (rs.set i q) := by
  obtain ⟨cur, h1, h2⟩ := h
  obtain ⟨cur', h3, h4⟩ := putR_blk B _ q.row w (i * 10) cur h1
  exact ⟨cur', h3, by rw [h4, h2, flat_set rs i q hi]⟩
theorem flat_set1 (rs : List Nd) (i j : Nat) (q q' : Nd) (v : Value) (hq : rs[i]? = some q) (hj : j < 10) (hr : q'.row = q.row.set j v) : (flat rs).set (i * 10 + j) v = flat (rs.set i q') := by
  have hi : i < rs.length := (List.getElem?_eq_some_iff.1 hq).1
  have hl : q'.row.length = 10 := rfl
  have hl2 : q.row.length = 10 := rfl
  rw [← flat_set rs i q' hi]
  apply List.ext_getElem?
  intro m
  rw [setR_get _ _ _ _ (by rw [flat_length, hl]; omega), hl, List.getElem?_set, flat_length]
  by_cases h : i * 10 ≤ m ∧ m < i * 10 + 10
  · rw [if_pos h, hr, List.getElem?_set, hl2]
    by_cases e : i * 10 + j = m
    · rw [if_pos e, if_pos (by omega), if_pos (by omega), if_pos (by omega)]
    · rw [if_neg e, if_neg (by omega)]
      have hx : q.row[m - i * 10]? = some (q.row[m - i * 10]'(by rw [hl2]; omega)) := List.getElem?_eq_getElem _
      have := flat_get rs i (m - i * 10) q _ hq hx
      rw [show i * 10 + (m - i * 10) = m by omega] at this
      rw [this, hx]
  · rw [if_neg h, if_neg (by omega)]
/-- one number of a node stored into a block of nodes -/
theorem RowsAt.set1 {w : World} {B : Nat} {rs : List Nd} (h : RowsAt w B rs) {i : Nat} {q : Nd} (hq : rs[i]? = some q) (j : Nat) (hj : j < 10) (q' : Nd) (v : Value) (hr : q'.row = q.row.set j v) : RowsAt (w.setCell ⟨B, i * 10 + j, none⟩ v) B (rs.set i q') := by
  obtain ⟨cur, h1, h2⟩ := h
  exact ⟨_, set_blk h1 _ v, by rw [← flat_set1 rs i j q q' v hq hj hr, ← h2]; simp⟩
end Gr
end Go.Proofs.Ytpblmleodcaamaa
