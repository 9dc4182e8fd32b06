/- A node stored into a block of nodes. -/
import Derived.Test.YtfnndnceaddhgaaVOwn
import Derived.Laws.MakeOwn
namespace Go.Proofs.Ytfnndnceaddhgaa
open Go.RowKit

/-- a node of which nothing is said -/
def V.zN (lane : Int) : V.Nd := ⟨⟨#[]⟩, lane, 0, 0, 0, 0, 0, 0, (none, 0, 0), (none, 0, 0)⟩
/-- a whole block of nodes -/
def RowsAt (w : World) (B : Nat) (rs : List V.Nd) : Prop := ∃ cur, w.heap[B]? = some (.cells cur 31 (0, 0)) ∧ cur.toList = V.flat rs
theorem RowsAt.keep {w w' : World} {B : Nat} {rs : List V.Nd} (h : RowsAt w B rs) (hb : w'.heap[B]? = w.heap[B]?) : RowsAt w' B rs := by
  obtain ⟨cur, h1, h2⟩ := h
  exact ⟨cur, hb.trans h1, h2⟩
theorem RowsAt.lt {w : World} {B : Nat} {rs : List V.Nd} (h : RowsAt w B rs) : B < w.heap.size := by
  obtain ⟨cur, h1, _⟩ := h
  exact (Array.getElem?_eq_some_iff.1 h1).1
theorem RowsAt.below {w w' : World} {B : Nat} {rs : List V.Nd} (h : RowsAt w B rs) (hb : Below w.heap.size w w') : RowsAt w' B rs := h.keep (hb.block B h.lt)
theorem RowsAt.node {w : World} {B : Nat} {rs : List V.Nd} (h : RowsAt w B rs) (i : Nat) (q : V.Nd) (hq : rs[i]? = some q) : NodeAt w B (i * 10) q := by
  obtain ⟨cur, h1, h2⟩ := h
  refine ⟨fun j u hu => cell_blk h1 _ ?_, (Array.getElem?_eq_some_iff.1 h1).1⟩
  have := flat_get rs i j q u hq hu
  rw [← h2] at this
  simpa using this
theorem RowsAt.froz {w : World} {B : Nat} {rs : List V.Nd} (h : RowsAt w B rs) (j : Nat) : w.frozen? ⟨B, j, none⟩ = false := by
  obtain ⟨cur, h1, _⟩ := h
  exact frozen_blk h1 j
/-- a part from the front, read -/
theorem RowsAt.rd {w : World} {B : Nat} {rs : List V.Nd} (h : RowsAt w B rs) (qs : List V.Nd) (hp : qs <+: rs) (hin : ∀ q ∈ qs, V.Nd.In q) (hl : qs.length ≤ 9223372036854775806) : RdN w (some ⟨B, 0, none⟩) qs.length qs := by
  refine ⟨rfl, hl, hin, .inr ⟨B, 0, rfl, h.lt, fun i q hq => ?_⟩⟩
  have := h.node i q (by
    obtain ⟨t, rfl⟩ := hp
    rw [List.getElem?_append_left (List.getElem?_eq_some_iff.1 hq).1]; exact hq)
  rw [Nat.zero_add]; exact this
theorem flat_made (k : Nat) : (madeCells (V.zN 0).row.toArray (k * 10)).toList = V.flat (List.replicate k (V.zN 0)) := by
  apply List.ext_getElem?
  intro j
  by_cases hj : j < k * 10
  · have e : j = j / 10 * 10 + j % 10 := by omega
    have hz : (V.zN 0).row[j % 10]? = some ((V.zN 0).row[j % 10]'(by show j % 10 < 10; omega)) := List.getElem?_eq_getElem _
    have := flat_get (List.replicate k (V.zN 0)) (j / 10) (j % 10) (V.zN 0) _ (by rw [List.getElem?_replicate, if_pos (by omega)]) hz
    rw [← e] at this
    rw [this]
    simp [madeCells, hj, V.Nd.row]
    rw [List.getElem?_eq_getElem (by show j % 10 < 10; omega)]
    rfl
  · rw [List.getElem?_eq_none (by simp [madeCells]; omega), List.getElem?_eq_none (by rw [flat_length]; simp; omega)]
theorem made_nodes (u : World) (n : Nat) (hn : n ≤ 1172812402926) : (Instr.makeSlice 32 (.int .i64 ((n : Nat) + 2)) (.int .i64 ((n : Nat) + 2))).run Try.prog u = .ok (.slice (some ⟨u.heap.size, 0, none⟩) (n + 2) (n + 2)) (u.alloc (.cells (madeCells (V.zN 0).row.toArray ((n + 2) * 10)) 31)) := by
  have hi := info_node
  rcases hi0 : Try.prog.info? 31 with _ | i0
  · rw [hi0] at hi; cases hi
  · rw [hi0] at hi
    simp only [Option.map_some, Option.some.injEq, Prod.mk.injEq] at hi
    obtain ⟨hz, hs, hby⟩ := hi
    have h := run_make (P := Try.prog) (w := u) 32 31 i0 _ Try.underlying32 hi0 hz .i64 .i64 ((n : Int) + 2) ((n : Int) + 2) (by omega) (Int.le_refl _) (by rw [hby]; omega) (by omega)
    have e : ((n : Int) + 2).toNat = n + 2 := by omega
    rw [e, hs] at h
    exact h

/-- a row of values stored one behind the other -/
def putR (w : World) (B o : Nat) : List Value → World
  | [] => w
  | v :: vs => putR (w.setCell ⟨B, o, none⟩ v) B (o + 1) vs
def setR (L : List Value) (o : Nat) : List Value → List Value
  | [] => L
  | v :: vs => setR (L.set o v) (o + 1) vs
theorem setR_get (r : List Value) : ∀ (L : List Value) (o j : Nat), o + r.length ≤ L.length → (setR L o r)[j]? = if o ≤ j ∧ j < o + r.length then r[j - o]? else L[j]? := by
  induction r with
  | nil => intro L o j _; rw [if_neg (by simp only [List.length_nil]; omega)]; rfl
  | cons v r ih =>
    intro L o j h
    simp only [List.length_cons] at h ⊢
    rw [setR, ih (L.set o v) (o + 1) j (by simp; omega)]
    by_cases h1 : o + 1 ≤ j ∧ j < o + 1 + r.length
    · rw [if_pos h1, if_pos (by omega), show j - o = (j - (o + 1)) + 1 by omega, List.getElem?_cons_succ]
    · rw [if_neg h1]
      by_cases h2 : j = o
      · subst h2
        rw [if_pos (by omega), Nat.sub_self, List.getElem?_cons_zero, List.getElem?_set_self (by omega)]
      · rw [if_neg (by omega), List.getElem?_set_ne (by omega)]
theorem setR_length (r : List Value) : ∀ (L : List Value) (o : Nat), (setR L o r).length = L.length := by
  induction r with
  | nil => intro L o; rfl
  | cons v r ih => intro L o; rw [setR, ih]; simp
theorem flat_set (rs : List V.Nd) (i : Nat) (q : V.Nd) (hi : i < rs.length) : setR (V.flat rs) (i * 10) q.row = V.flat (rs.set i q) := by
  have hq : q.row.length = 10 := rfl
  apply List.ext_getElem?
  intro j
  rw [setR_get _ _ _ _ (by rw [flat_length, hq]; omega), hq]
  by_cases hj : j < rs.length * 10
  · have e : j = j / 10 * 10 + j % 10 := by omega
    by_cases h : j / 10 = i
    · rw [if_pos (by omega)]
      have hr : q.row[j % 10]? = some (q.row[j % 10]'(by rw [hq]; omega)) := List.getElem?_eq_getElem _
      have := flat_get (rs.set i q) (j / 10) (j % 10) q _ (by rw [h]; exact List.getElem?_set_self hi) hr
      rw [← e] at this
      rw [this, show j - i * 10 = j % 10 by omega, hr]
    · rw [if_neg (by omega)]
      have hp : rs[j / 10]? = some (rs[j / 10]'(by omega)) := List.getElem?_eq_getElem _
      have hr : (rs[j / 10]'(by omega)).row[j % 10]? = some ((rs[j / 10]'(by omega)).row[j % 10]'(by show j % 10 < 10; omega)) := List.getElem?_eq_getElem _
      have a1 := flat_get rs (j / 10) (j % 10) _ _ hp hr
      have a2 := flat_get (rs.set i q) (j / 10) (j % 10) _ _ (by rw [List.getElem?_set_ne (by omega)]; exact hp) hr
      rw [← e] at a1 a2
      rw [a1, a2]
  · rw [if_neg (by omega), List.getElem?_eq_none (by rw [flat_length]; omega), List.getElem?_eq_none (by rw [flat_length]; simp; omega)]
theorem putR_blk (B : Nat) (t : TypeId) (r : List Value) : ∀ (w : World) (o : Nat) (cur : Array Value), w.heap[B]? = some (.cells cur t (0, 0)) → ∃ cur', (putR w B o r).heap[B]? = some (.cells cur' t (0, 0)) ∧ cur'.toList = setR cur.toList o r := by
  induction r with
  | nil => intro w o cur h; exact ⟨cur, h, rfl⟩
  | cons v r ih =>
    intro w o cur h
    obtain ⟨cur', h1, h2⟩ := ih (w.setCell ⟨B, o, none⟩ v) (o + 1) (cur.setIfInBounds o v) (set_blk h o v)
    exact ⟨cur', h1, by rw [h2, setR]; simp⟩
theorem putR_other (B : Nat) (r : List Value) : ∀ (w : World) (o : Nat), (∀ k, k ≠ B → (putR w B o r).heap[k]? = w.heap[k]?) ∧ (putR w B o r).heap.size = w.heap.size ∧ ∀ B0, B0 ≤ B → Below B0 w (putR w B o r) := by
  induction r with
  | nil => intro w o; exact ⟨fun _ _ => rfl, rfl, fun _ _ => Below.refl _ _⟩
  | cons v r ih =>
    intro w o
    obtain ⟨h1, h2, h3⟩ := ih (w.setCell ⟨B, o, none⟩ v) (o + 1)
    refine ⟨fun k hk => (h1 k hk).trans (Below.heap_setCell _ _ _ _ hk), h2.trans (by simp [World.setCell]), fun B0 hB => ((Below.refl B0 w).setCell (p := ⟨B, o, none⟩) hB v).trans (h3 B0 hB)⟩
/-- a node stored into a block of nodes -/
theorem RowsAt.put {w : World} {B : Nat} {rs : List V.Nd} (h : RowsAt w B rs) (i : Nat) (q : V.Nd) (hi : i < rs.length) : RowsAt (putR w B (i * 10) q.row) B (rs.set i q) := by
  obtain ⟨cur, h1, h2⟩ := h
  obtain ⟨cur', h3, h4⟩ := putR_blk B _ q.row w (i * 10) cur h1
  exact ⟨cur', h3, by rw [h4, h2, flat_set rs i q hi]⟩
theorem flat_set1 (rs : List V.Nd) (i j : Nat) (q q' : V.Nd) (v : Value) (hq : rs[i]? = some q) (hj : j < 10) (hr : q'.row = q.row.set j v) : (V.flat rs).set (i * 10 + j) v = V.flat (rs.set i q') := by
  have hi : i < rs.length := (List.getElem?_eq_some_iff.1 hq).1
  have hl : q'.row.length = 10 := rfl
  have hl2 : q.row.length = 10 := rfl
  rw [← flat_set rs i q' hi]
  apply List.ext_getElem?
  intro m
  rw [setR_get _ _ _ _ (by rw [flat_length, hl]; omega), hl, List.getElem?_set, flat_length]
  by_cases h : i * 10 ≤ m ∧ m < i * 10 + 10
  · rw [if_pos h, hr, List.getElem?_set, hl2]
    by_cases e : i * 10 + j = m
    · rw [if_pos e, if_pos (by omega), if_pos (by omega), if_pos (by omega)]
    · rw [if_neg e, if_neg (by omega)]
      have hx : q.row[m - i * 10]? = some (q.row[m - i * 10]'(by rw [hl2]; omega)) := List.getElem?_eq_getElem _
      have := flat_get rs i (m - i * 10) q _ hq hx
      rw [show i * 10 + (m - i * 10) = m by omega] at this
      rw [this, hx]
  · rw [if_neg h, if_neg (by omega)]
/-- one number of a node stored into a block of nodes -/
theorem RowsAt.set1 {w : World} {B : Nat} {rs : List V.Nd} (h : RowsAt w B rs) {i : Nat} {q : V.Nd} (hq : rs[i]? = some q) (j : Nat) (hj : j < 10) (q' : V.Nd) (v : Value) (hr : q'.row = q.row.set j v) : RowsAt (w.setCell ⟨B, i * 10 + j, none⟩ v) B (rs.set i q') := by
  obtain ⟨cur, h1, h2⟩ := h
  exact ⟨_, set_blk h1 _ v, by rw [← flat_set1 rs i j q q' v hq hj hr, ← h2]; simp⟩
end Go.Proofs.Ytfnndnceaddhgaa
