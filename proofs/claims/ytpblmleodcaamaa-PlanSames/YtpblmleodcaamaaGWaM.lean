/- waits: the mathematics of the search; rows that grow. -/
import Derived.Test.YtpblmleodcaamaaGAwk
namespace Go.Proofs.Ytpblmleodcaamaa
namespace Gr
open Go.RowKit

theorem info_bool : (Try.prog.info? 4).map (fun i => (i.zero, i.size, i.bytes)) = some (some (.bool false), 1, 1) := by kernel_rfl
theorem made_bools (u : World) (n : Nat) (hn : n ≤ 1048576) : (Instr.makeSlice 52 (.int .i64 (n : Nat)) (.int .i64 (n : Nat))).run Try.prog u = .ok (.slice (some ⟨u.heap.size, 0, none⟩) n n) (u.alloc (.cells (madeCells #[.bool false] n) 4)) := by
  obtain ⟨i0, hi, hz0, hz1, hz2⟩ := info_parts info_bool
  have h := run_make (P := Try.prog) (w := u) 52 4 i0 (.bool false) Try.underlying52 hi hz0 .i64 .i64 (n : Int) (n : Int) (by omega) (Int.le_refl _) (by rw [hz2]; omega) (by omega)
  simpa [hz1, Value.cells] using h
/-- who was seen, in memory -/
def SeenAt (W : World) (B n : Nat) (T : List Nat) : Prop := ∃ cs : Array Value, W.heap[B]? = some (.cells cs 4 (0, 0)) ∧ cs.size = n ∧ ∀ j, j < n → cs[j]? = some (.bool (tk T j))
theorem SeenAt.keep {W W' : World} {B n : Nat} {T : List Nat} (h : SeenAt W B n T) {S : Nat → Prop} (hk : Keep S W W') (hS : ¬ S B) : SeenAt W' B n T := by
  obtain ⟨cs, h1, h2⟩ := h
  exact ⟨cs, hk.blk h1 hS, h2⟩
theorem SeenAt.set {W : World} {B n : Nat} {T : List Nat} (h : SeenAt W B n T) {j : Nat} (hj : j < n) : SeenAt (W.setCell ⟨B, j, none⟩ (.bool true)) B n (T ++ [j]) := by
  obtain ⟨cs, h1, h2, h3⟩ := h
  refine ⟨_, set_blk h1 j _, by simp [h2], fun i hi => ?_⟩
  rw [Array.getElem?_setIfInBounds, ← tk_mark]
  by_cases e : j = i
  · subst e; simp [h2, hj, mark]
  · rw [if_neg e, h3 i hi]
    simp [mark, Ne.symm e]
theorem seen_new (w : World) (n : Nat) : SeenAt (w.alloc (.cells (madeCells #[.bool false] n) 4)) w.heap.size n [] :=
  ⟨_, heap_alloc_new _ _, by simp [madeCells], fun j hj => by simp [madeCells, hj, Nat.mod_one, tk]⟩
theorem SeenAt.at {W : World} {B n : Nat} {T : List Nat} (h : SeenAt W B n T) {j : Nat} (hj : j < n) : W.cell? ⟨B, j, none⟩ = some (.bool (tk T j)) ∧ W.frozen? ⟨B, j, none⟩ = false := by
  obtain ⟨cs, h1, _, h3⟩ := h
  exact ⟨cell_blk h1 j (h3 j hj), frozen_blk h1 j⟩

/-- numbers more behind a row of the call's own -/
theorem wp_appendZ {w : World} {ops : Array Oper} {rest : List Oper} {o : Oper} {a : Act} {Q : Exit → Act → World → Prop} (hgd : o.guard = none) (s x : Operand)
    (ho : o.op = .call { callee := .builtin .append, args := #[s, x], argTypes := #[34, 34] })
    (base B : Nat) (v : Value) (n : Nat) (xs : List Int) (hs : a.eval s = v) (hown : w.ownsRow base 3 1 v n (xs.map (Value.int .i64))) (t : Option Addr × Nat × Nat) (z : List Int) (hx : a.eval x = .slice t.1 t.2.1 t.2.2) (hz : RdZ B w t z) (hcap : t.1 = none → t.2.2 = 0) (hn : n + z.length ≤ 1048576) (hbase : base ≤ w.heap.size)
    (h : ∀ v' w', w'.ownsRow base 3 1 v' (n + z.length) ((xs ++ z).map (Value.int .i64)) → Keep (fun k => v.ownBlock = some k) w w' → wpList Try.prog ops Q rest (a.put o.dst v') w') : wpList Try.prog ops Q (o :: rest) a w := by
  obtain ⟨i0, hi, hz0, hz1, hz2⟩ := info_parts info_int
  obtain ⟨ta, tn, tc⟩ := t
  have htn : tn = z.length := hz.1
  subst htn
  cases ta with
  | none =>
    have hz0' : z.length = 0 := by
      rcases hz.2.2 with h0 | ⟨g, off, e, _⟩
      · exact h0
      · cases e
    obtain rfl : z = [] := List.eq_nil_of_length_eq_zero hz0'
    have htc : tc = 0 := hcap rfl
    subst htc
    refine wpList_append_own_none hgd s x 34 ho base 3 i0 1 Try.underlying34 hi v n _ hs hown hx ?_
    refine h v w ?_ (Keep.refl _ _)
    rw [List.append_nil]
    exact hown
  | some ad =>
    refine wpList_append_own2 hgd s x 34 ho base 3 i0 (.int .i64 0) 1 8 Try.underlying34 hi hz0 hz1 hz2 rfl (by decide) v n _ hs hown ad z.length tc (z.map (Value.int .i64)) hx (by simp) (fun j u hu => ?_) (fun u hu => ?_) (by unfold maxLen; omega) (by omega) hbase ?_
    · have hj := (List.getElem?_eq_some_iff.1 hu).1
      rw [List.length_map] at hj
      rcases hz.2.2 with h0 | ⟨g, off, e, _, hc⟩
      · have h0 : z.length = 0 := h0
        omega
      · injection e with e
        subst e
        rw [List.getElem?_map] at hu
        obtain ⟨y, hy, rfl⟩ := Option.map_eq_some_iff.1 hu
        have := hc j y hy
        rw [show (⟨g, off, none⟩ : Addr).add j = ⟨g, off + j, none⟩ by unfold Addr.add; split <;> simp_all]
        exact this
    · obtain ⟨y, _, rfl⟩ := List.mem_map.1 hu
      rfl
    · intro v' w' h1 h2 _
      rw [List.map_append] at h
      exact h v' w' h1 (Keep.grown h2 fun k e => e)

/-- the edges that are gone along -/
def en (b : Bool) (xs : List No) : Nat → List Nat := if b then ng xs else eg xs
def zn (b : Bool) (x : No) : List Int := if b then x.nl else x.nl ++ x.al
theorem en_at {xs : List No} {i : Nat} {x : No} (b : Bool) (h : xs[i]? = some x) : en b xs i = (zn b x).map Int.toNat := by
  cases b
  · show eg xs i = _; rw [eg_at h]; simp [zn]
  · exact ng_at h
theorem en_eg {xs : List No} {b : Bool} {i e : Nat} (h : e ∈ en b xs i) : e ∈ eg xs i := by
  cases b
  · exact h
  · exact ng_eg h
/-- what is known between two steps of the search: o: the open ones, done: so many are gone through -/
structure Bfs (E : Nat → List Nat) (n fr t : Nat) (o : List Nat) (done : Nat) : Prop where
  head : ∃ r, o = fr :: r ∧ r.Nodup ∧ (∀ y ∈ r, y < n ∧ Waits E fr y)
  cl : ∀ j x, j < done → o[j]? = some x → ∀ e ∈ E x, e ≠ t ∧ e ∈ o.tail
  le : done ≤ o.length
theorem Bfs.len {E : Nat → List Nat} {n fr t : Nat} {o : List Nat} {d : Nat} (h : Bfs E n fr t o d) : 1 ≤ o.length ∧ o.length ≤ n + 1 := by
  obtain ⟨r, rfl, h1, h2⟩ := h.head
  have := nodup_le (m := List.range n) h1 fun x hx => List.mem_range.2 (h2 x hx).1
  simp at this ⊢
  exact this
theorem Bfs.start (E : Nat → List Nat) (n fr t : Nat) : Bfs E n fr t [fr] 0 := ⟨⟨[], rfl, List.nodup_nil, (fun y h => by cases h)⟩, (fun j x h => by omega), Nat.zero_le _⟩
theorem Bfs.no {E : Nat → List Nat} {n fr t : Nat} {o : List Nat} (h : Bfs E n fr t o o.length) : ¬ Waits E fr t := by
  obtain ⟨r, rfl, h1, h2⟩ := h.head
  have key : ∀ (k a : Nat), a ∈ fr :: r → ¬ wt E k a t := by
    intro k
    induction k with
    | zero =>
      intro a ha hw
      obtain ⟨j, hj⟩ := List.getElem?_of_mem ha
      exact (h.cl j a (List.getElem?_eq_some_iff.1 hj).1 hj t hw).1 rfl
    | succ k ih =>
      rintro a ha ⟨x, hx, hw⟩
      obtain ⟨j, hj⟩ := List.getElem?_of_mem ha
      exact ih x (List.mem_cons_of_mem _ (h.cl j a (List.getElem?_eq_some_iff.1 hj).1 hj x hx).2) hw
  rintro ⟨k, hk⟩
  exact key k fr (List.mem_cons_self ..) hk
theorem Bfs.waits {E : Nat → List Nat} {n fr t : Nat} {o : List Nat} {d : Nat} (h : Bfs E n fr t o d) {j x : Nat} (hj : o[j]? = some x) {e : Nat} (he : e ∈ E x) : Waits E fr e := by
  obtain ⟨r, rfl, h1, h2⟩ := h.head
  rcases List.mem_cons.1 (List.mem_of_getElem? hj) with rfl | hm
  · exact Waits.edge he
  · exact (h2 x hm).2.trans (Waits.edge he)
theorem Bfs.more {E : Nat → List Nat} {n fr t : Nat} {o : List Nat} {d : Nat} (h : Bfs E n fr t o d) {e : Nat} (he : e < n) (hw : Waits E fr e) (hn : e ∉ o.tail) : Bfs E n fr t (o ++ [e]) d := by
  obtain ⟨r, rfl, h1, h2⟩ := h.head
  refine ⟨⟨r ++ [e], rfl, ?_, fun y hy => ?_⟩, fun j x hj hx y hy => ?_, by have := h.le; simp at *; omega⟩
  · rw [List.nodup_append]
    refine ⟨h1, by simp, fun a ha b hb => ?_⟩
    rw [List.mem_singleton.1 hb]
    exact fun e' => hn (by rw [← e']; exact ha)
  · rcases List.mem_append.1 hy with hy | hy
    · exact h2 y hy
    · rw [List.mem_singleton.1 hy]; exact ⟨he, hw⟩
  · rw [List.getElem?_append_left (by have := h.le; omega)] at hx
    obtain ⟨g1, g2⟩ := h.cl j x hj hx y hy
    exact ⟨g1, List.mem_append.2 (.inl g2)⟩
theorem Bfs.next {E : Nat → List Nat} {n fr t : Nat} {o : List Nat} {d x : Nat} (h : Bfs E n fr t o d) (hx : o[d]? = some x) (hc : ∀ e ∈ E x, e ≠ t ∧ e ∈ o.tail) : Bfs E n fr t o (d + 1) := by
  refine ⟨h.head, fun j y hj hy => ?_, ?_⟩
  · by_cases e : j = d
    · subst e; rw [hx] at hy; injection hy with hy; subst hy; exact hc
    · exact h.cl j y (by omega) hy
  · have := (List.getElem?_eq_some_iff.1 hx).1; omega
theorem Bfs.lt {E : Nat → List Nat} {n fr t : Nat} {o : List Nat} {d : Nat} (h : Bfs E n fr t o d) (hf : fr < n) {j x : Nat} (hj : o[j]? = some x) : x < n := by
  obtain ⟨r, rfl, h1, h2⟩ := h.head
  rcases List.mem_cons.1 (List.mem_of_getElem? hj) with rfl | hm
  · exact hf
  · exact (h2 x hm).1
/-- a row of numbers of the call's own, as it can be read -/
theorem ownsRow_rdz {w : World} {b : Nat} {v : Value} {z : List Int} (h : w.ownsRow b 3 1 v z.length (z.map (Value.int .i64))) (hl : z.length ≤ 17592186044416) : ∃ a c, v = .slice a z.length c ∧ RdZ w.heap.size w (a, z.length, c) z := by
  rcases h.2 with ⟨e1, e2⟩ | ⟨g, cap, cur, e1, e2, e3, e4, e5, e6, e7⟩
  · exact ⟨none, 0, by rw [e1, e2], rfl, hl, .inl e2⟩
  · refine ⟨_, cap, e1, rfl, hl, ?_⟩
    rcases Nat.eq_zero_or_pos z.length with h0 | h0
    · exact .inl h0
    · refine .inr ⟨g, 0, rfl, (Array.getElem?_eq_some_iff.1 e3).1, fun j x hj => ?_⟩
      rw [Nat.zero_add]
      refine cell_blk e3 j ?_
      have h2 : (z.map (Value.int .i64))[j]? = some (.int .i64 x) := by simp [hj]
      rw [← e7, List.getElem?_take] at h2
      split at h2
      · simpa using h2
      · cases h2
theorem edges_ge {xs : List No} {x : No} (h : x ∈ xs) : x.nl.length + x.al.length ≤ edges xs := by
  induction xs with
  | nil => cases h
  | cons y xs ih =>
    have e : edges (y :: xs) = y.nl.length + y.al.length + edges xs := by simp [edges]
    rw [e]
    rcases List.mem_cons.1 h with rfl | h
    · omega
    · have := ih h; omega
/-- lists that are none have no room -/
def Caps (xs : List No) : Prop := ∀ x ∈ xs, (x.q.ne.1 = none → x.q.ne.2.2 = 0) ∧ (x.q.af.1 = none → x.q.af.2.2 = 0)
theorem iv_ints (l : List Nat) : iv l = (l.map fun x : Nat => (x : Int)).map (Value.int .i64) := by simp [iv]

/-- a bool that tells whether -/
def WaR (P : Prop) (e : Ending) : Prop := ∃ r : Bool, e = .returned (.bool r) ∧ (r = true ↔ P)
end Gr
end Go.Proofs.Ytpblmleodcaamaa
