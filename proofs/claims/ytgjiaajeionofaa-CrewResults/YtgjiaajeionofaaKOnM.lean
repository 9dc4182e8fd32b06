/- Any number of rows of bytes that are their owner's alone: written full, grown, looked at (KOwM over N rows). -/
import Derived.Test.YtgjiaajeionofaaKOwM
namespace Go.Proofs.Ytgjiaajeionofaa
namespace On
open Go.RowKit Cw
open Ow (App ownsRow_keep ownsRow_new own_form cell_one wp_appendL wp_append1M pre_row typ_ne)

def fv (j : Nat) : Value := .int .u8 ((j % 251 : Nat) : Int)
def gv (j : Nat) : Value := .int .u8 ((j % 251 : Nat) : Int)
def gl (n m j : Nat) : List Value := List.replicate n (fv j) ++ List.replicate m (gv j)
theorem gl_at {n m j t : Nat} (h : t < n + m) : (gl n m j)[t]? = some (if t < n then fv j else gv j) := by
  unfold gl
  by_cases e : t < n
  · rw [List.getElem?_append_left (by simpa using e), List.getElem?_replicate, if_pos e, if_pos e]
  · rw [List.getElem?_append_right (by simp; omega), List.getElem?_replicate, if_pos (by simp; omega), if_neg e]
theorem gl_take (n m j : Nat) : (gl n m j).take n = List.replicate n (fv j) := by
  unfold gl
  rw [List.take_append_of_le_length (by simp), List.take_of_length_le (by simp)]
theorem gl_succ (n m j : Nat) : gl n m j ++ [gv j] = gl n (m + 1) j := by
  unfold gl
  rw [List.replicate_succ', List.append_assoc]
/-- three rows of bytes, and the row of them -/
structure O3 (W : World) (N P : Nat) (rv : Value) (o : Nat → Value) (n : Nat → Nat) (X : Nat → List Value) : Prop where
  own : ∀ j, j < N → W.ownsRow 0 5 1 (o j) (n j) (X j)
  row : W.ownsRow P 35 1 rv N ((List.range N).map o)
theorem O3.cell {W : World} {N P g rc : Nat} {o : Nat → Value} {n : Nat → Nat} {X : Nat → List Value} (h : O3 W N P (.slice (some ⟨g, 0, none⟩) N rc) o n X) {i : Nat} (hi : i < N) : W.cell? ⟨g, i, none⟩ = some (o i) := by
  rw [h.row.cellAt i (by omega), List.getElem?_map, List.getElem?_range hi]
  rfl
theorem O3.new {W W' : World} {N P : Nat} {rv : Value} {o : Nat → Value} {n : Nat → Nat} {X : Nat → List Value} (h : O3 W N P rv o n X) (k : Keep (fun _ => False) W W') : O3 W' N P rv o n X := ⟨fun j hj => ownsRow_new (h.own j hj) k, ownsRow_new h.row k⟩
def Apart (N : Nat) (o : Nat → Value) : Prop := ∀ j k g, j < N → k < N → j ≠ k → (o j).ownBlock = some g → (o k).ownBlock ≠ some g
theorem O3.fill {W W' : World} {N P : Nat} {rv : Value} {o : Nat → Value} {n : Nat → Nat} {X : Nat → List Value} (h : O3 W N P rv o n X) (ha : Apart N o) {i : Nat} (hi : i < N) {Y : List Value} (k : Keep (fun g => (o i).ownBlock = some g) W W') (hr : W'.ownsRow 0 5 1 (o i) (n i) Y) : O3 W' N P rv o n (fun j => if j = i then Y else X j) := by
  refine ⟨fun j hj => ?_, ownsRow_keep h.row k fun q e1 e2 => typ_ne (h.own i hi) h.row (by decide) e1 e2⟩
  by_cases e : j = i
  · subst e
    simp only [if_true]
    exact hr
  · simp only [if_neg e]
    exact ownsRow_keep (h.own j hj) k fun q e1 e2 => ha i j q hi hj (fun e' => e e'.symm) e1 e2
/-- some have been grown -/
structure G3 (W : World) (N P B : Nat) (rv : Value) (o : Nat → Value) (n : Nat → Nat) (i : Nat) (gs : Value) (u : Nat → Value) : Prop where
  o3 : O3 W N P rv o n (fun j => List.replicate (n j) (fv j))
  gs : W.ownsRow B 35 1 gs i ((List.range i).map u)
  us : ∀ j, j < i → W.ownsRow 0 5 1 (u j) (n j + 40) (gl (n j) 40 j)
  ne : ∀ j k g, j < i → k < N → k ≠ j → (u j).ownBlock = some g → (o k).ownBlock ≠ some g
  p : ∀ g, rv.ownBlock = some g → g < B
  q : B ≤ W.heap.size
theorem G3.new {W W' : World} {N P B i : Nat} {rv : Value} {o u : Nat → Value} {n : Nat → Nat} {gs : Value} (h : G3 W N P B rv o n i gs u) (k : Keep (fun _ => False) W W') : G3 W' N P B rv o n i gs u :=
  ⟨h.o3.new k, ownsRow_new h.gs k, fun j hj => ownsRow_new (h.us j hj) k, h.ne, h.p, by have := k.size; have := h.q; omega⟩
/-- the next one is being grown: m more -/
structure G4 (W : World) (N P B : Nat) (rv : Value) (o : Nat → Value) (n : Nat → Nat) (i : Nat) (gs : Value) (u : Nat → Value) (m : Nat) (v : Value) : Prop where
  g3 : G3 W N P B rv o n i gs u
  vo : W.ownsRow 0 5 1 v (n i + m) (gl (n i) m i)
  vn : ∀ g, v.ownBlock = some g → (∀ k, k < N → k ≠ i → (o k).ownBlock ≠ some g) ∧ ∀ j, j < i → (u j).ownBlock ≠ some g
  vf : ∀ g, v.ownBlock = some g → (o i).ownBlock = some g ∨ B ≤ g
theorem G3.begin {W : World} {N P B i : Nat} {rv : Value} {o u : Nat → Value} {n : Nat → Nat} {gs : Value} (h : G3 W N P B rv o n i gs u) (ha : Apart N o) (hi : i < N) : G4 W N P B rv o n i gs u 0 (o i) :=
  ⟨h, by have := h.o3.own i hi; simpa [gl] using this, fun g hg => ⟨fun k hk hne => ha i k g hi hk (fun e => hne e.symm) hg, fun j hj hu => h.ne j i g hj hi (by omega) hu hg⟩, fun g hg => .inl hg⟩
theorem G4.new {W W' : World} {N P B i m : Nat} {rv : Value} {o u : Nat → Value} {n : Nat → Nat} {gs v : Value} (h : G4 W N P B rv o n i gs u m v) (k : Keep (fun _ => False) W W') : G4 W' N P B rv o n i gs u m v := ⟨h.g3.new k, ownsRow_new h.vo k, h.vn, h.vf⟩
theorem G4.app {W W' : World} {N P B i m : Nat} {rv : Value} {o u : Nat → Value} {n : Nat → Nat} {gs v v' : Value} (h : G4 W N P B rv o n i gs u m v) (hi : i < N) {y : Int} (hy : y = ((i % 251 : Nat) : Int)) (ap : App W v (n i + m) (gl (n i) m i) y v' W') : G4 W' N P B rv o n i gs u (m + 1) v' := by
  subst hy
  have oth : ∀ {b e : Nat} {r : Value} {k : Nat} {xs : List Value}, W.ownsRow b e 1 r k xs → (∀ g, v.ownBlock = some g → r.ownBlock ≠ some g) → W'.ownsRow b e 1 r k xs := fun h1 h2 => ownsRow_keep h1 ap.keep fun g hg => h2 g hg
  refine ⟨⟨⟨fun j hj => ?_, oth h.g3.o3.row fun g hg => typ_ne h.vo h.g3.o3.row (by decide) hg⟩, oth h.g3.gs fun g hg => typ_ne h.vo h.g3.gs (by decide) hg, fun j hj => oth (h.g3.us j hj) fun g hg => (h.vn g hg).2 j hj, h.g3.ne, h.g3.p, by have := ap.keep.size; have := h.g3.q; omega⟩, ?_, fun g hg => ?_, fun g hg => ?_⟩
  · by_cases e : j = i
    · subst e
      by_cases e2 : (o j).ownBlock = v.ownBlock
      · exact pre_row (h.g3.o3.own j hj) h.vo ap.old e2 (gl_take _ _ _).symm (by omega)
      · exact oth (h.g3.o3.own j hj) fun g hg hg2 => e2 (hg2.trans hg.symm)
    · exact oth (h.g3.o3.own j hj) fun g hg => (h.vn g hg).1 j hj e
  · have := ap.own
    rw [show gl (n i) m i ++ [Value.int .u8 ((i % 251 : Nat) : Int)] = gl (n i) (m + 1) i from gl_succ _ _ _] at this
    exact this
  · rcases ap.pl with e | e
    · exact h.vn g (by rw [← e]; exact hg)
    · rw [e] at hg
      injection hg with hg
      subst hg
      exact ⟨fun k hk _ hk2 => by have := ((h.g3.o3.own k hk).lt _ hk2).2; omega, fun j hj hj2 => by have := ((h.g3.us j hj).lt _ hj2).2; omega⟩
  · rcases ap.pl with e | e
    · exact h.vf g (by rw [← e]; exact hg)
    · rw [e] at hg
      injection hg with hg
      subst hg
      exact .inr h.g3.q
theorem G4.done {W W' : World} {N P B i : Nat} {rv : Value} {o u : Nat → Value} {n : Nat → Nat} {gs v gs' : Value} (h : G4 W N P B rv o n i gs u 40 v) (hi : i < N) (ho : W'.ownsRow B 35 1 gs' (i + 1) ((List.range i).map u ++ [v])) (k : Keep (fun j => gs.ownBlock = some j) W W') : G3 W' N P B rv o n (i + 1) gs' (fun j => if j = i then v else u j) := by
  have ints : ∀ {r : Value} {m : Nat} {xs : List Value}, W.ownsRow 0 5 1 r m xs → W'.ownsRow 0 5 1 r m xs := fun h1 => ownsRow_keep h1 k fun g hg => typ_ne h.g3.gs h1 (by decide) hg
  refine ⟨⟨fun j hj => ints (h.g3.o3.own j hj), ownsRow_keep h.g3.o3.row k fun g hg hg2 => ?_⟩, ?_, fun j hj => ?_, fun j m g hj hm hne hg => ?_, h.g3.p, by have := k.size; have := h.g3.q; omega⟩
  · have h1 := (h.g3.gs.lt g hg).1
    have := h.g3.p g hg2
    omega
  · have e : (List.range (i + 1)).map (fun j => if j = i then v else u j) = (List.range i).map u ++ [v] := by
      rw [List.range_succ, List.map_append]
      congr 1
      · refine List.map_congr_left fun j hj => ?_
        rw [if_neg (by have := List.mem_range.1 hj; omega)]
      · simp
    rw [e]; exact ho
  · by_cases e : j = i
    · subst e
      simp only [if_true]
      exact ints h.vo
    · simp only [if_neg e]
      exact ints (h.g3.us j (by omega))
  · by_cases e : j = i
    · subst e
      simp only [if_true] at hg
      exact (h.vn g hg).1 m hm hne
    · simp only [if_neg e] at hg
      exact h.g3.ne j m g (by omega) hm hne hg
def Sb (N : Nat) (o : Nat → Value) (k : Nat) : Prop := ∃ j, j < N ∧ (o j).ownBlock = some k
def F1 (w : World) (N P : Nat) (rv : Value) (o : Nat → Value) (n : Nat → Nat) (i : Nat) (wr : World) : Prop := ∃ X, O3 wr N P rv o n X ∧ (∀ j, j < i → X j = List.replicate (n j) (fv j)) ∧ Keep (Sb N o) w wr
def F3 (w : World) (N P B : Nat) (rv : Value) (o : Nat → Value) (n : Nat → Nat) (i : Nat) (gs : Value) (wr : World) : Prop := ∃ u, G3 wr N P B rv o n i gs u ∧ Keep (Sb N o) w wr
def F2 (w : World) (N P : Nat) (rv : Value) (o : Nat → Value) (n : Nat → Nat) (i k : Nat) (wr : World) : Prop := ∃ X, O3 wr N P rv o n X ∧ (∀ j, j < i → X j = List.replicate (n j) (fv j)) ∧ (∀ t, t < k → (X i)[t]? = some (fv i)) ∧ Keep (Sb N o) w wr
end On
end Go.Proofs.Ytgjiaajeionofaa
