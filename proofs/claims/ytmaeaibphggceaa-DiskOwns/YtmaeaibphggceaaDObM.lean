/- Rows of bytes that are their owner's alone: written full, grown, looked at (own_gen.py, out of POwM, PWnM). -/
import Derived.Test.YtmaeaibphggceaaDLaw
import Derived.Maps.AppendAt
import Derived.Deep.Cut
namespace Go.Proofs.Ytmaeaibphggceaa
namespace Ob
open Go.RowKit

theorem ownsRow_keep {w w' : World} {b : Nat} {e : TypeId} {size : Nat} {v : Value} {n : Nat} {xs : List Value} (h : w.ownsRow b e size v n xs) {S : Nat → Prop} (k : Keep S w w') (hS : ∀ i, S i → v.ownBlock ≠ some i) : w'.ownsRow b e size v n xs := by
  refine ⟨h.1, ?_⟩
  rcases h.2 with h' | ⟨g, cap, cur, h1, h2, h3, h4⟩
  · exact .inl h'
  · subst h1
    exact .inr ⟨g, cap, cur, rfl, h2, k.blk h3 (fun hs => hS g hs rfl), h4⟩
theorem ownsRow_new {w w' : World} {b : Nat} {e : TypeId} {size : Nat} {v : Value} {n : Nat} {xs : List Value} (h : w.ownsRow b e size v n xs) (k : Keep (fun _ => False) w w') : w'.ownsRow b e size v n xs := ownsRow_keep h k fun _ f => f.elim
theorem own_form {w : World} {base : Nat} {e : TypeId} {size : Nat} {v : Value} {n : Nat} {xs : List Value} (h : w.ownsRow base e size v n xs) (hn : 0 < n) : ∃ g cap, v = .slice (some ⟨g, 0, none⟩) n cap := by
  rcases h.2 with ⟨_, h0⟩ | ⟨g, cap, cur, hv, _⟩
  · omega
  · exact ⟨g, cap, hv⟩
theorem cell_one (w : World) (v : Value) (t : TypeId) : (w.alloc (.cells #[v] t)).cell? ⟨w.heap.size, 0, none⟩ = some v := by rw [World.cell?_alloc_mark]; rfl
theorem info_bytes : (Try.prog.info? 26).map (fun i => (i.zero, i.size, i.bytes)) = some (some (.slice none 0 0), 1, 24) := by kernel_rfl
theorem wp_appendL {w : World} {ops : Array Oper} {rest : List Oper} {o : Oper} {a : Act} {Q : Exit → Act → World → Prop} (hgd : o.guard = none) (s x : Operand)
    (ho : o.op = .call { callee := .builtin .append, args := #[s, x], argTypes := #[40, 40] })
    (base : Nat) (v : Value) (n : Nat) (xs : List Value) (hs : a.eval s = v) (hown : w.ownsRow base 26 1 v n xs) (ad : Addr) (y1 : Option Addr) (y2 y3 : Nat) (hx : a.eval x = .slice (some ad) 1 1) (hc : w.cell? ad = some (.slice y1 y2 y3)) (hn : n + 1 ≤ 5000000000000) (hbase : base ≤ w.heap.size)
    (h : ∀ v' w', w'.ownsRow base 26 1 v' (n + 1) (xs ++ [.slice y1 y2 y3]) → Keep (fun k => v.ownBlock = some k) w w' → NewBlk w v v' → wpList Try.prog ops Q rest (a.put o.dst v') w') : wpList Try.prog ops Q (o :: rest) a w := by
  obtain ⟨i0, hi, hz0, hz1, hz2⟩ := info_parts info_bytes
  refine wpList_append_own2 hgd s x 40 ho base 26 i0 (.slice none 0 0) 1 24 Try.underlying40 hi hz0 hz1 hz2 rfl (by decide) v n xs hs hown ad 1 1 [.slice y1 y2 y3] hx rfl (fun j u hu => ?_) (fun u hu => by rw [List.mem_singleton.1 hu]; rfl) (by unfold maxLen; omega) (by omega) hbase ?_
  · cases j with
    | zero =>
      have : u = .slice y1 y2 y3 := by simpa using hu.symm
      subst this
      simpa [Addr.add] using hc
    | succ j => simp at hu
  · intro v' w' h1 h2 h3
    exact h v' w' h1 (Keep.grown h2 fun k e => e) h3
/-- what an append of a number leaves -/
structure App (w : World) (v : Value) (n : Nat) (xs : List Value) (y : Int) (v' : Value) (w' : World) : Prop where
  own : w'.ownsRow 0 5 1 v' (n + 1) (xs ++ [.int .u8 y])
  old : w'.ownsRow 0 5 1 v n xs
  keep : Keep (fun k => v.ownBlock = some k) w w'
  pl : v'.ownBlock = v.ownBlock ∨ v'.ownBlock = some w.heap.size
set_option maxRecDepth 100000 in
theorem wp_append1M {w : World} {ops : Array Oper} {rest : List Oper} {o : Oper} {a : Act} {Q : Exit → Act → World → Prop} (hgd : o.guard = none) (s x : Operand)
    (ho : o.op = .call { callee := .builtin .append, args := #[s, x], argTypes := #[26, 26] })
    (v : Value) (n : Nat) (xs : List Value) (hs : a.eval s = v) (hown : w.ownsRow 0 5 1 v n xs) (ad : Addr) (y : Int) (hx : a.eval x = .slice (some ad) 1 1) (hc : w.cell? ad = some (.int .u8 y)) (hn : n + 1 ≤ 140737488355328)
    (h : ∀ v' w', App w v n xs y v' w' → wpList Try.prog ops Q rest (a.put o.dst v') w') : wpList Try.prog ops Q (o :: rest) a w := by
  obtain ⟨i0, hi, hz0, hz1, hz2⟩ := info_parts info_u8
  have hnews : ∀ j u, [Value.int .u8 y][j]? = some u → w.cell? (ad.add j) = some u := fun j u hu => by
    cases j with
    | zero =>
      have : u = .int .u8 y := by simpa using hu.symm
      subst this
      simpa [Addr.add] using hc
    | succ j => simp at hu
  have h1 : ∀ u ∈ [Value.int .u8 y], u.oneCell' = true := fun u hu => by rw [List.mem_singleton.1 hu]; rfl
  refine wpList_plain hgd fun K hK => ?_
  obtain ⟨v', w', hr, h2, h3, _, h5⟩ := run_append_own_at (P := Try.prog) w 0 26 o.type 5 i0 (.int .u8 0) 1 1 Try.underlying26 hi hz0 hz1 hz2 rfl (by decide) v n xs hown ad 1 1 [.int .u8 y] rfl hnews h1 (by unfold maxLen; omega) (by omega) (Nat.zero_le _)
  have hold : w'.ownsRow 0 5 1 v n xs := by
    rcases hown.2 with ⟨rfl, rfl⟩ | ⟨g, cap, cur, rfl, hbg, hg, hnc, hcm, hcs, htake⟩
    · exact ⟨hown.1, .inl ⟨rfl, rfl⟩⟩
    · by_cases hroom : n + 1 ≤ cap
      · have hr2 := run_append_room (P := Try.prog) w 26 o.type 5 i0 Try.underlying26 hi g n cap cur hg ad 1 1 [.int .u8 y] (by rw [hz1]; rfl) hnews h1 hroom (by rw [hz1, hcs]; show n * 1 + 1 ≤ cap * 1; omega)
        rw [hr] at hr2
        injection hr2 with e1 e2
        subst e1
        rcases h2.2 with ⟨e, _⟩ | ⟨g', cap', cur', e, b', hg', nc', cm', cs', tk'⟩
        · cases e
        · injection e with e3 e4 e5
          injection e3 with e3
          injection e3 with e3
          subst e3
          subst e5
          refine ⟨hown.1, .inr ⟨g, cap, cur', rfl, hbg, hg', hnc, hcm, cs', ?_⟩⟩
          have : cur'.toList.take (n * 1) = (xs ++ [Value.int .u8 y]).take (n * 1) := by
            rw [← tk', List.take_take]
            congr 1
            omega
          rw [this, List.take_append_of_le_length (by rw [hown.1]; exact Nat.le_refl _), ← hown.1, List.take_length]
      · have hr2 := run_append_grow (P := Try.prog) w 26 o.type 5 i0 (.int .u8 0) Try.underlying26 hi hz0 ⟨g, 0, none⟩ n cap xs (by rw [hz1]; exact hown.1) (hown.cells (g := g) rfl) ad 1 1 [.int .u8 y] (by rw [hz1]; rfl) hnews (by omega) (by omega) (growslice_fits (by omega) (by rw [hz2]; omega))
        rw [hr] at hr2
        injection hr2 with e1 e2
        subst e2
        exact (World.ownsRow.alloc (World.ownsRow.drew hown) _)
  unfold Oper.wp execOp
  simp only [ho, resolve, invoke, builtin, Sem.run_bind, Sem.run_pure, Result.andThen_ok, List.map_toArray, List.map_cons, List.map_nil, hs, hx, hr]
  exact hK _ _ (h v' w' ⟨h2, hold, Keep.grown h3 fun k e => e, h5⟩)
/-- a row in the same block, the beginning of one that still stands -/
theorem pre_row {w w' : World} {o v : Value} {n m : Nat} {xs ys : List Value} (h : w.ownsRow 0 5 1 o n xs) (hv : w.ownsRow 0 5 1 v m ys) (hv' : w'.ownsRow 0 5 1 v m ys) (hb : o.ownBlock = v.ownBlock) (hx : xs = ys.take n) (hn : n ≤ m) : w'.ownsRow 0 5 1 o n xs := by
  rcases h.2 with ⟨rfl, rfl⟩ | ⟨g, cap, cur, rfl, hbg, hg, hnc, hcm, hcs, htake⟩
  · exact ⟨h.1, .inl ⟨rfl, rfl⟩⟩
  · rcases hv.2 with ⟨rfl, _⟩ | ⟨g2, cap2, cur2, rfl, hbg2, hg2, hnc2, hcm2, hcs2, htake2⟩
    · cases hb
    · have e : g = g2 := by simpa [Value.ownBlock] using hb
      subst e
      rw [hg] at hg2
      injection hg2 with hg2
      injection hg2 with hg2
      subst hg2
      rcases hv'.2 with ⟨e, _⟩ | ⟨g3, cap3, cur3, e, b3, hg3, nc3, cm3, cs3, tk3⟩
      · cases e
      · injection e with e1 e2 e3
        injection e1 with e1
        injection e1 with e1
        subst e1
        subst e3
        refine ⟨h.1, .inr ⟨g, cap, cur3, rfl, Nat.zero_le _, hg3, hnc, hcm, by rw [cs3, ← hcs2, hcs], ?_⟩⟩
        rw [hx, ← tk3, List.take_take]
        congr 1
        omega
theorem typ_ne {w : World} {b b' n n' : Nat} {e e' : TypeId} {v v' : Value} {xs xs' : List Value} (h : w.ownsRow b e 1 v n xs) (h' : w.ownsRow b' e' 1 v' n' xs') (he : e ≠ e') {g : Nat} (hg : v.ownBlock = some g) : v'.ownBlock ≠ some g := fun hg' => by
  rcases h.2 with ⟨rfl, _⟩ | ⟨g1, cap, cur, rfl, _, h3, _⟩
  · cases hg
  · rcases h'.2 with ⟨rfl, _⟩ | ⟨g2, cap2, cur2, rfl, _, h4, _⟩
    · cases hg'
    · have e1 : g1 = g := by simpa [Value.ownBlock] using hg
      have e2 : g2 = g := by simpa [Value.ownBlock] using hg'
      subst e1
      subst e2
      rw [h3] at h4
      injection h4 with h4
      injection h4 with _ h4
      exact he h4
def fv (j : Nat) : Value := .int .u8 (((2 * j + 1) % 256 : Nat) : Int)
def gv (j : Nat) : Value := .int .u8 (((2 * j + 2) % 256 : Nat) : Int)
def gl (n m j : Nat) : List Value := List.replicate n (fv j) ++ List.replicate m (gv j)
theorem gl_at {n m j t : Nat} (h : t < n + m) : (gl n m j)[t]? = some (if t < n then fv j else gv j) := by
  unfold gl
  by_cases e : t < n
  · rw [List.getElem?_append_left (by simpa using e), List.getElem?_replicate, if_pos e, if_pos e]
  · rw [List.getElem?_append_right (by simp; omega), List.getElem?_replicate, if_pos (by simp; omega), if_neg e]
theorem gl_take (n m j : Nat) : (gl n m j).take n = List.replicate n (fv j) := by
  unfold gl
  rw [List.take_append_of_le_length (by simp), List.take_of_length_le (by simp)]
theorem gl_succ (n m j : Nat) : gl n m j ++ [gv j] = gl n (m + 1) j := by
  unfold gl
  rw [List.replicate_succ', List.append_assoc]
/-- three rows of bytes, and the row of them -/
structure O3 (W : World) (N P : Nat) (rv : Value) (o : Nat → Value) (n : Nat → Nat) (X : Nat → List Value) : Prop where
  own : ∀ j, j < N → W.ownsRow 0 5 1 (o j) (n j) (X j)
  row : W.ownsRow P 26 1 rv N ((List.range N).map o)
theorem O3.cell {W : World} {N P g rc : Nat} {o : Nat → Value} {n : Nat → Nat} {X : Nat → List Value} (h : O3 W N P (.slice (some ⟨g, 0, none⟩) N rc) o n X) {i : Nat} (hi : i < N) : W.cell? ⟨g, i, none⟩ = some (o i) := by
  rw [h.row.cellAt i (by omega), List.getElem?_map, List.getElem?_range hi]
  rfl
theorem O3.new {W W' : World} {N P : Nat} {rv : Value} {o : Nat → Value} {n : Nat → Nat} {X : Nat → List Value} (h : O3 W N P rv o n X) (k : Keep (fun _ => False) W W') : O3 W' N P rv o n X := ⟨fun j hj => ownsRow_new (h.own j hj) k, ownsRow_new h.row k⟩
def Apart (N : Nat) (o : Nat → Value) : Prop := ∀ j k g, j < N → k < N → j ≠ k → (o j).ownBlock = some g → (o k).ownBlock ≠ some g
theorem O3.fill {W W' : World} {N P : Nat} {rv : Value} {o : Nat → Value} {n : Nat → Nat} {X : Nat → List Value} (h : O3 W N P rv o n X) (ha : Apart N o) {i : Nat} (hi : i < N) {Y : List Value} (k : Keep (fun g => (o i).ownBlock = some g) W W') (hr : W'.ownsRow 0 5 1 (o i) (n i) Y) : O3 W' N P rv o n (fun j => if j = i then Y else X j) := by
  refine ⟨fun j hj => ?_, ownsRow_keep h.row k fun q e1 e2 => typ_ne (h.own i hi) h.row (by decide) e1 e2⟩
  by_cases e : j = i
  · subst e
    simp only [if_true]
    exact hr
  · simp only [if_neg e]
    exact ownsRow_keep (h.own j hj) k fun q e1 e2 => ha i j q hi hj (fun e' => e e'.symm) e1 e2
/-- some have been grown -/
structure G3 (W : World) (N P B : Nat) (rv : Value) (o : Nat → Value) (n : Nat → Nat) (i : Nat) (gs : Value) (u : Nat → Value) : Prop where
  o3 : O3 W N P rv o n (fun j => List.replicate (n j) (fv j))
  gs : W.ownsRow B 26 1 gs i ((List.range i).map u)
  us : ∀ j, j < i → W.ownsRow 0 5 1 (u j) (n j + 40) (gl (n j) 40 j)
  ne : ∀ j k g, j < i → k < N → k ≠ j → (u j).ownBlock = some g → (o k).ownBlock ≠ some g
  p : ∀ g, rv.ownBlock = some g → g < B
  q : B ≤ W.heap.size
theorem G3.new {W W' : World} {N P B i : Nat} {rv : Value} {o u : Nat → Value} {n : Nat → Nat} {gs : Value} (h : G3 W N P B rv o n i gs u) (k : Keep (fun _ => False) W W') : G3 W' N P B rv o n i gs u :=
  ⟨h.o3.new k, ownsRow_new h.gs k, fun j hj => ownsRow_new (h.us j hj) k, h.ne, h.p, by have := k.size; have := h.q; omega⟩
/-- the next one is being grown: m more -/
structure G4 (W : World) (N P B : Nat) (rv : Value) (o : Nat → Value) (n : Nat → Nat) (i : Nat) (gs : Value) (u : Nat → Value) (m : Nat) (v : Value) : Prop where
  g3 : G3 W N P B rv o n i gs u
  vo : W.ownsRow 0 5 1 v (n i + m) (gl (n i) m i)
  vn : ∀ g, v.ownBlock = some g → (∀ k, k < N → k ≠ i → (o k).ownBlock ≠ some g) ∧ ∀ j, j < i → (u j).ownBlock ≠ some g
  vf : ∀ g, v.ownBlock = some g → (o i).ownBlock = some g ∨ B ≤ g
theorem G3.begin {W : World} {N P B i : Nat} {rv : Value} {o u : Nat → Value} {n : Nat → Nat} {gs : Value} (h : G3 W N P B rv o n i gs u) (ha : Apart N o) (hi : i < N) : G4 W N P B rv o n i gs u 0 (o i) :=
  ⟨h, by have := h.o3.own i hi; simpa [gl] using this, fun g hg => ⟨fun k hk hne => ha i k g hi hk (fun e => hne e.symm) hg, fun j hj hu => h.ne j i g hj hi (by omega) hu hg⟩, fun g hg => .inl hg⟩
theorem G4.new {W W' : World} {N P B i m : Nat} {rv : Value} {o u : Nat → Value} {n : Nat → Nat} {gs v : Value} (h : G4 W N P B rv o n i gs u m v) (k : Keep (fun _ => False) W W') : G4 W' N P B rv o n i gs u m v := ⟨h.g3.new k, ownsRow_new h.vo k, h.vn, h.vf⟩
theorem G4.app {W W' : World} {N P B i m : Nat} {rv : Value} {o u : Nat → Value} {n : Nat → Nat} {gs v v' : Value} (h : G4 W N P B rv o n i gs u m v) (hi : i < N) {y : Int} (hy : y = (((2 * i + 2) % 256 : Nat) : Int)) (ap : App W v (n i + m) (gl (n i) m i) y v' W') : G4 W' N P B rv o n i gs u (m + 1) v' := by
  subst hy
  have oth : ∀ {b e : Nat} {r : Value} {k : Nat} {xs : List Value}, W.ownsRow b e 1 r k xs → (∀ g, v.ownBlock = some g → r.ownBlock ≠ some g) → W'.ownsRow b e 1 r k xs := fun h1 h2 => ownsRow_keep h1 ap.keep fun g hg => h2 g hg
  refine ⟨⟨⟨fun j hj => ?_, oth h.g3.o3.row fun g hg => typ_ne h.vo h.g3.o3.row (by decide) hg⟩, oth h.g3.gs fun g hg => typ_ne h.vo h.g3.gs (by decide) hg, fun j hj => oth (h.g3.us j hj) fun g hg => (h.vn g hg).2 j hj, h.g3.ne, h.g3.p, by have := ap.keep.size; have := h.g3.q; omega⟩, ?_, fun g hg => ?_, fun g hg => ?_⟩
  · by_cases e : j = i
    · subst e
      by_cases e2 : (o j).ownBlock = v.ownBlock
      · exact pre_row (h.g3.o3.own j hj) h.vo ap.old e2 (gl_take _ _ _).symm (by omega)
      · exact oth (h.g3.o3.own j hj) fun g hg hg2 => e2 (hg2.trans hg.symm)
    · exact oth (h.g3.o3.own j hj) fun g hg => (h.vn g hg).1 j hj e
  · have := ap.own
    rw [show gl (n i) m i ++ [Value.int .u8 (((2 * i + 2) % 256 : Nat) : Int)] = gl (n i) (m + 1) i from gl_succ _ _ _] at this
    exact this
  · rcases ap.pl with e | e
    · exact h.vn g (by rw [← e]; exact hg)
    · rw [e] at hg
      injection hg with hg
      subst hg
      exact ⟨fun k hk _ hk2 => by have := ((h.g3.o3.own k hk).lt _ hk2).2; omega, fun j hj hj2 => by have := ((h.g3.us j hj).lt _ hj2).2; omega⟩
  · rcases ap.pl with e | e
    · exact h.vf g (by rw [← e]; exact hg)
    · rw [e] at hg
      injection hg with hg
      subst hg
      exact .inr h.g3.q
theorem G4.done {W W' : World} {N P B i : Nat} {rv : Value} {o u : Nat → Value} {n : Nat → Nat} {gs v gs' : Value} (h : G4 W N P B rv o n i gs u 40 v) (hi : i < N) (ho : W'.ownsRow B 26 1 gs' (i + 1) ((List.range i).map u ++ [v])) (k : Keep (fun j => gs.ownBlock = some j) W W') : G3 W' N P B rv o n (i + 1) gs' (fun j => if j = i then v else u j) := by
  have ints : ∀ {r : Value} {m : Nat} {xs : List Value}, W.ownsRow 0 5 1 r m xs → W'.ownsRow 0 5 1 r m xs := fun h1 => ownsRow_keep h1 k fun g hg => typ_ne h.g3.gs h1 (by decide) hg
  refine ⟨⟨fun j hj => ints (h.g3.o3.own j hj), ownsRow_keep h.g3.o3.row k fun g hg hg2 => ?_⟩, ?_, fun j hj => ?_, fun j m g hj hm hne hg => ?_, h.g3.p, by have := k.size; have := h.g3.q; omega⟩
  · have h1 := (h.g3.gs.lt g hg).1
    have := h.g3.p g hg2
    omega
  · have e : (List.range (i + 1)).map (fun j => if j = i then v else u j) = (List.range i).map u ++ [v] := by
      rw [List.range_succ, List.map_append]
      congr 1
      · refine List.map_congr_left fun j hj => ?_
        rw [if_neg (by have := List.mem_range.1 hj; omega)]
      · simp
    rw [e]; exact ho
  · by_cases e : j = i
    · subst e
      simp only [if_true]
      exact ints h.vo
    · simp only [if_neg e]
      exact ints (h.g3.us j (by omega))
  · by_cases e : j = i
    · subst e
      simp only [if_true] at hg
      exact (h.vn g hg).1 m hm hne
    · simp only [if_neg e] at hg
      exact h.g3.ne j m g (by omega) hm hne hg
def Sb (N : Nat) (o : Nat → Value) (k : Nat) : Prop := ∃ j, j < N ∧ (o j).ownBlock = some k
def F1 (w : World) (N P : Nat) (rv : Value) (o : Nat → Value) (n : Nat → Nat) (i : Nat) (wr : World) : Prop := ∃ X, O3 wr N P rv o n X ∧ (∀ j, j < i → X j = List.replicate (n j) (fv j)) ∧ Keep (Sb N o) w wr
def F3 (w : World) (N P B : Nat) (rv : Value) (o : Nat → Value) (n : Nat → Nat) (i : Nat) (gs : Value) (wr : World) : Prop := ∃ u, G3 wr N P B rv o n i gs u ∧ Keep (Sb N o) w wr
def F2 (w : World) (N P : Nat) (rv : Value) (o : Nat → Value) (n : Nat → Nat) (i k : Nat) (wr : World) : Prop := ∃ X, O3 wr N P rv o n X ∧ (∀ j, j < i → X j = List.replicate (n j) (fv j)) ∧ (∀ t, t < k → (X i)[t]? = some (fv i)) ∧ Keep (Sb N o) w wr
end Ob
end Go.Proofs.Ytmaeaibphggceaa
