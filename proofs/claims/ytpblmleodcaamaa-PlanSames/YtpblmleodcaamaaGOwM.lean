/- Rows that are their owner's alone: written full, grown, looked at. -/
import Derived.Test.YtpblmleodcaamaaGTnM
import Derived.Maps.AppendAt
namespace Go.Proofs.Ytpblmleodcaamaa
namespace Gr
open Go.RowKit

/-- what an append of a number leaves -/
structure App (w : World) (v : Value) (n : Nat) (xs : List Value) (y : Int) (v' : Value) (w' : World) : Prop where
  own : w'.ownsRow 0 3 1 v' (n + 1) (xs ++ [.int .i64 y])
  old : w'.ownsRow 0 3 1 v n xs
  keep : Keep (fun k => v.ownBlock = some k) w w'
  pl : v'.ownBlock = v.ownBlock ∨ v'.ownBlock = some w.heap.size
theorem wp_append1M {w : World} {ops : Array Oper} {rest : List Oper} {o : Oper} {a : Act} {Q : Exit → Act → World → Prop} (hgd : o.guard = none) (s x : Operand)
    (ho : o.op = .call { callee := .builtin .append, args := #[s, x], argTypes := #[34, 34] })
    (v : Value) (n : Nat) (xs : List Value) (hs : a.eval s = v) (hown : w.ownsRow 0 3 1 v n xs) (ad : Addr) (y : Int) (hx : a.eval x = .slice (some ad) 1 1) (hc : w.cell? ad = some (.int .i64 y)) (hn : n + 1 ≤ 17592186044416)
    (h : ∀ v' w', App w v n xs y v' w' → wpList Try.prog ops Q rest (a.put o.dst v') w') : wpList Try.prog ops Q (o :: rest) a w := by
  obtain ⟨i0, hi, hz0, hz1, hz2⟩ := info_parts info_int
  have hnews : ∀ j u, [Value.int .i64 y][j]? = some u → w.cell? (ad.add j) = some u := fun j u hu => by
    cases j with
    | zero =>
      have : u = .int .i64 y := by simpa using hu.symm
      subst this
      simpa [Addr.add] using hc
    | succ j => simp at hu
  have h1 : ∀ u ∈ [Value.int .i64 y], u.oneCell' = true := fun u hu => by rw [List.mem_singleton.1 hu]; rfl
  refine wpList_plain hgd fun K hK => ?_
  obtain ⟨v', w', hr, h2, h3, _, h5⟩ := run_append_own_at (P := Try.prog) w 0 34 o.type 3 i0 (.int .i64 0) 1 8 Try.underlying34 hi hz0 hz1 hz2 rfl (by decide) v n xs hown ad 1 1 [.int .i64 y] rfl hnews h1 (by unfold maxLen; omega) (by omega) (Nat.zero_le _)
  have hold : w'.ownsRow 0 3 1 v n xs := by
    rcases hown.2 with ⟨rfl, rfl⟩ | ⟨g, cap, cur, rfl, hbg, hg, hnc, hcm, hcs, htake⟩
    · exact ⟨hown.1, .inl ⟨rfl, rfl⟩⟩
    · by_cases hroom : n + 1 ≤ cap
      · have hr2 := run_append_room (P := Try.prog) w 34 o.type 3 i0 Try.underlying34 hi g n cap cur hg ad 1 1 [.int .i64 y] (by rw [hz1]; rfl) hnews h1 hroom (by rw [hz1, hcs]; show n * 1 + 1 ≤ cap * 1; omega)
        rw [hr] at hr2
        injection hr2 with e1 e2
        subst e1
        rcases h2.2 with ⟨e, _⟩ | ⟨g', cap', cur', e, b', hg', nc', cm', cs', tk'⟩
        · cases e
        · injection e with e3 e4 e5
          injection e3 with e3
          injection e3 with e3
          subst e3
          subst e5
          refine ⟨hown.1, .inr ⟨g, cap, cur', rfl, hbg, hg', hnc, hcm, cs', ?_⟩⟩
          have : cur'.toList.take (n * 1) = (xs ++ [Value.int .i64 y]).take (n * 1) := by
            rw [← tk', List.take_take]
            congr 1
            omega
          rw [this, List.take_append_of_le_length (by rw [hown.1]; exact Nat.le_refl _), ← hown.1, List.take_length]
      · have hr2 := run_append_grow (P := Try.prog) w 34 o.type 3 i0 (.int .i64 0) Try.underlying34 hi hz0 ⟨g, 0, none⟩ n cap xs (by rw [hz1]; exact hown.1) (hown.cells (g := g) rfl) ad 1 1 [.int .i64 y] (by rw [hz1]; rfl) hnews (by omega) (by omega) (growslice_fits (by omega) (by rw [hz2]; omega))
        rw [hr] at hr2
        injection hr2 with e1 e2
        subst e2
        exact (World.ownsRow.alloc (World.ownsRow.drew hown) _)
  unfold Oper.wp execOp
  simp only [ho, resolve, invoke, builtin, Sem.run_bind, Sem.run_pure, Result.andThen_ok, List.map_toArray, List.map_cons, List.map_nil, hs, hx, hr]
  exact hK _ _ (h v' w' ⟨h2, hold, Keep.grown h3 fun k e => e, h5⟩)
/-- a row in the same block, the beginning of one that still stands -/
theorem pre_row {w w' : World} {o v : Value} {n m : Nat} {xs ys : List Value} (h : w.ownsRow 0 3 1 o n xs) (hv : w.ownsRow 0 3 1 v m ys) (hv' : w'.ownsRow 0 3 1 v m ys) (hb : o.ownBlock = v.ownBlock) (hx : xs = ys.take n) (hn : n ≤ m) : w'.ownsRow 0 3 1 o n xs := by
  rcases h.2 with ⟨rfl, rfl⟩ | ⟨g, cap, cur, rfl, hbg, hg, hnc, hcm, hcs, htake⟩
  · exact ⟨h.1, .inl ⟨rfl, rfl⟩⟩
  · rcases hv.2 with ⟨rfl, _⟩ | ⟨g2, cap2, cur2, rfl, hbg2, hg2, hnc2, hcm2, hcs2, htake2⟩
    · cases hb
    · have e : g = g2 := by simpa [Value.ownBlock] using hb
      subst e
      rw [hg] at hg2
      injection hg2 with hg2
      injection hg2 with hg2
      subst hg2
      rcases hv'.2 with ⟨e, _⟩ | ⟨g3, cap3, cur3, e, b3, hg3, nc3, cm3, cs3, tk3⟩
      · cases e
      · injection e with e1 e2 e3
        injection e1 with e1
        injection e1 with e1
        subst e1
        subst e3
        refine ⟨h.1, .inr ⟨g, cap, cur3, rfl, Nat.zero_le _, hg3, hnc, hcm, by rw [cs3, ← hcs2, hcs], ?_⟩⟩
        rw [hx, ← tk3, List.take_take]
        congr 1
        omega
theorem typ_ne {w : World} {b b' n n' : Nat} {e e' : TypeId} {v v' : Value} {xs xs' : List Value} (h : w.ownsRow b e 1 v n xs) (h' : w.ownsRow b' e' 1 v' n' xs') (he : e ≠ e') {g : Nat} (hg : v.ownBlock = some g) : v'.ownBlock ≠ some g := fun hg' => by
  rcases h.2 with ⟨rfl, _⟩ | ⟨g1, cap, cur, rfl, _, h3, _⟩
  · cases hg
  · rcases h'.2 with ⟨rfl, _⟩ | ⟨g2, cap2, cur2, rfl, _, h4, _⟩
    · cases hg'
    · have e1 : g1 = g := by simpa [Value.ownBlock] using hg
      have e2 : g2 = g := by simpa [Value.ownBlock] using hg'
      subst e1
      subst e2
      rw [h3] at h4
      injection h4 with h4
      injection h4 with _ h4
      exact he h4
def xv (j : Nat) : Value := .int .i64 (-100 - (j : Int))
/-- three rows of numbers, and the row of them -/
structure O3 (W : World) (P : Nat) (o : Nat → Value) (n : Nat → Nat) (X : Nat → List Value) : Prop where
  own : ∀ j, j < 3 → W.ownsRow 0 3 1 (o j) (n j) (X j)
  row : W.ownsRow P 34 1 (.slice (some ⟨P, 0, none⟩) 3 3) 3 [o 0, o 1, o 2]
theorem O3.cell {W : World} {P : Nat} {o : Nat → Value} {n : Nat → Nat} {X : Nat → List Value} (h : O3 W P o n X) {i : Nat} (hi : i < 3) : W.cell? ⟨P, i, none⟩ = some (o i) := by
  rw [h.row.cellAt i (by omega)]
  have : i = 0 ∨ i = 1 ∨ i = 2 := by omega
  rcases this with rfl | rfl | rfl <;> rfl
theorem O3.new {W W' : World} {P : Nat} {o : Nat → Value} {n : Nat → Nat} {X : Nat → List Value} (h : O3 W P o n X) (k : Keep (fun _ => False) W W') : O3 W' P o n X := ⟨fun j hj => ownsRow_new (h.own j hj) k, ownsRow_new h.row k⟩
def Apart (o : Nat → Value) : Prop := ∀ j k g, j < 3 → k < 3 → j ≠ k → (o j).ownBlock = some g → (o k).ownBlock ≠ some g
theorem O3.set {W : World} {P : Nat} {o : Nat → Value} {n : Nat → Nat} {X : Nat → List Value} (h : O3 W P o n X) (ha : Apart o) {i g k c : Nat} (hi : i < 3) (ho : o i = .slice (some ⟨g, 0, none⟩) (n i) c) (x : Value) : O3 (W.setCell ⟨g, k, none⟩ x) P o n (fun j => if j = i then (X i).set k x else X j) := by
  have hb : (o i).ownBlock = some g := by rw [ho]; rfl
  have kS := keep_cell W g k x
  refine ⟨fun j hj => ?_, ownsRow_keep h.row kS fun q e1 e2 => ?_⟩
  · by_cases e : j = i
    · subst e
      simp only [if_true]
      have h0 := h.own j hj
      rw [ho] at h0 ⊢
      exact (h0.stored k x).1
    · simp only [if_neg e]
      exact ownsRow_keep (h.own j hj) kS fun q e1 e2 => ha i j g hi hj (fun e' => e e'.symm) hb (by rw [← e1]; exact e2)
  · subst e1
    exact typ_ne (h.own i hi) h.row (by decide) hb e2
/-- some have been grown -/
structure G3 (W : World) (P : Nat) (o : Nat → Value) (n : Nat → Nat) (i : Nat) (gv : Value) (u : Nat → Value) : Prop where
  o3 : O3 W P o n (fun j => List.replicate (n j) (xv j))
  gs : W.ownsRow (P + 1) 34 1 gv i ((List.range i).map u)
  us : ∀ j, j < i → W.ownsRow 0 3 1 (u j) (n j + 70) (List.replicate (n j + 70) (xv j))
  ne : ∀ j k g, j < i → k < 3 → k ≠ j → (u j).ownBlock = some g → (o k).ownBlock ≠ some g
  p : P < W.heap.size
theorem G3.new {W W' : World} {P i : Nat} {o u : Nat → Value} {n : Nat → Nat} {gv : Value} (h : G3 W P o n i gv u) (k : Keep (fun _ => False) W W') : G3 W' P o n i gv u :=
  ⟨h.o3.new k, ownsRow_new h.gs k, fun j hj => ownsRow_new (h.us j hj) k, h.ne, by have := k.size; have := h.p; omega⟩
/-- the next one is being grown: m more -/
structure G4 (W : World) (P : Nat) (o : Nat → Value) (n : Nat → Nat) (i : Nat) (gv : Value) (u : Nat → Value) (m : Nat) (v : Value) (b : Nat) : Prop where
  g3 : G3 W P o n i gv u
  vo : W.ownsRow 0 3 1 v (n i + m) (List.replicate (n i + m) (xv i))
  vn : ∀ g, v.ownBlock = some g → (∀ k, k < 3 → k ≠ i → (o k).ownBlock ≠ some g) ∧ ∀ j, j < i → (u j).ownBlock ≠ some g
  vf : ∀ g, v.ownBlock = some g → (o i).ownBlock = some g ∨ b ≤ g
theorem G3.begin {W : World} {P i : Nat} {o u : Nat → Value} {n : Nat → Nat} {gv : Value} (h : G3 W P o n i gv u) (ha : Apart o) (hi : i < 3) (b : Nat) : G4 W P o n i gv u 0 (o i) b :=
  ⟨h, h.o3.own i hi, fun g hg => ⟨fun k hk hne => ha i k g hi hk (fun e => hne e.symm) hg, fun j hj hu => h.ne j i g hj hi (by omega) hu hg⟩, fun g hg => .inl hg⟩
theorem G4.new {W W' : World} {P i m b : Nat} {o u : Nat → Value} {n : Nat → Nat} {gv v : Value} (h : G4 W P o n i gv u m v b) (k : Keep (fun _ => False) W W') : G4 W' P o n i gv u m v b := ⟨h.g3.new k, ownsRow_new h.vo k, h.vn, h.vf⟩
theorem G4.app {W W' : World} {P i m b : Nat} {o u : Nat → Value} {n : Nat → Nat} {gv v v' : Value} (h : G4 W P o n i gv u m v b) (hi : i < 3) (hb : b ≤ W.heap.size) (ap : App W v (n i + m) (List.replicate (n i + m) (xv i)) (-100 - (i : Int)) v' W') : G4 W' P o n i gv u (m + 1) v' b := by
  have oth : ∀ {b e : Nat} {r : Value} {k : Nat} {xs : List Value}, W.ownsRow b e 1 r k xs → (∀ g, v.ownBlock = some g → r.ownBlock ≠ some g) → W'.ownsRow b e 1 r k xs := fun h1 h2 => ownsRow_keep h1 ap.keep fun g hg => h2 g hg
  refine ⟨⟨⟨fun j hj => ?_, oth h.g3.o3.row fun g hg => typ_ne h.vo h.g3.o3.row (by decide) hg⟩, oth h.g3.gs fun g hg => typ_ne h.vo h.g3.gs (by decide) hg, fun j hj => oth (h.g3.us j hj) fun g hg => (h.vn g hg).2 j hj, h.g3.ne, by have := ap.keep.size; have := h.g3.p; omega⟩, ?_, fun g hg => ?_, fun g hg => ?_⟩
  · by_cases e : j = i
    · subst e
      by_cases e2 : (o j).ownBlock = v.ownBlock
      · exact pre_row (h.g3.o3.own j hj) h.vo ap.old e2 (by rw [List.take_replicate, Nat.min_eq_left (by omega)]) (by omega)
      · exact oth (h.g3.o3.own j hj) fun g hg hg2 => e2 (hg2.trans hg.symm)
    · exact oth (h.g3.o3.own j hj) fun g hg => (h.vn g hg).1 j hj e
  · have := ap.own
    rw [show List.replicate (n i + m) (xv i) ++ [Value.int .i64 (-100 - (i : Int))] = List.replicate (n i + (m + 1)) (xv i) by
      rw [← Nat.add_assoc, List.replicate_succ']; rfl] at this
    exact this
  · rcases ap.pl with e | e
    · exact h.vn g (by rw [← e]; exact hg)
    · rw [e] at hg
      injection hg with hg
      subst hg
      exact ⟨fun k hk _ hk2 => by have := ((h.g3.o3.own k hk).lt _ hk2).2; omega, fun j hj hj2 => by have := ((h.g3.us j hj).lt _ hj2).2; omega⟩
  · rcases ap.pl with e | e
    · exact h.vf g (by rw [← e]; exact hg)
    · rw [e] at hg
      injection hg with hg
      subst hg
      exact .inr hb
end Gr
end Go.Proofs.Ytpblmleodcaamaa
