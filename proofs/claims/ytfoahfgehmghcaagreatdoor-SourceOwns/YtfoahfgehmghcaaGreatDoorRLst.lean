import Derived.Test.YtfoahfgehmghcaaGreatDoorGBase
import Derived.Maps.AppendAt
import Derived.Deep.Cut
import Derived.Test.YtfoahfgehmghcaaGreatDoorUBea
import Derived.Deep.MidRow
import Derived.Great.BuildSlice
import Derived.Test.YtfoahfgehmghcaaGreatDoorULa2
import Derived.OrdersHeld
import Derived.Deep.RegionHeld
/- Rows that are their owner's alone, of whatever elements: written full, grown, looked at (law own of package source). -/
namespace Go.Proofs.YtfoahfgehmghcaaGreatDoor
namespace So
open Go.RowKit

theorem ownsRow_keep {w w' : World} {b : Nat} {e : TypeId} {size : Nat} {v : Value} {n : Nat} {xs : List Value} (h : w.ownsRow b e size v n xs) {S : Nat → Prop} (k : Keep S w w') (hS : ∀ i, S i → v.ownBlock ≠ some i) : w'.ownsRow b e size v n xs := by
  refine ⟨h.1, ?_⟩
  rcases h.2 with h' | ⟨g, cap, cur, h1, h2, h3, h4⟩
  · exact .inl h'
  · subst h1
    exact .inr ⟨g, cap, cur, rfl, h2, k.blk h3 (fun hs => hS g hs rfl), h4⟩
theorem ownsRow_new {w w' : World} {b : Nat} {e : TypeId} {size : Nat} {v : Value} {n : Nat} {xs : List Value} (h : w.ownsRow b e size v n xs) (k : Keep (fun _ => False) w w') : w'.ownsRow b e size v n xs := ownsRow_keep h k fun _ f => f.elim
theorem own_form {w : World} {base : Nat} {e : TypeId} {size : Nat} {v : Value} {n : Nat} {xs : List Value} (h : w.ownsRow base e size v n xs) (hn : 0 < n) : ∃ g cap, v = .slice (some ⟨g, 0, none⟩) n cap := by
  rcases h.2 with ⟨_, h0⟩ | ⟨g, cap, cur, hv, _⟩
  · omega
  · exact ⟨g, cap, hv⟩
theorem cell_one (w : World) (v : Value) (t : TypeId) : (w.alloc (.cells #[v] t)).cell? ⟨w.heap.size, 0, none⟩ = some v := by rw [World.cell?_alloc_mark]; rfl
theorem info_i64N : (Tryz.prog.info? 3).map (fun i => (i.zero, i.size, i.bytes)) = some (some (.int .i64 0), 1, 8) := by kernel_rfl
theorem info_nodeN : (Tryz.prog.info? 32).map (fun i => (i.zero, i.size, i.bytes)) = some (some (.agg #[.string ⟨#[]⟩, .int .i64 0, .int .i64 0, .int .i64 0, .int .i64 0, .int .i64 0, .int .i64 0, .int .i64 0, .slice none 0 0, .slice none 0 0]), 10, 120) := by kernel_rfl
theorem info_lint : (Tryz.prog.info? 30).map (fun i => (i.zero, i.size, i.bytes)) = some (some (.slice none 0 0), 1, 24) := by kernel_rfl
theorem info_lnode : (Tryz.prog.info? 22).map (fun i => (i.zero, i.size, i.bytes)) = some (some (.slice none 0 0), 1, 24) := by kernel_rfl
theorem wp_appendL {w : World} {ops : Array Oper} {rest : List Oper} {o : Oper} {a : Act} {Q : Exit → Act → World → Prop} (hgd : o.guard = none) (s x : Operand)
    (ho : o.op = .call { callee := .builtin .append, args := #[s, x], argTypes := #[27, 27] })
    (base : Nat) (v : Value) (n : Nat) (xs : List Value) (hs : a.eval s = v) (hown : w.ownsRow base 30 1 v n xs) (ad : Addr) (y1 : Option Addr) (y2 y3 : Nat) (hx : a.eval x = .slice (some ad) 1 1) (hc : w.cell? ad = some (.slice y1 y2 y3)) (hn : n + 1 ≤ 5000000000000) (hbase : base ≤ w.heap.size)
    (h : ∀ v' w', w'.ownsRow base 30 1 v' (n + 1) (xs ++ [.slice y1 y2 y3]) → Keep (fun k => v.ownBlock = some k) w w' → NewBlk w v v' → wpList Tryz.prog ops Q rest (a.put o.dst v') w') : wpList Tryz.prog ops Q (o :: rest) a w := by
  obtain ⟨i0, hi, hz0, hz1, hz2⟩ := info_parts info_lint
  refine wpList_append_own2 hgd s x 27 ho base 30 i0 (.slice none 0 0) 1 24 Tryz.underlying27 hi hz0 hz1 hz2 rfl (by decide) v n xs hs hown ad 1 1 [.slice y1 y2 y3] hx rfl (fun j u hu => ?_) (fun u hu => by rw [List.mem_singleton.1 hu]; rfl) (by unfold maxLen; omega) (by omega) hbase ?_
  · cases j with
    | zero =>
      have : u = .slice y1 y2 y3 := by simpa using hu.symm
      subst this
      simpa [Addr.add] using hc
    | succ j => simp at hu
  · intro v' w' h1 h2 h3
    exact h v' w' h1 (Keep.grown h2 fun k e => e) h3
theorem wp_appendLN {w : World} {ops : Array Oper} {rest : List Oper} {o : Oper} {a : Act} {Q : Exit → Act → World → Prop} (hgd : o.guard = none) (s x : Operand)
    (ho : o.op = .call { callee := .builtin .append, args := #[s, x], argTypes := #[67, 67] })
    (base : Nat) (v : Value) (n : Nat) (xs : List Value) (hs : a.eval s = v) (hown : w.ownsRow base 22 1 v n xs) (ad : Addr) (y1 : Option Addr) (y2 y3 : Nat) (hx : a.eval x = .slice (some ad) 1 1) (hc : w.cell? ad = some (.slice y1 y2 y3)) (hn : n + 1 ≤ 5000000000000) (hbase : base ≤ w.heap.size)
    (h : ∀ v' w', w'.ownsRow base 22 1 v' (n + 1) (xs ++ [.slice y1 y2 y3]) → Keep (fun k => v.ownBlock = some k) w w' → NewBlk w v v' → wpList Tryz.prog ops Q rest (a.put o.dst v') w') : wpList Tryz.prog ops Q (o :: rest) a w := by
  obtain ⟨i0, hi, hz0, hz1, hz2⟩ := info_parts info_lnode
  refine wpList_append_own2 hgd s x 67 ho base 22 i0 (.slice none 0 0) 1 24 Tryz.underlying67 hi hz0 hz1 hz2 rfl (by decide) v n xs hs hown ad 1 1 [.slice y1 y2 y3] hx rfl (fun j u hu => ?_) (fun u hu => by rw [List.mem_singleton.1 hu]; rfl) (by unfold maxLen; omega) (by omega) hbase ?_
  · cases j with
    | zero =>
      have : u = .slice y1 y2 y3 := by simpa using hu.symm
      subst this
      simpa [Addr.add] using hc
    | succ j => simp at hu
  · intro v' w' h1 h2 h3
    exact h v' w' h1 (Keep.grown h2 fun k e => e) h3
/-- what an append leaves -/
structure App (et : TypeId) (s : Nat) (w : World) (v : Value) (n : Nat) (xs ys : List Value) (v' : Value) (w' : World) : Prop where
  own : w'.ownsRow 0 et s v' (n + 1) (xs ++ ys)
  old : w'.ownsRow 0 et s v n xs
  keep : Keep (fun k => v.ownBlock = some k) w w'
  pl : v'.ownBlock = v.ownBlock ∨ v'.ownBlock = some w.heap.size
set_option maxRecDepth 100000 in
theorem wp_appendI {w : World} {ops : Array Oper} {rest : List Oper} {o : Oper} {a : Act} {Q : Exit → Act → World → Prop} (hgd : o.guard = none) (s x : Operand)
    (ho : o.op = .call { callee := .builtin .append, args := #[s, x], argTypes := #[30, 30] })
    (v : Value) (n : Nat) (xs : List Value) (hs : a.eval s = v) (hown : w.ownsRow 0 3 1 v n xs) (ad : Addr) (y : Int) (hx : a.eval x = .slice (some ad) 1 1) (hc : w.cell? ad = some (.int .i64 y)) (hn : n + 1 ≤ 17592186044416)
    (h : ∀ v' w', App 3 1 w v n xs [.int .i64 y] v' w' → wpList Tryz.prog ops Q rest (a.put o.dst v') w') : wpList Tryz.prog ops Q (o :: rest) a w := by
  obtain ⟨i0, hi, hz0, hz1, hz2⟩ := info_parts info_i64N
  have hnews : ∀ j u, [Value.int .i64 y][j]? = some u → w.cell? (ad.add j) = some u := fun j u hu => by
    cases j with
    | zero =>
      have : u = .int .i64 y := by simpa using hu.symm
      subst this
      simpa [Addr.add] using hc
    | succ j => simp at hu
  have h1 : ∀ u ∈ [Value.int .i64 y], u.oneCell' = true := fun u hu => by rw [List.mem_singleton.1 hu]; rfl
  refine wpList_plain hgd fun K hK => ?_
  obtain ⟨v', w', hr, h2, h3, _, h5⟩ := run_append_own_at (P := Tryz.prog) w 0 30 o.type 3 i0 (.int .i64 0) 1 8 Tryz.underlying30 hi hz0 hz1 hz2 rfl (by decide) v n xs hown ad 1 1 [.int .i64 y] rfl hnews h1 (by unfold maxLen; omega) (by omega) (Nat.zero_le _)
  have hold : w'.ownsRow 0 3 1 v n xs := by
    rcases hown.2 with ⟨rfl, rfl⟩ | ⟨g, cap, cur, rfl, hbg, hg, hnc, hcm, hcs, htake⟩
    · exact ⟨hown.1, .inl ⟨rfl, rfl⟩⟩
    · by_cases hroom : n + 1 ≤ cap
      · have hr2 := run_append_room (P := Tryz.prog) w 30 o.type 3 i0 Tryz.underlying30 hi g n cap cur hg ad 1 1 [.int .i64 y] (by rw [hz1]; rfl) hnews h1 hroom (by rw [hz1, hcs]; show n * 1 + 1 ≤ cap * 1; omega)
        rw [hr] at hr2
        injection hr2 with e1 e2
        subst e1
        rcases h2.2 with ⟨e, _⟩ | ⟨g', cap', cur', e, b', hg', nc', cm', cs', tk'⟩
        · cases e
        · injection e with e3 e4 e5
          injection e3 with e3
          injection e3 with e3
          subst e3
          subst e5
          refine ⟨hown.1, .inr ⟨g, cap, cur', rfl, hbg, hg', hnc, hcm, cs', ?_⟩⟩
          have : cur'.toList.take (n * 1) = (xs ++ [Value.int .i64 y]).take (n * 1) := by
            rw [← tk', List.take_take]
            congr 1
            omega
          rw [this, List.take_append_of_le_length (by rw [hown.1]; exact Nat.le_refl _), ← hown.1, List.take_length]
      · have hr2 := run_append_grow (P := Tryz.prog) w 30 o.type 3 i0 (.int .i64 0) Tryz.underlying30 hi hz0 ⟨g, 0, none⟩ n cap xs (by rw [hz1]; exact hown.1) (hown.cells (g := g) rfl) ad 1 1 [.int .i64 y] (by rw [hz1]; rfl) hnews (by omega) (by omega) (growslice_fits (by omega) (by rw [hz2]; omega))
        rw [hr] at hr2
        injection hr2 with e1 e2
        subst e2
        exact (World.ownsRow.alloc (World.ownsRow.drew hown) _)
  unfold Oper.wp execOp
  simp only [ho, resolve, invoke, builtin, Sem.run_bind, Sem.run_pure, Result.andThen_ok, List.map_toArray, List.map_cons, List.map_nil, hs, hx, hr]
  exact hK _ _ (h v' w' ⟨h2, hold, Keep.grown h3 fun k e => e, h5⟩)
set_option maxRecDepth 100000 in
theorem wp_appendN {w : World} {ops : Array Oper} {rest : List Oper} {o : Oper} {a : Act} {Q : Exit → Act → World → Prop} (hgd : o.guard = none) (s x : Operand)
    (ho : o.op = .call { callee := .builtin .append, args := #[s, x], argTypes := #[22, 22] })
    (v : Value) (n : Nat) (xs : List Value) (hs : a.eval s = v) (hown : w.ownsRow 0 32 10 v n xs) (ad : Addr) (ys : List Value) (hyl : ys.length = 10) (hy1 : ∀ u ∈ ys, u.oneCell' = true) (hx : a.eval x = .slice (some ad) 1 1) (hc : ∀ j u, ys[j]? = some u → w.cell? (ad.add j) = some u) (hn : n + 1 ≤ 1000000000000)
    (h : ∀ v' w', App 32 10 w v n xs ys v' w' → wpList Tryz.prog ops Q rest (a.put o.dst v') w') : wpList Tryz.prog ops Q (o :: rest) a w := by
  obtain ⟨i0, hi, hz0, hz1, hz2⟩ := info_parts info_nodeN
  refine wpList_plain hgd fun K hK => ?_
  obtain ⟨v', w', hr, h2, h3, _, h5⟩ := run_append_own_at (P := Tryz.prog) w 0 22 o.type 32 i0 _ 10 120 Tryz.underlying22 hi hz0 hz1 hz2 rfl (by decide) v n xs hown ad 1 1 ys (by rw [hyl]) hc hy1 (by unfold maxLen; omega) (by omega) (Nat.zero_le _)
  have hold : w'.ownsRow 0 32 10 v n xs := by
    rcases hown.2 with ⟨rfl, rfl⟩ | ⟨g, cap, cur, rfl, hbg, hg, hnc, hcm, hcs, htake⟩
    · exact ⟨hown.1, .inl ⟨rfl, rfl⟩⟩
    · by_cases hroom : n + 1 ≤ cap
      · have hr2 := run_append_room (P := Tryz.prog) w 22 o.type 32 i0 Tryz.underlying22 hi g n cap cur hg ad 1 1 ys (by rw [hz1, hyl]) hc hy1 hroom (by rw [hz1, hcs]; rw [hyl]; omega)
        rw [hr] at hr2
        injection hr2 with e1 e2
        subst e1
        rcases h2.2 with ⟨e, _⟩ | ⟨g', cap', cur', e, b', hg', nc', cm', cs', tk'⟩
        · cases e
        · injection e with e3 e4 e5
          injection e3 with e3
          injection e3 with e3
          subst e3
          subst e5
          refine ⟨hown.1, .inr ⟨g, cap, cur', rfl, hbg, hg', hnc, hcm, cs', ?_⟩⟩
          have : cur'.toList.take (n * 10) = (xs ++ ys).take (n * 10) := by
            rw [← tk', List.take_take]
            congr 1
            omega
          rw [this, List.take_append_of_le_length (by rw [hown.1]; exact Nat.le_refl _), ← hown.1, List.take_length]
      · have hr2 := run_append_grow (P := Tryz.prog) w 22 o.type 32 i0 _ Tryz.underlying22 hi hz0 ⟨g, 0, none⟩ n cap xs (by rw [hz1]; exact hown.1) (hown.cells (g := g) rfl) ad 1 1 ys (by rw [hz1, hyl]) hc (by omega) (by omega) (growslice_fits (by omega) (by rw [hz2]; omega))
        rw [hr] at hr2
        injection hr2 with e1 e2
        subst e2
        exact (World.ownsRow.alloc (World.ownsRow.drew hown) _)
  unfold Oper.wp execOp
  simp only [ho, resolve, invoke, builtin, Sem.run_bind, Sem.run_pure, Result.andThen_ok, List.map_toArray, List.map_cons, List.map_nil, hs, hx, hr]
  exact hK _ _ (h v' w' ⟨h2, hold, Keep.grown h3 fun k e => e, h5⟩)
/-- a row in the same block, the beginning of one that still stands -/
theorem pre_row {et : TypeId} {s : Nat} {w w' : World} {o v : Value} {n m : Nat} {xs ys : List Value} (h : w.ownsRow 0 et s o n xs) (hv : w.ownsRow 0 et s v m ys) (hv' : w'.ownsRow 0 et s v m ys) (hb : o.ownBlock = v.ownBlock) (hx : xs = ys.take (n * s)) (hn : n ≤ m) : w'.ownsRow 0 et s o n xs := by
  rcases h.2 with ⟨rfl, rfl⟩ | ⟨g, cap, cur, rfl, hbg, hg, hnc, hcm, hcs, htake⟩
  · exact ⟨h.1, .inl ⟨rfl, rfl⟩⟩
  · rcases hv.2 with ⟨rfl, _⟩ | ⟨g2, cap2, cur2, rfl, hbg2, hg2, hnc2, hcm2, hcs2, htake2⟩
    · cases hb
    · have e : g = g2 := by simpa [Value.ownBlock] using hb
      subst e
      rw [hg] at hg2
      injection hg2 with hg2
      injection hg2 with hg2
      subst hg2
      rcases hv'.2 with ⟨e, _⟩ | ⟨g3, cap3, cur3, e, b3, hg3, nc3, cm3, cs3, tk3⟩
      · cases e
      · injection e with e1 e2 e3
        injection e1 with e1
        injection e1 with e1
        subst e1
        subst e3
        refine ⟨h.1, .inr ⟨g, cap, cur3, rfl, Nat.zero_le _, hg3, hnc, hcm, by rw [cs3, ← hcs2, hcs], ?_⟩⟩
        rw [hx, ← tk3, List.take_take]
        congr 1
        exact (Nat.min_eq_left (Nat.mul_le_mul_right s hn)).symm
theorem typ_ne {w : World} {b b' n n' s s' : Nat} {e e' : TypeId} {v v' : Value} {xs xs' : List Value} (h : w.ownsRow b e s v n xs) (h' : w.ownsRow b' e' s' v' n' xs') (he : e ≠ e') {g : Nat} (hg : v.ownBlock = some g) : v'.ownBlock ≠ some g := fun hg' => by
  rcases h.2 with ⟨rfl, _⟩ | ⟨g1, cap, cur, rfl, _, h3, _⟩
  · cases hg
  · rcases h'.2 with ⟨rfl, _⟩ | ⟨g2, cap2, cur2, rfl, _, h4, _⟩
    · cases hg'
    · have e1 : g1 = g := by simpa [Value.ownBlock] using hg
      have e2 : g2 = g := by simpa [Value.ownBlock] using hg'
      subst e1
      subst e2
      rw [h3] at h4
      injection h4 with h4
      injection h4 with _ h4
      exact he h4
/-- n times the same cells -/
def rep (n : Nat) (l : List Value) : List Value := (List.replicate n l).flatten
theorem rep_len (n : Nat) (l : List Value) : (rep n l).length = n * l.length := by simp [rep]
theorem rep_succ (n : Nat) (l : List Value) : rep n l ++ l = rep (n + 1) l := by simp [rep, List.replicate_succ']
theorem rep_front (n : Nat) (l : List Value) : rep (n + 1) l = l ++ rep n l := by simp [rep, List.replicate_succ]
theorem rep_get {l : List Value} {s : Nat} (hs : l.length = s) {c : Nat} (hc : c < s) : ∀ {n t : Nat}, t < n → (rep n l)[t * s + c]? = l[c]?
  | n + 1, 0, _ => by rw [rep_front, Nat.zero_mul, Nat.zero_add, List.getElem?_append_left (by omega)]
  | n + 1, t + 1, h => by
    rw [rep_front, List.getElem?_append_right (by rw [Nat.add_mul]; omega), show (t + 1) * s + c - l.length = t * s + c by rw [Nat.add_mul]; omega]
    exact rep_get hs hc (by omega)
def gl (n m : Nat) (f g : List Value) : List Value := rep n f ++ rep m g
theorem gl_at {f g : List Value} {s : Nat} (hf : f.length = s) (hg : g.length = s) {n m t c : Nat} (h : t < n + m) (hc : c < s) : (gl n m f g)[t * s + c]? = if t < n then f[c]? else g[c]? := by
  unfold gl
  by_cases e : t < n
  · rw [if_pos e, List.getElem?_append_left, rep_get hf hc e]
    rw [rep_len, hf]
    have := Nat.mul_le_mul_right s (show t + 1 ≤ n from e)
    rw [Nat.add_mul] at this
    omega
  · rw [if_neg e]
    obtain ⟨d, rfl⟩ : ∃ d, t = n + d := ⟨t - n, by omega⟩
    rw [List.getElem?_append_right (by rw [rep_len, hf, Nat.add_mul]; omega), rep_len, hf, show (n + d) * s + c - n * s = d * s + c by rw [Nat.add_mul]; omega]
    exact rep_get hg hc (by omega)
theorem gl_take {f : List Value} {s : Nat} (hf : f.length = s) (n m : Nat) (g : List Value) : (gl n m f g).take (n * s) = rep n f := by
  unfold gl
  rw [List.take_append_of_le_length (by rw [rep_len, hf]; exact Nat.le_refl _), List.take_of_length_le (by rw [rep_len, hf]; exact Nat.le_refl _)]
theorem gl_succ (n m : Nat) (f g : List Value) : gl n m f g ++ g = gl n (m + 1) f g := by
  unfold gl
  rw [← rep_succ, List.append_assoc]
def Apart (N : Nat) (o : Nat → Value) : Prop := ∀ j k g, j < N → k < N → j ≠ k → (o j).ownBlock = some g → (o k).ownBlock ≠ some g
/-- what does not change: elements et of s cells; the row's types; what is written -/
structure Pk where
  et : TypeId
  st : TypeId
  s : Nat
  ne : et ≠ st
  f : Nat → List Value
  g : Nat → List Value
  hf : ∀ j, (f j).length = s
  hg : ∀ j, (g j).length = s
/-- the rows, and where they are told -/
structure O3 (p : Pk) (W : World) (N : Nat) (ca : Nat → Addr) (o : Nat → Value) (n : Nat → Nat) (X : Nat → List Value) : Prop where
  own : ∀ j, j < N → W.ownsRow 0 p.et p.s (o j) (n j) (X j)
  cell : ∀ j, j < N → W.cell? (ca j) = some (o j)
  far : ∀ i j g, i < N → j < N → (o i).ownBlock = some g → (ca j).block ≠ g
variable {p : Pk} {W W' : World} {N B : Nat} {ca : Nat → Addr} {o u : Nat → Value} {n : Nat → Nat} {X : Nat → List Value} {gs gs' v v' : Value} {i m : Nat}
theorem O3.new (h : O3 p W N ca o n X) (k : Keep (fun _ => False) W W') : O3 p W' N ca o n X := ⟨fun j hj => ownsRow_new (h.own j hj) k, fun j hj => k.cell (h.cell j hj) (fun f => f), h.far⟩
theorem O3.fill (h : O3 p W N ca o n X) (ha : Apart N o) {i : Nat} (hi : i < N) {Y : List Value} (k : Keep (fun g => (o i).ownBlock = some g) W W') (hr : W'.ownsRow 0 p.et p.s (o i) (n i) Y) : O3 p W' N ca o n (fun j => if j = i then Y else X j) := by
  refine ⟨fun j hj => ?_, fun j hj => k.cell (h.cell j hj) fun e => h.far i j _ hi hj e rfl, h.far⟩
  by_cases e : j = i
  · subst e
    simp only [if_true]
    exact hr
  · simp only [if_neg e]
    exact ownsRow_keep (h.own j hj) k fun q e1 e2 => ha i j q hi hj (fun e' => e e'.symm) e1 e2
/-- some have been grown -/
structure G3 (p : Pk) (W : World) (N B : Nat) (ca : Nat → Addr) (o : Nat → Value) (n : Nat → Nat) (i : Nat) (gs : Value) (u : Nat → Value) : Prop where
  o3 : O3 p W N ca o n (fun j => rep (n j) (p.f j))
  gs : W.ownsRow B p.st 1 gs i ((List.range i).map u)
  us : ∀ j, j < i → W.ownsRow 0 p.et p.s (u j) (n j + 20) (gl (n j) 20 (p.f j) (p.g j))
  ne : ∀ j k g, j < i → k < N → k ≠ j → (u j).ownBlock = some g → (o k).ownBlock ≠ some g
  p : ∀ j, j < N → (ca j).block < B
  q : B ≤ W.heap.size
theorem G3.new (h : G3 p W N B ca o n i gs u) (k : Keep (fun _ => False) W W') : G3 p W' N B ca o n i gs u :=
  ⟨h.o3.new k, ownsRow_new h.gs k, fun j hj => ownsRow_new (h.us j hj) k, h.ne, h.p, by have := k.size; have := h.q; omega⟩
/-- the next one is being grown: m more -/
structure G4 (p : Pk) (W : World) (N B : Nat) (ca : Nat → Addr) (o : Nat → Value) (n : Nat → Nat) (i : Nat) (gs : Value) (u : Nat → Value) (m : Nat) (v : Value) : Prop where
  g3 : G3 p W N B ca o n i gs u
  vo : W.ownsRow 0 p.et p.s v (n i + m) (gl (n i) m (p.f i) (p.g i))
  vn : ∀ g, v.ownBlock = some g → (∀ k, k < N → k ≠ i → (o k).ownBlock ≠ some g) ∧ ∀ j, j < i → (u j).ownBlock ≠ some g
  vf : ∀ g, v.ownBlock = some g → (o i).ownBlock = some g ∨ B ≤ g
theorem G3.begin (h : G3 p W N B ca o n i gs u) (ha : Apart N o) (hi : i < N) : G4 p W N B ca o n i gs u 0 (o i) :=
  ⟨h, by have := h.o3.own i hi; simpa [gl, rep] using this, fun g hg => ⟨fun k hk hne => ha i k g hi hk (fun e => hne e.symm) hg, fun j hj hu => h.ne j i g hj hi (by omega) hu hg⟩, fun g hg => .inl hg⟩
theorem G4.new (h : G4 p W N B ca o n i gs u m v) (k : Keep (fun _ => False) W W') : G4 p W' N B ca o n i gs u m v := ⟨h.g3.new k, ownsRow_new h.vo k, h.vn, h.vf⟩
theorem G4.app (h : G4 p W N B ca o n i gs u m v) (hi : i < N) (ap : App p.et p.s W v (n i + m) (gl (n i) m (p.f i) (p.g i)) (p.g i) v' W') : G4 p W' N B ca o n i gs u (m + 1) v' := by
  have oth : ∀ {b s : Nat} {e : TypeId} {r : Value} {k : Nat} {xs : List Value}, W.ownsRow b e s r k xs → (∀ g, v.ownBlock = some g → r.ownBlock ≠ some g) → W'.ownsRow b e s r k xs := fun h1 h2 => ownsRow_keep h1 ap.keep fun g hg => h2 g hg
  refine ⟨⟨⟨fun j hj => ?_, fun j hj => ap.keep.cell (h.g3.o3.cell j hj) fun e => ?_, h.g3.o3.far⟩, oth h.g3.gs fun g hg => typ_ne h.vo h.g3.gs p.ne hg, fun j hj => oth (h.g3.us j hj) fun g hg => (h.vn g hg).2 j hj, h.g3.ne, h.g3.p, by have := ap.keep.size; have := h.g3.q; omega⟩, ?_, fun g hg => ?_, fun g hg => ?_⟩
  · by_cases e : j = i
    · subst e
      by_cases e2 : (o j).ownBlock = v.ownBlock
      · exact pre_row (h.g3.o3.own j hj) h.vo ap.old e2 (gl_take (p.hf j) _ _ _).symm (by omega)
      · exact oth (h.g3.o3.own j hj) fun g hg hg2 => e2 (hg2.trans hg.symm)
    · exact oth (h.g3.o3.own j hj) fun g hg => (h.vn g hg).1 j hj e
  · rcases h.vf _ e with e | e
    · exact h.g3.o3.far i j _ hi hj e rfl
    · have := h.g3.p j hj
      omega
  · have := ap.own
    rw [gl_succ] at this
    exact this
  · rcases ap.pl with e | e
    · exact h.vn g (by rw [← e]; exact hg)
    · rw [e] at hg
      injection hg with hg
      subst hg
      exact ⟨fun k hk _ hk2 => by have := ((h.g3.o3.own k hk).lt _ hk2).2; omega, fun j hj hj2 => by have := ((h.g3.us j hj).lt _ hj2).2; omega⟩
  · rcases ap.pl with e | e
    · exact h.vf g (by rw [← e]; exact hg)
    · rw [e] at hg
      injection hg with hg
      subst hg
      exact .inr h.g3.q
theorem G4.done (h : G4 p W N B ca o n i gs u 20 v) (hi : i < N) (ho : W'.ownsRow B p.st 1 gs' (i + 1) ((List.range i).map u ++ [v])) (k : Keep (fun j => gs.ownBlock = some j) W W') : G3 p W' N B ca o n (i + 1) gs' (fun j => if j = i then v else u j) := by
  have ints : ∀ {r : Value} {m : Nat} {xs : List Value}, W.ownsRow 0 p.et p.s r m xs → W'.ownsRow 0 p.et p.s r m xs := fun h1 => ownsRow_keep h1 k fun g hg => typ_ne h.g3.gs h1 p.ne.symm hg
  refine ⟨⟨fun j hj => ints (h.g3.o3.own j hj), fun j hj => k.cell (h.g3.o3.cell j hj) fun e => ?_, h.g3.o3.far⟩, ?_, fun j hj => ?_, fun j m g hj hm hne hg => ?_, h.g3.p, by have := k.size; have := h.g3.q; omega⟩
  · have h1 := (h.g3.gs.lt _ e).1
    have := h.g3.p j hj
    omega
  · have e : (List.range (i + 1)).map (fun j => if j = i then v else u j) = (List.range i).map u ++ [v] := by
      rw [List.range_succ, List.map_append]
      congr 1
      · refine List.map_congr_left fun j hj => ?_
        rw [if_neg (by have := List.mem_range.1 hj; omega)]
      · simp
    rw [e]; exact ho
  · by_cases e : j = i
    · subst e
      simp only [if_true]
      exact ints h.vo
    · simp only [if_neg e]
      exact ints (h.g3.us j (by omega))
  · by_cases e : j = i
    · subst e
      simp only [if_true] at hg
      exact (h.vn g hg).1 m hm hne
    · simp only [if_neg e] at hg
      exact h.g3.ne j m g (by omega) hm hne hg
def Sb (N : Nat) (o : Nat → Value) (k : Nat) : Prop := ∃ j, j < N ∧ (o j).ownBlock = some k
/-- the first ones are written full; the next one too, up to its k-th element -/
def F1 (p : Pk) (w : World) (N : Nat) (ca : Nat → Addr) (o : Nat → Value) (n : Nat → Nat) (i : Nat) (wr : World) : Prop := ∃ X, O3 p wr N ca o n X ∧ (∀ j, j < i → X j = rep (n j) (p.f j)) ∧ Keep (Sb N o) w wr
def F2 (p : Pk) (w : World) (N : Nat) (ca : Nat → Addr) (o : Nat → Value) (n : Nat → Nat) (i k : Nat) (wr : World) : Prop := ∃ X, O3 p wr N ca o n X ∧ (∀ j, j < i → X j = rep (n j) (p.f j)) ∧ (X i).take (k * p.s) = rep k (p.f i) ∧ Keep (Sb N o) w wr
def F3 (p : Pk) (w : World) (N B : Nat) (ca : Nat → Addr) (o : Nat → Value) (n : Nat → Nat) (i : Nat) (gs : Value) (wr : World) : Prop := ∃ u, G3 p wr N B ca o n i gs u ∧ Keep (Sb N o) w wr
variable {w wr : World} {k : Nat}
theorem F1.begin (h : F1 p w N ca o n i wr) : F2 p w N ca o n i 0 wr := by
  obtain ⟨X, h1, h2, h3⟩ := h
  exact ⟨X, h1, h2, by simp [rep], h3⟩
theorem F2.step (h : F2 p w N ca o n i k wr) (ha : Apart N o) (hi : i < N) (kk : Keep (fun q => (o i).ownBlock = some q) wr W') (hr : ∀ Y, wr.ownsRow 0 p.et p.s (o i) (n i) Y → ∃ Y', W'.ownsRow 0 p.et p.s (o i) (n i) Y' ∧ Y'.take (k * p.s + p.s) = Y.take (k * p.s) ++ p.f i) : F2 p w N ca o n i (k + 1) W' := by
  obtain ⟨X, h1, h2, h3, h4⟩ := h
  obtain ⟨Y', h5, h6⟩ := hr _ (h1.own i hi)
  refine ⟨_, h1.fill ha hi kk h5, fun j hj => ?_, ?_, h4.trans kk fun q hq => .inl ⟨i, hi, hq⟩⟩
  · simp only [if_neg (show ¬ j = i by omega)]
    exact h2 j hj
  · simp only [if_true]
    rw [Nat.add_mul, Nat.one_mul, h6, h3, rep_succ]
theorem F2.done (h : F2 p w N ca o n i (n i) wr) (hi : i < N) : F1 p w N ca o n (i + 1) wr := by
  obtain ⟨X, h1, h2, h3, h4⟩ := h
  refine ⟨X, h1, fun j hj => ?_, h4⟩
  by_cases e : j = i
  · subst e
    rw [← h3, List.take_of_length_le]
    rw [(h1.own j hi).1]
    exact Nat.le_refl _
  · exact h2 j (by omega)
theorem F1.grow (h : F1 p w N ca o n N wr) (hp : ∀ j, j < N → (ca j).block < B) (hB : B ≤ wr.heap.size) : F3 p w N B ca o n 0 (.slice none 0 0) wr := by
  obtain ⟨Y, h1, h2, h4⟩ := h
  refine ⟨fun _ => .slice none 0 0, ⟨⟨fun j hj => ?_, h1.cell, h1.far⟩, World.ownsRow_nil _ _ _ _, fun j hj => absurd hj (Nat.not_lt_zero _), fun j _ _ hj => absurd hj (Nat.not_lt_zero _), hp, hB⟩, h4⟩
  have := h1.own j hj
  rw [h2 j hj] at this
  exact this
end So
end Go.Proofs.YtfoahfgehmghcaaGreatDoor

/- Law own of package source: two elements at once; a struct written in the middle of a row; what is the same all along. -/
namespace Go.Proofs.YtfoahfgehmghcaaGreatDoor
namespace So
open Go.RowKit

theorem setCells_keep (b : Nat) : ∀ (vs : List Value) (o : Nat) (w : World), Keep (fun q => q = b) w (w.setCells b o vs)
  | [], _, w => Keep.refl _ w
  | v :: vs, o, w => (Keep.setCell (S := fun q => q = b) w (p := ⟨b, o, none⟩) rfl v).more (setCells_keep b vs (o + 1) _)
def setL : List Value → Nat → List Value → List Value
  | xs, _, [] => xs
  | xs, o, v :: vs => setL (xs.set o v) (o + 1) vs
theorem take_setL : ∀ (vs xs : List Value) (o : Nat), o + vs.length ≤ xs.length → (setL xs o vs).take (o + vs.length) = xs.take o ++ vs
  | [], xs, o, _ => by simp [setL]
  | v :: vs, xs, o, h => by
    simp only [List.length_cons] at h ⊢
    rw [setL, show o + (vs.length + 1) = o + 1 + vs.length by omega, take_setL vs (xs.set o v) (o + 1) (by rw [List.length_set]; omega)]
    have e : (xs.set o v).take (o + 1) = xs.take o ++ [v] := by
      apply List.ext_getElem?
      intro j
      rw [List.getElem?_take, List.getElem?_set, List.getElem?_append, List.length_take, List.getElem?_take]
      by_cases h1 : j < o
      · rw [if_pos (by omega), if_neg (by omega), if_pos (by omega), if_pos h1]
      · by_cases h2 : j = o
        · subst h2
          rw [if_pos (by omega), if_pos rfl, if_pos (by omega), if_neg (by omega), show j - min j xs.length = 0 by omega]
          rfl
        · rw [if_neg (by omega), if_neg (by omega), List.getElem?_eq_none (by simp; omega)]
    rw [e, List.append_assoc]
    rfl
theorem own_setCells {base s g n cap : Nat} {e : TypeId} : ∀ (vs : List Value) {w : World} {xs : List Value} (o : Nat), w.ownsRow base e s (.slice (some ⟨g, 0, none⟩) n cap) n xs → (w.setCells g o vs).ownsRow base e s (.slice (some ⟨g, 0, none⟩) n cap) n (setL xs o vs)
  | [], _, _, _, h => h
  | v :: vs, _, _, o, h => own_setCells vs (o + 1) (h.stored o v).1
theorem own_there {w : World} {base s g n cap : Nat} {e : TypeId} {xs : List Value} (h : w.ownsRow base e s (.slice (some ⟨g, 0, none⟩) n cap) n xs) (o m : Nat) (hm : o + m ≤ n * s) : w.there g o m := fun j hj => by
  refine ⟨?_, h.frozenAt _⟩
  rw [h.cellAt (o + j) (by omega), List.getElem?_eq_getElem (by rw [h.1]; omega)]
  rfl
/-- a node of which the lane alone is said -/
def nodeC (k : Int) : List Value := [.string ⟨#[]⟩, .int .i64 k, .int .i64 0, .int .i64 0, .int .i64 0, .int .i64 0, .int .i64 0, .int .i64 0, .slice none 0 0, .slice none 0 0]
theorem nodeC_one (k : Int) : ∀ u ∈ nodeC k, u.oneCell' = true := fun u hu => by
  simp only [nodeC, List.mem_cons, List.not_mem_nil, or_false] at hu
  rcases hu with rfl | rfl | rfl | rfl | rfl | rfl | rfl | rfl | rfl | rfl <;> rfl
def pkI : Pk := ⟨3, 30, 1, by decide, fun j => [.int .i64 (-(j : Int) - 1)], fun j => [.int .i64 ((j : Int) + 1)], fun _ => rfl, fun _ => rfl⟩
def pkN : Pk := ⟨32, 22, 10, by decide, fun j => nodeC ((j : Int) + 1), fun j => nodeC (-(j : Int) - 1), fun _ => rfl, fun _ => rfl⟩
theorem two_cells {w : World} {b : Nat} {y1 y2 : Value} {t : TypeId} (h : w.heap[b]? = some (.cells #[y1, y2] t (0, 0))) : ∀ j u, [y1, y2][j]? = some u → w.cell? ((⟨b, 0, none⟩ : Addr).add j) = some u := fun j u hu => by
  rw [Addr.add_mid, Nat.zero_add]
  exact cell_blk h j (by simpa using hu)
theorem wp_app2I {w : World} {ops : Array Oper} {rest : List Oper} {o : Oper} {a : Act} {Q : Exit → Act → World → Prop} (hgd : o.guard = none) (s x : Operand)
    (ho : o.op = .call { callee := .builtin .append, args := #[s, x], argTypes := #[30, 30] })
    (base : Nat) (v : Value) (n : Nat) (xs : List Value) (hs : a.eval s = v) (hown : w.ownsRow base 3 1 v n xs) (b : Nat) (y1 y2 : Value) (hx : a.eval x = .slice (some ⟨b, 0, none⟩) 2 2) (hc : w.heap[b]? = some (.cells #[y1, y2] 3 (0, 0))) (hy1 : y1.oneCell' = true) (hy2 : y2.oneCell' = true) (hn : n + 2 ≤ 1000000000) (hbase : base ≤ w.heap.size)
    (h : ∀ v' w', w'.ownsRow base 3 1 v' (n + 2) (xs ++ [y1, y2]) → Keep (fun k => v.ownBlock = some k) w w' → NewBlk w v v' → wpList Tryz.prog ops Q rest (a.put o.dst v') w') : wpList Tryz.prog ops Q (o :: rest) a w := by
  obtain ⟨i0, hi, hz0, hz1, hz2⟩ := info_parts info_i64N
  refine wpList_append_own2 hgd s x 30 ho base 3 i0 (.int .i64 0) 1 8 Tryz.underlying30 hi hz0 hz1 hz2 rfl (by decide) v n xs hs hown ⟨b, 0, none⟩ 2 2 [y1, y2] hx rfl (two_cells hc) (fun u hu => ?_) (by unfold maxLen; omega) (by omega) hbase ?_
  · simp only [List.mem_cons, List.not_mem_nil, or_false] at hu
    rcases hu with rfl | rfl
    · exact hy1
    · exact hy2
  · intro v' w' h1 h2 h3
    exact h v' w' h1 (Keep.grown h2 fun k e => e) h3
theorem wp_app2L {w : World} {ops : Array Oper} {rest : List Oper} {o : Oper} {a : Act} {Q : Exit → Act → World → Prop} (hgd : o.guard = none) (s x : Operand)
    (ho : o.op = .call { callee := .builtin .append, args := #[s, x], argTypes := #[27, 27] })
    (base : Nat) (v : Value) (n : Nat) (xs : List Value) (hs : a.eval s = v) (hown : w.ownsRow base 30 1 v n xs) (b : Nat) (y1 y2 : Value) (hx : a.eval x = .slice (some ⟨b, 0, none⟩) 2 2) (hc : w.heap[b]? = some (.cells #[y1, y2] 30 (0, 0))) (hy1 : y1.oneCell' = true) (hy2 : y2.oneCell' = true) (hn : n + 2 ≤ 1000000000) (hbase : base ≤ w.heap.size)
    (h : ∀ v' w', w'.ownsRow base 30 1 v' (n + 2) (xs ++ [y1, y2]) → Keep (fun k => v.ownBlock = some k) w w' → NewBlk w v v' → wpList Tryz.prog ops Q rest (a.put o.dst v') w') : wpList Tryz.prog ops Q (o :: rest) a w := by
  obtain ⟨i0, hi, hz0, hz1, hz2⟩ := info_parts info_lint
  refine wpList_append_own2 hgd s x 27 ho base 30 i0 (.slice none 0 0) 1 24 Tryz.underlying27 hi hz0 hz1 hz2 rfl (by decide) v n xs hs hown ⟨b, 0, none⟩ 2 2 [y1, y2] hx rfl (two_cells hc) (fun u hu => ?_) (by unfold maxLen; omega) (by omega) hbase ?_
  · simp only [List.mem_cons, List.not_mem_nil, or_false] at hu
    rcases hu with rfl | rfl
    · exact hy1
    · exact hy2
  · intro v' w' h1 h2 h3
    exact h v' w' h1 (Keep.grown h2 fun k e => e) h3
theorem run_app2L {w : World} {base : Nat} {v : Value} {n : Nat} {xs : List Value} (hown : w.ownsRow base 30 1 v n xs) {b : Nat} {y1 y2 : Value} (hc : w.heap[b]? = some (.cells #[y1, y2] 30 (0, 0))) (hy1 : y1.oneCell' = true) (hy2 : y2.oneCell' = true) (hn : n + 2 ≤ 1000000000) (hbase : base ≤ w.heap.size) (ty : TypeId) :
    ∃ a' c' w', (Builtin.append_ #[27, 27] ty #[v, .slice (some ⟨b, 0, none⟩) 2 2]).run Tryz.prog w = .ok (.slice a' (n + 2) c') w' ∧ w'.ownsRow base 30 1 (.slice a' (n + 2) c') (n + 2) (xs ++ [y1, y2]) ∧ Keep (fun k => v.ownBlock = some k) w w' := by
  obtain ⟨i0, hi, hz0, hz1, hz2⟩ := info_parts info_lint
  obtain ⟨v', w', h2, h3, h4, _, _⟩ := run_append_own_at (P := Tryz.prog) w base 27 ty 30 i0 (.slice none 0 0) 1 24 Tryz.underlying27 hi hz0 hz1 hz2 rfl (by decide) v n xs hown ⟨b, 0, none⟩ 2 2 [y1, y2] rfl (two_cells hc) (fun u hu => by
    simp only [List.mem_cons, List.not_mem_nil, or_false] at hu
    rcases hu with rfl | rfl
    · exact hy1
    · exact hy2) (by unfold maxLen; omega) (by omega) hbase
  obtain ⟨va, vc, rfl⟩ := ownsRow_shape h3
  exact ⟨va, vc, w', h2, h3, Keep.grown h4 fun k e => e⟩
/-- a list as a value -/
def sv (s : Option Addr × Nat × Nat) : Value := .slice s.1 s.2.1 s.2.2
/-- the lists of nodes, in their order; of the first j plans -/
def lsN (xs : List Gr.No) : List (Option Addr × Nat × Nat) := xs.flatMap fun x => [x.q.ne, x.q.af]
def lsP (Xs : Nat → List Gr.No) : Nat → List (Option Addr × Nat × Nat)
  | 0 => []
  | j + 1 => lsP Xs j ++ lsN (Xs j)
theorem lsN_len (xs : List Gr.No) : (lsN xs).length = 2 * xs.length := by
  induction xs with
  | nil => rfl
  | cons x xs ih => simp only [lsN, List.flatMap_cons, List.length_append, List.length_cons] at ih ⊢; rw [ih]; simp; omega
theorem lsN_snoc {xs : List Gr.No} {i : Nat} {x : Gr.No} (h : xs[i]? = some x) : lsN (xs.take (i + 1)) = lsN (xs.take i) ++ [x.q.ne, x.q.af] := by
  rw [Gr.take_snoc _ _ _ h]
  simp [lsN]
theorem lsP_le (Xs : Nat → List Gr.No) : (lsP Xs 3).length = 2 * ((Xs 0).length + (Xs 1).length + (Xs 2).length) := by
  simp only [lsP, List.nil_append, List.length_append, lsN_len]
  omega
/-- a node's cells in a row of nodes -/
theorem nd_cell {w : World} {B g cap : Nat} {xs : List Gr.No} (h : w.ownsRow B 32 10 (.slice (some ⟨g, 0, none⟩) xs.length cap) xs.length (U.flat (xs.map (·.q)))) {i : Nat} {x : Gr.No} (hx : xs[i]? = some x) {j : Nat} {u : Value} (hu : x.q.row[j]? = some u) : w.cell? ⟨g, i * 10 + j, none⟩ = some u := by
  have hi := (List.getElem?_eq_some_iff.1 hx).1
  have hj : j < 10 := by have := (List.getElem?_eq_some_iff.1 hu).1; simpa [Gr.Nd.row] using this
  rw [h.cellAt (i * 10 + j) (by omega)]
  exact U.flat_get (xs.map (·.q)) i j x.q u (by simp [hx]) hu
theorem stepI {wr : World} {g m c k : Nat} {v : Value} {Y : List Value} (hY : wr.ownsRow 0 3 1 (.slice (some ⟨g, 0, none⟩) m c) m Y) (hk : k < m) : ∃ Y', (wr.setCell ⟨g, k, none⟩ v).ownsRow 0 3 1 (.slice (some ⟨g, 0, none⟩) m c) m Y' ∧ Y'.take (k * 1 + 1) = Y.take (k * 1) ++ [v] :=
  ⟨Y.set k v, (hY.stored k v).1, by rw [Nat.mul_one]; exact take_setL [v] Y k (by rw [hY.1]; simp; omega)⟩
theorem stepN {wr : World} {g m c k : Nat} {vs : List Value} (hv : vs.length = 10) {Y : List Value} (hY : wr.ownsRow 0 32 10 (.slice (some ⟨g, 0, none⟩) m c) m Y) (hk : k < m) : ∃ Y', (wr.setCells g (k * 10) vs).ownsRow 0 32 10 (.slice (some ⟨g, 0, none⟩) m c) m Y' ∧ Y'.take (k * 10 + 10) = Y.take (k * 10) ++ vs :=
  ⟨setL Y (k * 10) vs, own_setCells vs (k * 10) hY, by have := take_setL vs Y (k * 10) (by rw [hY.1, hv]; omega); rw [hv] at this; exact this⟩
theorem glI_at {n m i t : Nat} (h : t < n + m) : (gl n m (pkI.f i) (pkI.g i))[t]? = some (if t < n then .int .i64 (-(i : Int) - 1) else .int .i64 ((i : Int) + 1)) := by
  have := gl_at (f := pkI.f i) (g := pkI.g i) (s := 1) rfl rfl h (c := 0) (by omega)
  rw [Nat.mul_one, Nat.add_zero] at this
  rw [this]
  split <;> rfl
theorem repI_at {n i t : Nat} (h : t < n) : (rep n (pkI.f i))[t]? = some (.int .i64 (-(i : Int) - 1)) := by
  have := rep_get (l := pkI.f i) (s := 1) rfl (c := 0) (by omega) h
  rw [Nat.mul_one, Nat.add_zero] at this
  rw [this]
  rfl
theorem glN_at {n m i t : Nat} (h : t < n + m) : (gl n m (pkN.f i) (pkN.g i))[t * 10 + 1]? = some (if t < n then .int .i64 ((i : Int) + 1) else .int .i64 (-(i : Int) - 1)) := by
  rw [gl_at (f := pkN.f i) (g := pkN.g i) (s := 10) rfl rfl h (c := 1) (by omega)]
  split <;> rfl
theorem repN_at {n i t : Nat} (h : t < n) : (rep n (pkN.f i))[t * 10 + 1]? = some (.int .i64 ((i : Int) + 1)) := by
  rw [rep_get (l := pkN.f i) (s := 10) rfl (c := 1) (by omega) h]
  rfl
theorem own_not {w : World} {b s n : Nat} {e t : TypeId} {v : Value} {xs : List Value} (h : w.ownsRow b e s v n xs) {G : Nat} {cs : Array Value} (hG : w.heap[G]? = some (.cells cs t (0, 0))) (he : e ≠ t) {g : Nat} (hg : v.ownBlock = some g) : G ≠ g := fun e2 => by
  obtain ⟨_, _, cur, hc⟩ := U.own_blk h hg
  rw [← e2, hG] at hc
  injection hc with hc
  injection hc with _ hc
  exact he hc.symm
/-- a node stored in a row, by the slots of law own -/
theorem wp_node {op : Oper} {a : Act} {w : World} {K : Act → World → Prop} {Q : Exit → Act → World → Prop} {g k : Nat} {d : Int} (ho : op.op = .store 32 (.tmp 201) (.tmp 200)) (hd : op.dst = none) (hx : a.eval (.tmp 201) = .pointer (some ⟨g, k * 10, none⟩)) (hy : a.eval (.tmp 200) = .agg (nodeC d).toArray)
    (ht : w.there g (k * 10) (nodeC d).toArray.size) (h : K a (w.setCells g (k * 10) (nodeC d))) : op.wp Tryz.prog a w K Q :=
  wp_store_mid 32 (.tmp 201) (.tmp 200) ho g (k * 10) (nodeC d).toArray hx hy ht (by kernel_rfl) (all_oneCell_toArray (nodeC_one d)) (by rw [hd]; exact h)
/-- a node as a list of its own, by the slots of law own -/
theorem wp_bsN {op : Oper} {a : Act} {w : World} {K : Act → World → Prop} {Q : Exit → Act → World → Prop} {d : Int} (ho : op.op = .buildSlice 22 1 #[(0, .tmp 221)]) (hd : op.dst = some 222) (hy : a.eval (.tmp 221) = .agg (nodeC d).toArray)
    (h : K (a.put (some 222) (.slice (some ⟨w.heap.size, 0, none⟩) 1 1)) (w.alloc (.cells (nodeC d).toArray 32))) : op.wp Tryz.prog a w K Q := by
  obtain ⟨i0, hi, hz0, hz1, hz2⟩ := info_parts info_nodeN
  refine wp_buildSlice 22 32 1 _ ho (nodeC d).toArray i0 _ Tryz.underlying22 hi hz0 (by rw [hz1]; decide) (by rw [hz1]; decide) ?_ (by rw [hd]; exact h)
  have e : ((#[(0, Operand.tmp 221)] : Array (Nat × Operand)).map fun (i, x) => (i, a.eval x)).toList = [(0, .agg (nodeC d).toArray)] := by simp [hy]
  rw [e, hz1]
  change _ = some (nodeC d).toArray
  kernel_rfl
end So
end Go.Proofs.YtfoahfgehmghcaaGreatDoor

/- Law room of package source: a plan lent with room behind its lists: what is in memory. -/
namespace Go.Proofs.YtfoahfgehmghcaaGreatDoor
namespace So
open Go.RowKit

def zi (z : List Int) : List Value := z.map (Value.int .i64)
theorem zi_len (z : List Int) : (zi z).length = z.length := by simp [zi]
theorem zi_one (z : List Int) : ∀ u ∈ zi z, u.oneCell' = true := fun u hu => by
  obtain ⟨x, _, rfl⟩ := List.mem_map.1 hu
  rfl
theorem own_empty (w : World) (e : TypeId) (s : Nat) : (w.alloc (.cells #[] e)).ownsRow w.heap.size e s (.slice (some ⟨w.heap.size, 0, none⟩) 0 0) 0 [] :=
  ⟨by simp, .inr ⟨w.heap.size, 0, #[], rfl, Nat.le_refl _, heap_alloc_new w _, Nat.le_refl _, Nat.zero_le _, by simp, by simp⟩⟩
theorem keep_past {w w' : World} {o : Obj} (h2 : (w.alloc o).grownBy w' (some w.heap.size)) : Keep (fun _ => False) w w' := by
  have ka : Keep (fun _ => False) w (w.alloc o) := Keep.alloc _ _ _
  exact ⟨h2.os.trans ka.os, h2.tape.trans ka.tape, h2.output.trans ka.output, Nat.le_trans ka.size h2.size, fun k hk _ => (h2.block k (Nat.lt_of_lt_of_le hk ka.size) (fun e => by have e : some k = some w.heap.size := e; injection e with e; omega)).trans (ka.block k hk fun f => f)⟩
set_option maxRecDepth 100000 in
/-- append([]int{}, l...) -/
theorem wp_cloneZ {w : World} {ops : Array Oper} {rest : List Oper} {o : Oper} {ac : Act} {Q : Exit → Act → World → Prop} (hgd : o.guard = none) (s x : Operand)
    (ho : o.op = .call { callee := .builtin .append, args := #[s, x], argTypes := #[30, 30] })
    (hs : ac.eval s = .slice (some ⟨w.heap.size, 0, none⟩) 0 0) (B : Nat) (t : Option Addr × Nat × Nat) (z : List Int) (hx : ac.eval x = .slice t.1 t.2.1 t.2.2) (hz : Gr.RdZ B w t z) (h0 : t.1 = none → t.2.2 = 0) (hn : z.length ≤ 1048576)
    (h : ∀ v' w', w'.ownsRow w.heap.size 3 1 v' z.length (zi z) → Keep (fun _ => False) w w' → wpList Tryz.prog ops Q rest (ac.put o.dst v') w') : wpList Tryz.prog ops Q (o :: rest) ac (w.alloc (.cells #[] 3)) := by
  have ka : Keep (fun _ => False) w (w.alloc (.cells #[] 3)) := Keep.alloc _ _ _
  obtain ⟨i0, hi, hz0, hz1, hz2⟩ := info_parts info_i64N
  obtain ⟨ta, tn, tc⟩ := t
  have htn : tn = z.length := hz.1
  subst htn
  have hown := own_empty w 3 1
  cases ta with
  | none =>
    have hz0' : z.length = 0 := by
      rcases hz.2.2 with h0 | ⟨g, off, e, _⟩
      · exact h0
      · cases e
    obtain rfl : z = [] := List.eq_nil_of_length_eq_zero hz0'
    have htc : tc = 0 := h0 rfl
    subst htc
    refine wpList_append_own_none hgd s x 30 ho w.heap.size 3 i0 1 Tryz.underlying30 hi _ 0 [] hs hown hx ?_
    exact h _ _ hown ka
  | some ad =>
    refine wpList_append_own2 hgd s x 30 ho w.heap.size 3 i0 (.int .i64 0) 1 8 Tryz.underlying30 hi hz0 hz1 hz2 rfl (by decide) _ 0 [] hs hown ad z.length tc (zi z) hx (by rw [zi_len]; omega) (fun j u hu => ?_) (zi_one z) (by unfold maxLen; omega) (by omega) ka.size ?_
    · simp only [zi, List.getElem?_map] at hu
      obtain ⟨y, hy, rfl⟩ := Option.map_eq_some_iff.1 hu
      rcases hz.2.2 with h0 | ⟨g, off, e, _, hc⟩
      · have := (List.getElem?_eq_some_iff.1 hy).1
        simp only at h0
        omega
      · injection e with e
        subst e
        rw [Addr.add_mid]
        exact ka.cell (hc j y hy) (fun f => f)
    · intro v' w' h1 h2 _
      exact h v' w' (by simpa using h1) (keep_past h2)
theorem flat_of {qs : List Gr.Nd} {j : Nat} {u : Value} (h : (U.flat qs)[j]? = some u) : ∃ q, qs[j / 10]? = some q ∧ q.row[j % 10]? = some u := by
  have hl : (U.flat qs).length = qs.length * 10 := U.flat_length qs
  have hj := (List.getElem?_eq_some_iff.1 h).1
  obtain ⟨q, hq⟩ : ∃ q, qs[j / 10]? = some q := ⟨_, List.getElem?_eq_getElem (by omega)⟩
  obtain ⟨v, hv⟩ : ∃ v, q.row[j % 10]? = some v := ⟨_, List.getElem?_eq_getElem (by have : q.row.length = 10 := rfl; omega)⟩
  have := U.flat_get qs (j / 10) (j % 10) q v hq hv
  rw [show j / 10 * 10 + j % 10 = j by omega, h] at this
  exact ⟨q, hq, by rw [hv, this]⟩
set_option maxRecDepth 100000 in
/-- append([]api.Node{}, nodes...) -/
theorem wp_cloneN {w : World} {ops : Array Oper} {rest : List Oper} {o : Oper} {ac : Act} {Q : Exit → Act → World → Prop} (hgd : o.guard = none) (s x : Operand)
    (ho : o.op = .call { callee := .builtin .append, args := #[s, x], argTypes := #[22, 22] })
    (hs : ac.eval s = .slice (some ⟨w.heap.size, 0, none⟩) 0 0) (B : Nat) (t : Option Addr × Nat × Nat) (xs : List Gr.No) (hx : ac.eval x = .slice t.1 t.2.1 t.2.2) (hz : Gr.RdP B w t xs) (h0 : t.1 = none → t.2.2 = 0) (hn : xs.length ≤ 1048576)
    (h : ∀ v' w', w'.ownsRow w.heap.size 32 10 v' xs.length (U.flat (xs.map (·.q))) → Keep (fun _ => False) w w' → wpList Tryz.prog ops Q rest (ac.put o.dst v') w') : wpList Tryz.prog ops Q (o :: rest) ac (w.alloc (.cells #[] 32)) := by
  have ka : Keep (fun _ => False) w (w.alloc (.cells #[] 32)) := Keep.alloc _ _ _
  obtain ⟨i0, hi, hz0, hz1, hz2⟩ := info_parts info_nodeN
  obtain ⟨ta, tn, tc⟩ := t
  have htn : tn = xs.length := hz.1
  subst htn
  have hown := own_empty w 32 10
  have hl : (U.flat (xs.map (·.q))).length = xs.length * 10 := by rw [U.flat_length, List.length_map]
  cases ta with
  | none =>
    have hz0' : xs.length = 0 := by
      rcases hz.2.2.1 with h0 | ⟨g, off, e, _⟩
      · exact h0
      · cases e
    obtain rfl : xs = [] := List.eq_nil_of_length_eq_zero hz0'
    have htc : tc = 0 := h0 rfl
    subst htc
    refine wpList_append_own_none hgd s x 22 ho w.heap.size 32 i0 10 Tryz.underlying22 hi _ 0 [] hs hown hx ?_
    exact h _ _ hown ka
  | some ad =>
    refine wpList_append_own2 hgd s x 22 ho w.heap.size 32 i0 _ 10 120 Tryz.underlying22 hi hz0 hz1 hz2 rfl (by decide) _ 0 [] hs hown ad xs.length tc (U.flat (xs.map (·.q))) hx hl (fun j u hu => ?_) (fun u hu => ?_) (by unfold maxLen; omega) (by omega) ka.size ?_
    · obtain ⟨q, hq, hr⟩ := flat_of hu
      rw [List.getElem?_map] at hq
      obtain ⟨y, hy, rfl⟩ := Option.map_eq_some_iff.1 hq
      rcases hz.2.2.1 with h0 | ⟨g, off, e, _, hc⟩
      · have := (List.getElem?_eq_some_iff.1 hy).1
        simp only at h0
        omega
      · injection e with e
        subst e
        have := ka.cell (hc (j / 10) y hy (j % 10) u hr) (fun f => f)
        rw [Addr.add_mid]
        rw [show off + j / 10 * 10 + j % 10 = off + j by omega] at this
        exact this
    · obtain ⟨j, hj⟩ := List.mem_iff_getElem?.1 hu
      obtain ⟨q, _, hr⟩ := flat_of hj
      have := List.mem_of_getElem? hr
      simp only [Gr.Nd.row, List.mem_cons, List.not_mem_nil, or_false] at this
      rcases this with rfl | rfl | rfl | rfl | rfl | rfl | rfl | rfl | rfl | rfl <;> rfl
    · intro v' w' h1 h2 _
      exact h v' w' (by simpa using h1) (keep_past h2)
/-- a list lent: two numbers lie behind it -/
def Ls2 (B : Nat) (w : World) (s : Option Addr × Nat × Nat) (z : List Int) (m1 m2 : Int) : Prop :=
  ∃ g cap, s = (some ⟨g, 0, none⟩, z.length, cap) ∧ w.ownsRow B 3 1 (.slice (some ⟨g, 0, none⟩) (z.length + 2) cap) (z.length + 2) (zi z ++ [.int .i64 m1, .int .i64 m2])
/-- the whole of it -/
def fe (s : Option Addr × Nat × Nat) : Value := .slice s.1 (s.2.1 + 2) s.2.2
theorem Ls2.keep {B : Nat} {w w' : World} {s : Option Addr × Nat × Nat} {z : List Int} {m1 m2 : Int} (h : Ls2 B w s z m1 m2) {S : Nat → Prop} (k : Keep S w w') (hS : ∀ g cur, S g → w.heap[g]? ≠ some (.cells cur 3 (0, 0))) : Ls2 B w' s z m1 m2 := by
  obtain ⟨g, cap, e, h2⟩ := h
  refine ⟨g, cap, e, U.own_keep h2 k fun g hg s => ?_⟩
  obtain ⟨_, _, cur, hcur⟩ := U.own_blk h2 hg
  exact hS g cur s hcur
theorem Ls2.cell {B : Nat} {w : World} {s : Option Addr × Nat × Nat} {z : List Int} {m1 m2 : Int} (h : Ls2 B w s z m1 m2) : ∃ g cap, s = (some ⟨g, 0, none⟩, z.length, cap) ∧ B ≤ g ∧ g < w.heap.size ∧ ∀ j u, (zi z ++ [.int .i64 m1, .int .i64 m2])[j]? = some u → w.cell? ⟨g, j, none⟩ = some u := by
  obtain ⟨g, cap, e, h2⟩ := h
  obtain ⟨h3, h4, _⟩ := U.own_blk h2 rfl
  refine ⟨g, cap, e, h3, h4, fun j u hu => ?_⟩
  have hj := (List.getElem?_eq_some_iff.1 hu).1
  rw [h2.cellAt j (by rw [List.length_append, zi_len] at hj; simpa using hj)]
  exact hu
theorem Ls2.rd {B : Nat} {w : World} {s : Option Addr × Nat × Nat} {z : List Int} {m1 m2 : Int} (h : Ls2 B w s z m1 m2) (hz : z.length ≤ 1048576) : Gr.RdZ w.heap.size w s z := by
  obtain ⟨g, cap, rfl, _, hg, hc⟩ := h.cell
  refine ⟨rfl, by show z.length ≤ _; omega, .inr ⟨g, 0, rfl, hg, fun j x hx => ?_⟩⟩
  rw [Nat.zero_add]
  refine hc j _ ?_
  rw [List.getElem?_append_left (by rw [zi_len]; exact (List.getElem?_eq_some_iff.1 hx).1)]
  simp [zi, hx]
/-- the whole list, as it lies -/
theorem Ls2.full {B : Nat} {w : World} {s : Option Addr × Nat × Nat} {z : List Int} {m1 m2 : Int} (h : Ls2 B w s z m1 m2) (hz : z.length ≤ 1048576) : Gr.RdZ w.heap.size w (s.1, s.2.1 + 2, s.2.2) (z ++ [m1, m2]) := by
  obtain ⟨g, cap, rfl, _, hg, hc⟩ := h.cell
  refine ⟨by simp, by show z.length + 2 ≤ _; omega, .inr ⟨g, 0, rfl, hg, fun j x hx => ?_⟩⟩
  rw [Nat.zero_add]
  refine hc j _ ?_
  have e : zi z ++ [.int .i64 m1, .int .i64 m2] = zi (z ++ [m1, m2]) := by simp [zi]
  rw [e, zi, List.getElem?_map, hx]
  rfl
def fes (ys : List Gr.No) : List Value := ys.flatMap fun y => [fe y.q.ne, fe y.q.af]
theorem fes_len (ys : List Gr.No) : (fes ys).length = 2 * ys.length := by
  induction ys with
  | nil => rfl
  | cons x xs ih => simp only [fes, List.flatMap_cons, List.length_append, List.length_cons] at ih ⊢; rw [ih]; simp; omega
/-- a plan with room: ys the nodes that are through, tl those that are not -/
structure RoI (B : Nat) (nm : ByteArray) (dl : Int) (s : Option Addr × Nat × Nat) (w0 wr : World) (va fv : Value) (ys tl : List Gr.No) : Prop where
  p1 : wr.heap[B]? = some (.cells #[.string nm, .int .i64 dl, .slice s.1 s.2.1 s.2.2] 24 (0, 0))
  q : wr.heap[B + 1 + 1]? = some (.cells #[.string nm, .int .i64 dl, va] 24 (0, 0))
  r : wr.heap[B + 1]? = some (.cells #[.string ⟨#[]⟩, .int .i64 0, .slice none 0 0] 24 (0, 0))
  kp : Keep (fun k => B ≤ k) w0 wr
  nodes : wr.ownsRow B 32 10 va (ys.length + tl.length) (U.flat ((ys ++ tl).map (·.q)))
  ls : ∀ y ∈ ys, Ls2 B wr y.q.ne y.nl 71 72 ∧ Ls2 B wr y.q.af y.al 73 74
  full : wr.ownsRow B 30 1 fv (2 * ys.length) (fes ys)
variable {B : Nat} {nm : ByteArray} {dl : Int} {s : Option Addr × Nat × Nat} {w0 wr w' : World} {va fv fv' : Value} {ys tl : List Gr.No} {x1 x2 : Gr.No}
theorem RoI.new (h : RoI B nm dl s w0 wr va fv ys tl) (k : Keep (fun _ => False) wr w') : RoI B nm dl s w0 w' va fv ys tl :=
  ⟨k.blk h.p1 (fun f => f), k.blk h.q (fun f => f), k.blk h.r (fun f => f), h.kp.more (k.mono fun _ f => f.elim), ownsRow_new h.nodes k, fun y hy => ⟨(h.ls y hy).1.keep k (fun _ _ f => f.elim), (h.ls y hy).2.keep k (fun _ _ f => f.elim)⟩, ownsRow_new h.full k⟩
/-- a list stored into a node -/
theorem RoI.put (h : RoI B nm dl s w0 wr va fv ys (x1 :: tl)) {g c m : Nat} (hva : va = .slice (some ⟨g, 0, none⟩) m c) {j : Nat} {v : Value} (hj : j < 10) (hr : x2.q.row = x1.q.row.set j v) :
    RoI B nm dl s w0 (wr.setCell ⟨g, ys.length * 10 + j, none⟩ v) va fv ys (x2 :: tl) ∧ (∃ old, wr.cell? ⟨g, ys.length * 10 + j, none⟩ = some old) ∧ wr.frozen? ⟨g, ys.length * 10 + j, none⟩ = false := by
  subst hva
  have hm : m = ys.length + (x1 :: tl).length := by
    obtain ⟨a', c', e⟩ := ownsRow_shape h.nodes
    injection e
  subst hm
  have kk := keep_cell wr g (ys.length * 10 + j) v
  obtain ⟨hBg, hgl, cur, hcur⟩ := U.own_blk h.nodes rfl
  have hne : ∀ {t : TypeId} {k : Nat} {cs : Array Value}, t ≠ 32 → wr.heap[k]? = some (.cells cs t (0, 0)) → k ≠ g := fun ht hc e => by
    subst e
    rw [hcur] at hc
    injection hc with hc
    injection hc with _ hc
    exact ht hc.symm
  have hint : ∀ k cur, k = g → wr.heap[k]? ≠ some (.cells cur 3 (0, 0)) := fun k cur e hc => hne (by decide) hc e
  refine ⟨⟨kk.blk h.p1 (hne (by decide) h.p1), kk.blk h.q (hne (by decide) h.q), kk.blk h.r (hne (by decide) h.r), h.kp.more (kk.mono fun q e => by subst e; exact hBg), ?_, fun y hy => ⟨(h.ls y hy).1.keep kk hint, (h.ls y hy).2.keep kk hint⟩, U.own_keep h.full kk fun k hk e => ?_⟩, ?_, h.nodes.frozenAt _⟩
  · have := (h.nodes.stored (ys.length * 10 + j) v).1
    rw [U.flat_set ((ys ++ x1 :: tl).map (·.q)) ys.length j x1.q x2.q v (by simp) hr hj] at this
    have e : ((ys ++ x1 :: tl).map (·.q)).set ys.length x2.q = (ys ++ x2 :: tl).map (·.q) := by simp
    rw [e] at this
    exact this
  · obtain ⟨_, _, cur2, hc2⟩ := U.own_blk h.full hk
    exact hne (by decide) hc2 e
  · refine ⟨_, (h.nodes.cellAt (ys.length * 10 + j) ?_).trans (List.getElem?_eq_getElem ?_)⟩
    · simp; omega
    · rw [h.nodes.1]; simp; omega
/-- a node is through -/
theorem RoI.done (h : RoI B nm dl s w0 wr va fv ys (x1 :: tl)) (h1 : Ls2 B wr x1.q.ne x1.nl 71 72) (h2 : Ls2 B wr x1.q.af x1.al 73 74) (ho : w'.ownsRow B 30 1 fv' (2 * ys.length + 2) (fes ys ++ [fe x1.q.ne, fe x1.q.af])) (k : Keep (fun k => fv.ownBlock = some k) wr w') : RoI B nm dl s w0 w' va fv' (ys ++ [x1]) tl := by
  have hne : ∀ {t : TypeId} {q : Nat} {cs : Array Value}, t ≠ 30 → wr.heap[q]? = some (.cells cs t (0, 0)) → fv.ownBlock ≠ some q := fun ht hc e => by
    obtain ⟨_, _, cur, hcur⟩ := U.own_blk h.full e
    rw [hcur] at hc
    injection hc with hc
    injection hc with _ hc
    exact ht hc.symm
  have hint : ∀ q cur, fv.ownBlock = some q → wr.heap[q]? ≠ some (.cells cur 3 (0, 0)) := fun q cur e hc => hne (by decide) hc e
  refine ⟨k.blk h.p1 (hne (by decide) h.p1), k.blk h.q (hne (by decide) h.q), k.blk h.r (hne (by decide) h.r), h.kp.more (k.mono fun q e => (h.full.lt q e).1), ?_, fun y hy => ?_, ?_⟩
  · have := U.own_keep h.nodes k fun q hq e => by
      obtain ⟨_, _, cur, hcur⟩ := U.own_blk h.nodes hq
      exact hne (by decide) hcur e
    rw [show (ys ++ [x1]) ++ tl = ys ++ x1 :: tl by simp, show (ys ++ [x1]).length + tl.length = ys.length + (x1 :: tl).length by simp; omega]
    exact this
  · rcases List.mem_append.1 hy with hy | hy
    · exact ⟨(h.ls y hy).1.keep k hint, (h.ls y hy).2.keep k hint⟩
    · rw [List.mem_singleton.1 hy]
      exact ⟨h1.keep k hint, h2.keep k hint⟩
  · have e1 : fes (ys ++ [x1]) = fes ys ++ [fe x1.q.ne, fe x1.q.af] := by simp [fes]
    rw [e1, show 2 * (ys ++ [x1]).length = 2 * ys.length + 2 by simp; omega]
    exact ho
theorem RoI.notI (h : RoI B nm dl s w0 wr va fv ys tl) {g m c : Nat} (hva : va = .slice (some ⟨g, 0, none⟩) m c) : ∀ k cur, k = g → wr.heap[k]? ≠ some (.cells cur 3 (0, 0)) := fun k cur e hc => by
  subst hva
  obtain ⟨_, _, cur2, hcur⟩ := U.own_blk h.nodes rfl
  rw [e, hcur] at hc
  injection hc with hc
  injection hc with _ hc
  exact absurd hc (by decide)
theorem own_cap {w : World} {b e s g n cap : Nat} {xs : List Value} (h : w.ownsRow b e s (.slice (some ⟨g, 0, none⟩) n cap) n xs) : n ≤ cap := by
  rcases h.2 with ⟨e, _⟩ | ⟨g', cap', cur, e, _, _, h4, _⟩
  · cases e
  · injection e with _ _ e3
    omega
theorem add_zero (a : Addr) : a.add 0 = a := by unfold Addr.add; split <;> simp_all
theorem slice_hi_runI (a : Option Addr) (n c hi : Nat) (h2 : hi ≤ c) (w : World) :
    (Instr.slice 30 (.slice a n c) none (some (.int .i64 (hi : Int))) none).run Tryz.prog w = .ok (.slice a hi c) w := by
  have h : (Instr.slice 30 (.slice a n c) none (some (.int .i64 (hi : Int))) none).run Tryz.prog w = .ok (.slice (if c = 0 then a else a.map (·.add 0)) hi c) w := by go_simp
  rw [h]
  cases a <;> simp [add_zero]
end So
end Go.Proofs.YtfoahfgehmghcaaGreatDoor

/- A region that draws its order, whose last operation waits for all others: the others by a walk under S, which the last one need not keep. -/
namespace Go.Proofs.YtfoahfgehmghcaaGreatDoor
namespace RL


section
variable {P : Program} {md : Region.Mode} {ops ops2 : Array Oper} {n : Nat} {o o2 : Oper}

/-- What the two regions share. -/
structure Twin (md : Region.Mode) (ops ops2 : Array Oper) (n : Nat) (o o2 : Oper) : Prop where
  size : ops.size = n + 1
  size2 : ops2.size = n + 1
  same : ∀ i, i < n → ops2[i]? = ops[i]?
  last : ops[n]? = some o
  last2 : ops2[n]? = some o2
  after : o2.after = o.after
  g1 : o.guard = none
  g2 : o2.guard = none
  d2 : o2.dst = none
  gd : ∀ (i : Nat) (oi : Oper), ops[i]? = some oi → oi.guard = none
  all : ∀ i, i < n → ∃ (j : Nat) (oj : Oper) (e : _), i < j ∧ j ≤ n ∧ ops[j]? = some oj ∧ e ∈ oj.after ∧ Region.binds md e = true ∧ e.on = i
  low : ∀ i oi, ops[i]? = some oi → ∀ e ∈ oi.after, Region.binds md e = true → e.on < i
theorem Twin.at {i : Nat} (h : Twin md ops ops2 n o o2) (hi : i ≠ n) : ops2[i]? = ops[i]? := by
  rcases Nat.lt_or_ge i n with k | k
  · exact h.same i k
  · rw [Array.getElem?_eq_none (by rw [h.size2]; omega), Array.getElem?_eq_none (by rw [h.size]; omega)]
theorem Twin.ready (h : Twin md ops ops2 n o o2) (listed : Array Bool) : Region.ready md ops2 listed = Region.ready md ops listed := by
  unfold Region.ready
  rw [h.size, h.size2]
  congr 1
  funext i
  by_cases e : i = n
  · subst e; rw [h.last, h.last2]; simp [h.after]
  · rw [h.at e]
theorem first_free (listed : Array Bool) : ∀ k : Nat, (∀ i, i < k → listed.getD i true = true) ∨ ∃ m, m < k ∧ listed.getD m true = false ∧ ∀ i, i < m → listed.getD i true = true
  | 0 => .inl fun i hi => absurd hi (by omega)
  | k + 1 => by
    rcases first_free listed k with h | ⟨m, h1, h2, h3⟩
    · cases hk : listed.getD k true
      · exact .inr ⟨k, by omega, hk, h⟩
      · exact .inl fun i hi => if e : i = k then by rw [e]; exact hk else h i (by omega)
    · exact .inr ⟨m, by omega, h2, h3⟩
theorem getD_tf {l : Array Bool} {i : Nat} (hi : i < l.size) : l.getD i false = l.getD i true := by simp [Array.getD, hi]
/-- As long as the last is not done something may be done. -/
theorem Twin.some_ready (h : Twin md ops ops2 n o o2) (listed : Array Bool) (hs : listed.size = n + 1) (hn : listed.getD n true = false) : Region.ready md ops listed ≠ [] := by
  rcases first_free listed (n + 1) with k | ⟨m, h1, h2, h3⟩
  · rw [k n (by omega)] at hn; cases hn
  · obtain ⟨om, hom⟩ : ∃ om, ops[m]? = some om := ⟨_, Array.getElem?_eq_getElem (by rw [h.size]; exact h1)⟩
    have : m ∈ Region.ready md ops listed := by
      unfold Region.ready
      rw [List.mem_filter]
      refine ⟨by rw [h.size]; simpa using h1, ?_⟩
      rw [h2, hom]
      simp only [Bool.not_false, Bool.true_and, Option.map_some, Option.getD_some]
      rw [Array.all_eq_true_iff_forall_mem]
      intro e he
      cases hb : Region.binds md e
      · rfl
      · have hl := h.low m om hom e he hb
        rw [getD_tf (by omega), h3 e.on hl]; rfl
    intro e
    rw [e] at this
    cases this
/-- who is done has waited -/
def Closed (md : Region.Mode) (ops : Array Oper) (listed : Array Bool) : Prop := ∀ (i : Nat) (oi : Oper), ops[i]? = some oi → listed.getD i false = true → ∀ e ∈ oi.after, Region.binds md e = true → listed.getD e.on false = true
theorem set_getD (l : Array Bool) (n i : Nat) (hn : n < l.size) : (l.setIfInBounds n true).getD i false = if i = n then true else l.getD i false := by
  by_cases h : i = n
  · subst h; simp [Array.getD, hn]
  · rw [if_neg h]
    have hne : ¬ n = i := fun k => h k.symm
    simp only [Array.getD, Array.size_setIfInBounds]
    split
    · simp only [Array.getInternal_eq_getElem]
      rw [Array.getElem_setIfInBounds, if_neg hne]
    · rfl
theorem ready_after {md : Region.Mode} {ops : Array Oper} {listed : Array Bool} {i : Nat} {oi : Oper} (hi : i ∈ Region.ready md ops listed) (ho : ops[i]? = some oi) : ∀ e ∈ oi.after, Region.binds md e = true → listed.getD e.on false = true := by
  unfold Region.ready at hi
  rw [List.mem_filter] at hi
  obtain ⟨_, hi⟩ := hi
  rw [ho] at hi
  simp only [Option.map_some, Option.getD_some, Bool.and_eq_true] at hi
  intro e he hb
  have := Array.all_eq_true_iff_forall_mem.1 hi.2 e he
  rw [hb] at this
  simpa using this
theorem Closed.step {md : Region.Mode} {ops : Array Oper} {listed : Array Bool} (h : Closed md ops listed) {i : Nat} (hi : i ∈ Region.ready md ops listed) (hs : i < listed.size) : Closed md ops (listed.setIfInBounds i true) := by
  intro j oj hj hl e he hb
  rw [set_getD _ _ _ hs] at hl ⊢
  split
  · rfl
  · split at hl
    · rename_i hji
      subst hji
      exact ready_after hi hj e he hb
    · exact h j oj hj hl e he hb
/-- Where the last may be done all others are, and behind it nothing is left. -/
theorem Twin.none_left (h : Twin md ops ops2 n o o2) (listed : Array Bool) (hs : listed.size = n + 1) (hc : Closed md ops listed) (hn : n ∈ Region.ready md ops listed) : Region.ready md ops (listed.setIfInBounds n true) = [] := by
  have hall : ∀ k i, i + k = n → 0 < k → listed.getD i false = true := by
    intro k
    induction k using Nat.strongRecOn with
    | ind k ih =>
      intro i hik hk
      obtain ⟨j, oj, e, h1, h2, h3, h4, h5, h6⟩ := h.all i (by omega)
      rw [← h6]
      by_cases hjn : j = n
      · subst hjn; exact ready_after hn h3 e h4 h5
      · exact hc j oj h3 (ih (n - j) (by omega) j (by omega) (by omega)) e h4 h5
  unfold Region.ready
  rw [List.filter_eq_nil_iff]
  intro i hi
  have hi' : i < n + 1 := by rw [← h.size]; simpa using hi
  have hl2 : (listed.setIfInBounds n true).getD i true = true := by
    rw [← getD_tf (by simpa using (by omega : i < listed.size)), set_getD _ _ _ (by omega)]
    split
    · rfl
    · exact hall (n - i) i (by omega) (by omega)
  rw [hl2]
  simp


/-- what stands behind all but the last: the last one is run -/
def endQ (P : Program) (o : Oper) (Q : Exit → Act → World → Prop) : Exit → Act → World → Prop
  | .normal, a, w => o.wp P a w (fun a' w' => Q .normal a' w') Q
  | e, a, w => Q e a w
theorem wp_endQ {o oi : Oper} {a : Act} {w : World} {K K' : Act → World → Prop} {Q : Exit → Act → World → Prop} (h : ∀ a w, K a w → K' a w) (hh : oi.wp P a w K (endQ P o Q)) : oi.wp P a w K' Q := by
  unfold Oper.wp at *
  generalize (execOp a.eval oi).run P w = r at *
  cases r with
  | ok n w' =>
    cases n <;> simp only [Oper.upon] at hh ⊢ <;>
      first
        | exact h _ _ hh
        | exact Calls.mono hh (fun e w'' he => by cases e <;> first | exact h _ _ he | exact he)
        | exact Rows.mono hh (fun _ _ he => h _ _ he)
  | halt x w' => cases x <;> simp only [Oper.upon] at hh ⊢ <;> exact hh

theorem wpAny_last {Q : Exit → Act → World → Prop} (h : Twin md ops ops2 n o o2) (hs2 : ∀ a w, o2.asks P a w → False) (hst : ∀ a w K, o2.wp P a w K (endQ P o Q) → K a w) :
    ∀ (fuel : Nat) (listed : Array Bool) (a : Act) (w : World), listed.size = n + 1 → Closed md ops listed → listed.getD n true = false → wpAny P md ops2 (endQ P o Q) fuel listed a w → wpAny P md ops Q fuel listed a w
  | 0, listed, a, w, hs, _, hn, hh => by
    have := hh.1
    rw [h.ready] at this
    exact absurd this (h.some_ready listed hs hn)
  | fuel + 1, listed, a, w, hs, hcl, hn, hh => by
    refine ⟨fun k => absurd k (h.some_ready listed hs hn), fun i hi => ?_⟩
    have hq := hh.2 i (by rw [h.ready]; exact hi)
    by_cases e : i = n
    · subst e
      have hnl := h.none_left listed hs hcl hi
      have hK : wpAny P md ops2 (endQ P o Q) fuel (listed.setIfInBounds i true) a w := by
        unfold wpOp at hq
        rw [h.last2] at hq
        simp only [Region.wanted, h.g2, if_true] at hq
        rcases hq with hq | hq
        · exact hst _ _ _ hq
        · exact (hs2 _ _ hq.1).elim
      have hQ2 : endQ P o Q .normal a w := by
        cases fuel with
        | zero => exact hK.2
        | succ f => exact hK.1 (by rw [h.ready]; exact hnl)
      unfold wpOp
      rw [h.last]
      simp only [Region.wanted, h.g1, if_true]
      refine .inl (Oper.wp_mono (fun a' w' hq' => ?_) hQ2)
      cases fuel with
      | zero => exact ⟨hnl, hq'⟩
      | succ f => exact ⟨fun _ => hq', fun j hj => by rw [hnl] at hj; cases hj⟩
    · unfold wpOp at hq ⊢
      rw [h.at e] at hq
      have hnext : ∀ a w, wpAny P md ops2 (endQ P o Q) fuel (listed.setIfInBounds i true) a w → wpAny P md ops Q fuel (listed.setIfInBounds i true) a w := fun a' w' hK => by
        refine wpAny_last h hs2 hst fuel _ a' w' (by simpa using hs) (hcl.step hi (by
          unfold Region.ready at hi
          have := (List.mem_filter.1 hi).1
          rw [hs, ← h.size]; simpa using this)) ?_ hK
        have hne : ¬ i = n := e
        simp only [Array.getD, Array.size_setIfInBounds] at hn ⊢
        split
        · rename_i hlt
          rw [dif_pos hlt] at hn
          simp only [Array.getInternal_eq_getElem] at hn ⊢
          rw [Array.getElem_setIfInBounds, if_neg hne]
          exact hn
        · rename_i hlt
          rw [dif_neg hlt] at hn
          exact hn
      cases ho : ops[i]? with
      | none => rw [ho] at hq; exact hnext _ _ hq
      | some oi =>
        rw [ho] at hq
        simp only [Region.wanted, h.gd i oi ho, if_true] at hq ⊢
        rcases hq with hq | ⟨hq1, hq2⟩
        · exact .inl (wp_endQ hnext hq)
        · exact .inr ⟨hq1, hq2⟩
end

/-- Does the last wait for all, and each for such ahead of it alone? -/
def lastB (l : List Oper) : Bool :=
  match l.getLast? with
  | none => false
  | some _ => (l.all fun x => x.guard.isNone) && ((List.range (l.length - 1)).all fun i => (List.range l.length).any fun j => decide (i < j) && (match l[j]? with | none => false | some x => x.after.any fun e => Region.binds .any e && e.on == i)) &&
    ((List.range l.length).all fun i => match l[i]? with
      | none => true
      | some x => x.after.all fun e => !Region.binds .any e || decide (e.on < i))
/-- Something quiet in an operation's place. -/
def still (o : Oper) : Oper := ⟨none, .move (.const (.bool true)), 0, o.pos, o.after, none⟩
theorem twin_of {l : List Oper} {o : Oper} (hl : l.getLast? = some o) (hb : lastB l = true) : Twin .any l.toArray (l.dropLast ++ [still o]).toArray (l.length - 1) o (still o) := by
  unfold lastB at hb
  rw [hl] at hb
  simp only [Bool.and_eq_true] at hb
  obtain ⟨⟨h2, h3⟩, h4⟩ := hb
  have h1 : ∀ x ∈ l, x.guard = none := fun x hx => by simpa using List.all_eq_true.1 h2 x hx
  obtain ⟨init, rfl⟩ : ∃ init, l = init ++ [o] := List.getLast?_eq_some_iff.1 hl
  have e : (init ++ [o]).length - 1 = init.length := by simp
  rw [e] at h3 ⊢
  refine ⟨by simp, by simp, fun i hi => ?_, by simp, by simp, rfl, h1 o (by simp), rfl, rfl, fun i oi hoi => h1 oi (by simpa using Array.mem_of_getElem? hoi), fun i hi => ?_, fun i oi hoi ed hed hbd => ?_⟩
  · simp [List.getElem?_append, hi]
  · have := List.all_eq_true.1 h3 i (by simpa using hi)
    obtain ⟨j, hj, hx⟩ := List.any_eq_true.1 this
    simp only [Bool.and_eq_true, decide_eq_true_eq] at hx
    obtain ⟨hij, hx⟩ := hx
    cases ho : (init ++ [o])[j]? with
    | none => rw [ho] at hx; cases hx
    | some x =>
      rw [ho] at hx
      obtain ⟨ed, hm, hx⟩ := Array.any_eq_true'.1 hx
      simp only [Bool.and_eq_true, beq_iff_eq] at hx
      have hjl : j < (init ++ [o]).length := by simpa using hj
      exact ⟨j, x, ed, hij, by simp at hjl; omega, by simpa using ho, hm, hx.1, hx.2⟩
  · have hi : i < (init ++ [o]).length := by
      rcases Nat.lt_or_ge i (init ++ [o]).length with k | k
      · exact k
      · rw [Array.getElem?_eq_none (by simpa using k)] at hoi; cases hoi
    have := List.all_eq_true.1 h4 i (by simpa using hi)
    rw [show (init ++ [o])[i]? = some oi by simpa using hoi] at this
    have := Array.all_eq_true_iff_forall_mem.1 this ed hed
    rw [hbd] at this
    simpa using this

/-- what was shown of a region's orders holds in a round, too -/

theorem still_wp {P : Program} {o : Oper} {a : Act} {w : World} {K : Act → World → Prop} {Q : Exit → Act → World → Prop} (h : (still o).wp P a w K Q) : K a w := h
/-- A region written out: all but the last under S; behind them the last one. -/
theorem wp_region_held_last {P : Program} {id : Nat} {Q : Exit → Act → World → Prop} {S : World → Prop} {a : Act} {w : World} {l : List Oper} {o : Oper} (hl : l.getLast? = some o) (hm : P.follows .mixedOrders = true) (hb : lastB l = true) (hS : S w.drew)
    (h : S w.drew → wpAnyH P .any (l.dropLast ++ [still o]).toArray (endQ P o Q) S (l.dropLast ++ [still o]).toArray.size (Array.replicate (l.dropLast ++ [still o]).toArray.size false) a w.drew) : (Code.region id l.toArray true).wp P Q a w := by
  have t := twin_of hl hb
  refine wp_region_any hm ?_
  have e1 : (l.dropLast ++ [still o]).toArray.size = l.toArray.size := t.size2.trans t.size.symm
  have := wpAny_of_held _ _ _ _ (h hS)
  rw [e1] at this
  refine wpAny_last t (fun a w hk => ?_) (fun a w K hk => still_wp hk) _ _ _ _ (by simp [t.size]) (fun i oi _ hl => absurd hl (by simp [Array.getD])) ?_ this
  · have h0 : noRoomEvent ∈ (#[] : Array Event) := hk.1
    simp at h0
  · have : l.length - 1 < l.toArray.size := by rw [t.size]; omega
    simp [Array.getD] <;> simpa using this
end RL
end Go.Proofs.YtfoahfgehmghcaaGreatDoor
