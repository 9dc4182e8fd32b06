/- A plan in memory of its own, whatever its numbers: lent, or turned. -/
import Derived.Test.YtpblmleodcaamaaGLnd
import Derived.Test.YtpblmleodcaamaaGKep
namespace Go.Proofs.Ytpblmleodcaamaa
namespace Gr
open Go.RowKit

theorem own_form {w : World} {base : Nat} {e : TypeId} {size : Nat} {v : Value} {n : Nat} {xs : List Value} (h : w.ownsRow base e size v n xs) (hn : 0 < n) : ∃ g cap, v = .slice (some ⟨g, 0, none⟩) n cap := by
  rcases h.2 with ⟨_, h0⟩ | ⟨g, cap, cur, hv, _⟩
  · omega
  · exact ⟨g, cap, hv⟩
/-- a list of numbers of one's own, in blocks from b to c -/
def OwL (b c : Nat) (w : World) (s : Option Addr × Nat × Nat) : Prop := ∃ g k zs, s = (some ⟨g, 0, none⟩, k, k + 20) ∧ b ≤ g ∧ g < c ∧ Own w g zs ∧ zs.length = k + 20 ∧ k ≤ 20000
def nvN (qs : List Nd) : List Value := qs.map fun q => .slice q.ne.1 (q.ne.2.1 + 20) (q.ne.2.1 + 20)
def nvA (qs : List Nd) : List Value := qs.map fun q => .slice q.af.1 (q.af.2.1 + 20) (q.af.2.1 + 20)
structure Lw (b c : Nat) (w : World) (n G : Nat) (qs : List Nd) (v1 v2 : Value) : Prop where
  len : qs.length = n
  rows : RowsAt w G (qs ++ List.replicate 3 mkN)
  own : ∀ q ∈ qs, OwL b c w q.ne ∧ OwL b c w q.af
  o1 : w.ownsRow (b + 4) 34 1 v1 n (nvN qs)
  o2 : w.ownsRow (b + 4) 34 1 v2 n (nvA qs)
  gb : b ≤ G
  gc : G < c
theorem OwL.keep {b c : Nat} {w w' : World} {s : Option Addr × Nat × Nat} {S : Nat → Prop} (h : OwL b c w s) (k : Keep S w w') (hS : ∀ i, S i → ∀ cs, w.heap[i]? ≠ some (.cells cs 3 (0, 0))) : OwL b c w' s := by
  obtain ⟨g, m, zs, h1, h2, h3, h4, h5⟩ := h
  exact ⟨g, m, zs, h1, h2, h3, h4.typ k hS, h5⟩
theorem OwL.set {b c : Nat} {w : World} {s : Option Addr × Nat × Nat} (h : OwL b c w s) (g j : Nat) (x : Int) : OwL b c (w.setCell ⟨g, j, none⟩ (.int .i64 x)) s := by
  obtain ⟨g', m, zs, h1, h2, h3, h4, h5, h6⟩ := h
  by_cases e : g' = g
  · subst e
    exact ⟨g', m, _, h1, h2, h3, h4.set j x, by simpa using h5, h6⟩
  · exact ⟨g', m, zs, h1, h2, h3, h4.keep (keep_cell w g j _) e, h5, h6⟩
section
variable {b c : Nat} {w w' : World} {n G : Nat} {qs : List Nd} {v1 v2 : Value}
theorem Lw.new (h : Lw b c w n G qs v1 v2) (k : Keep (fun _ => False) w w') : Lw b c w' n G qs v1 v2 :=
  ⟨h.len, h.rows.new k fun f => f, fun q hq => ⟨(h.own q hq).1.keep k fun _ f => f.elim, (h.own q hq).2.keep k fun _ f => f.elim⟩, ownsRow_new h.o1 k, ownsRow_new h.o2 k, h.gb, h.gc⟩
/-- a number of a list is turned -/
theorem Lw.setZ (h : Lw b c w n G qs v1 v2) {g : Nat} {zs : List Int} (ho : Own w g zs) (j : Nat) (x : Int) : Lw b c (w.setCell ⟨g, j, none⟩ (.int .i64 x)) n G qs v1 v2 := by
  have kS := keep_cell w g j (.int .i64 x)
  refine ⟨h.len, h.rows.new kS fun e => ?_, fun q hq => ⟨(h.own q hq).1.set g j x, (h.own q hq).2.set g j x⟩, ownsRow_keep h.o1 kS fun i e1 e2 => ?_, ownsRow_keep h.o2 kS fun i e1 e2 => ?_, h.gb, h.gc⟩
  · exact rows_typ h.rows G rfl _ (by rw [e]; exact ho)
  · subst e1
    exact ownsRow_typ h.o1 (by decide) e2 _ ho
  · subst e1
    exact ownsRow_typ h.o2 (by decide) e2 _ ho
/-- a cell of a node is turned, its lists' aside -/
theorem Lw.setN (h : Lw b c w n G qs v1 v2) {i : Nat} {q q' : Nd} (hq : qs[i]? = some q) (j : Nat) (hj : j < 10) (v : Value) (hr : q'.row = q.row.set j v) (h1 : q'.ne = q.ne) (h2 : q'.af = q.af) : Lw b c (w.setCell ⟨G, i * 10 + j, none⟩ v) n G (qs.set i q') v1 v2 := by
  have kS := keep_cell w G (i * 10 + j) v
  have hi : i < qs.length := (List.getElem?_eq_some_iff.1 hq).1
  have ht := rows_typ h.rows
  have hno1 : ∀ i, i = G → v1.ownBlock ≠ some i := fun i e1 e2 => by
    rcases h.o1.2 with ⟨rfl, _⟩ | ⟨g, cap, cur, rfl, _, h3, _⟩
    · cases e2
    · have : g = i := by simpa [Value.ownBlock] using e2
      subst this
      subst e1
      obtain ⟨cur', h4, _⟩ := h.rows
      rw [h4] at h3
      injection h3 with h3
      injection h3 with _ h3
      exact absurd h3 (by decide)
  have hno2 : ∀ i, i = G → v2.ownBlock ≠ some i := fun i e1 e2 => by
    rcases h.o2.2 with ⟨rfl, _⟩ | ⟨g, cap, cur, rfl, _, h3, _⟩
    · cases e2
    · have : g = i := by simpa [Value.ownBlock] using e2
      subst this
      subst e1
      obtain ⟨cur', h4, _⟩ := h.rows
      rw [h4] at h3
      injection h3 with h3
      injection h3 with _ h3
      exact absurd h3 (by decide)
  have e1 : nvN (qs.set i q') = nvN qs := by
    unfold nvN
    rw [List.map_set, h1]
    apply List.ext_getElem?
    intro k
    rw [List.getElem?_set]
    split
    · rename_i e
      subst e
      rw [List.length_map, if_pos hi, List.getElem?_map, hq]
      rfl
    · rfl
  have e2 : nvA (qs.set i q') = nvA qs := by
    unfold nvA
    rw [List.map_set, h2]
    apply List.ext_getElem?
    intro k
    rw [List.getElem?_set]
    split
    · rename_i e
      subst e
      rw [List.length_map, if_pos hi, List.getElem?_map, hq]
      rfl
    · rfl
  refine ⟨by simp [h.len], ?_, fun q0 hq0 => ?_, by rw [e1]; exact ownsRow_keep h.o1 kS hno1, by rw [e2]; exact ownsRow_keep h.o2 kS hno2, h.gb, h.gc⟩
  · have := h.rows.set1 (i := i) (q := q) (by rw [List.getElem?_append_left hi]; exact hq) j hj q' v hr
    rwa [List.set_append, if_pos hi] at this
  · have hm : OwL b c w q0.ne ∧ OwL b c w q0.af := by
      rcases List.mem_or_eq_of_mem_set hq0 with h0 | h0
      · exact h.own q0 h0
      · rw [h0, h1, h2]
        exact h.own q (List.mem_of_getElem? hq)
    exact ⟨hm.1.keep kS ht, hm.2.keep kS ht⟩
/-- one node, and the lists that are noted of it -/
theorem Lw.at (h : Lw b c w n G qs v1 v2) {i : Nat} (hi : i < n) : ∃ q h1 c1 h2 c2 g1 k1 z1 g2 k2 z2, qs[i]? = some q ∧ NodeAt w G (i * 10) q ∧ v1 = .slice (some ⟨h1, 0, none⟩) n c1 ∧ v2 = .slice (some ⟨h2, 0, none⟩) n c2 ∧ w.cell? ⟨h1, i, none⟩ = some (.slice (some ⟨g1, 0, none⟩) (k1 + 20) (k1 + 20)) ∧ w.cell? ⟨h2, i, none⟩ = some (.slice (some ⟨g2, 0, none⟩) (k2 + 20) (k2 + 20)) ∧ q.ne = (some ⟨g1, 0, none⟩, k1, k1 + 20) ∧ q.af = (some ⟨g2, 0, none⟩, k2, k2 + 20) ∧ (b ≤ g1 ∧ g1 < c ∧ Own w g1 z1 ∧ z1.length = k1 + 20 ∧ k1 ≤ 20000) ∧ (b ≤ g2 ∧ g2 < c ∧ Own w g2 z2 ∧ z2.length = k2 + 20 ∧ k2 ≤ 20000) := by
  have hl : i < qs.length := by rw [h.len]; exact hi
  have hq : qs[i]? = some (qs[i]'hl) := List.getElem?_eq_getElem _
  obtain ⟨h1, c1, e1⟩ := own_form h.o1 (by omega)
  obtain ⟨h2, c2, e2⟩ := own_form h.o2 (by omega)
  obtain ⟨⟨g1, k1, z1, a1, a2⟩, ⟨g2, k2, z2, b1, b2⟩⟩ := h.own _ (List.mem_of_getElem? hq)
  have o1 := h.o1
  have o2 := h.o2
  rw [e1] at o1
  rw [e2] at o2
  refine ⟨_, h1, c1, h2, c2, g1, k1, z1, g2, k2, z2, hq, h.rows.node i _ (by rw [List.getElem?_append_left hl]; exact hq), e1, e2, ?_, ?_, a1, b1, a2, b2⟩
  · rw [o1.cellAt i (by omega)]
    unfold nvN
    rw [List.getElem?_map, hq]
    simp [a1]
  · rw [o2.cellAt i (by omega)]
    unfold nvA
    rw [List.getElem?_map, hq]
    simp [b1]
/-- it can be read -/
theorem Lw.rd (h : Lw b c w n G qs v1 v2) (hn : n ≤ 20000) : ∃ ys : List No, ys.map (·.q) = qs ∧ RdP w.heap.size w (some ⟨G, 0, none⟩, n, n + 3) ys := by
  have key : ∀ q : Nd, ∃ y : No, q ∈ qs → y.q = q ∧ RdZ w.heap.size w q.ne y.nl ∧ RdZ w.heap.size w q.af y.al := fun q => by
    by_cases hq : q ∈ qs
    · obtain ⟨⟨g1, k1, z1, a1, _, _, a4, a5, a6⟩, ⟨g2, k2, z2, b1, _, _, b4, b5, b6⟩⟩ := h.own q hq
      refine ⟨⟨q, z1.take k1, z2.take k2⟩, fun _ => ⟨rfl, ?_, ?_⟩⟩
      · rw [a1]; exact a4.rd (by omega) (by omega) _
      · rw [b1]; exact b4.rd (by omega) (by omega) _
    · exact ⟨⟨q, [], []⟩, fun e => absurd e hq⟩
  obtain ⟨f, hf⟩ := Classical.axiomOfChoice key
  have hmap : (qs.map f).map (·.q) = qs := by
    rw [List.map_map]
    conv => rhs; rw [← List.map_id qs]
    exact List.map_congr_left fun q hq => (hf q hq).1
  refine ⟨qs.map f, hmap, by simp [h.len], by show n ≤ _; omega, .inr ⟨G, 0, rfl, h.rows.lt, fun i x hx => ?_⟩, fun x hx => ?_⟩
  · rw [Nat.zero_add]
    rw [List.getElem?_map] at hx
    obtain ⟨q, hq, rfl⟩ := Option.map_eq_some_iff.1 hx
    rw [(hf q (List.mem_of_getElem? hq)).1]
    exact h.rows.node i q (by rw [List.getElem?_append_left (List.getElem?_eq_some_iff.1 hq).1]; exact hq)
  · obtain ⟨q, hq, rfl⟩ := List.mem_map.1 hx
    obtain ⟨e, e1, e2⟩ := hf q hq
    rw [e]
    exact ⟨e1, e2⟩
end
/-- what is lent can be turned -/
theorem Ln.w {b : Nat} {w : World} {n : Nat} {xs : List No} {G : Nat} {ys : List No} {v1 v2 : Value} (h : Ln b w n xs G ys v1 v2) (hl : xs.length = n) (hb : ∀ x ∈ xs, x.nl.length ≤ 20000 ∧ x.al.length ≤ 20000) : Lw b w.heap.size w n G (ys.map (·.q)) v1 v2 := by
  have hall : ∀ y ∈ ys, ∃ g1 g2 x, x ∈ xs ∧ y.nl = x.nl ∧ y.al = x.al ∧ y.q.ne = (some ⟨g1, 0, none⟩, x.nl.length, x.nl.length + 20) ∧ y.q.af = (some ⟨g2, 0, none⟩, x.al.length, x.al.length + 20) ∧ b ≤ g1 ∧ b ≤ g2 ∧ Own w g1 (marked x.nl) ∧ Own w g2 (marked x.al) := fun y hy => by
    obtain ⟨k, hk⟩ := List.getElem?_of_mem hy
    have hkl : k < xs.length := by rw [hl, ← h.len]; exact (List.getElem?_eq_some_iff.1 hk).1
    have hx : xs[k]? = some (xs[k]'hkl) := List.getElem?_eq_getElem _
    have ht := h.lts k _ y hx hk
    obtain ⟨g1, e1, o1⟩ := ht.ne
    obtain ⟨g2, e2, o2⟩ := ht.af
    obtain ⟨f1, f2, d1, d2, d3, d4⟩ := h.fr y hy
    rw [e1] at d1
    rw [e2] at d2
    injection d1 with d1
    injection d1 with d1
    injection d1 with d1
    injection d2 with d2
    injection d2 with d2
    injection d2 with d2
    subst d1
    subst d2
    exact ⟨_, _, _, List.mem_of_getElem? hx, ht.nl, ht.al, e1, e2, d3, d4, o1, o2⟩
  refine ⟨by simp [h.len], h.rows, fun q hq => ?_, ?_, ?_, h.gb, h.rows.lt⟩
  · obtain ⟨y, hy, rfl⟩ := List.mem_map.1 hq
    obtain ⟨g1, g2, x, hx, _, _, e1, e2, d3, d4, o1, o2⟩ := hall y hy
    have hx2 := hb x hx
    exact ⟨⟨g1, _, _, e1, d3, (Array.getElem?_eq_some_iff.1 o1).1, o1, by rw [marked_len], hx2.1⟩, ⟨g2, _, _, e2, d4, (Array.getElem?_eq_some_iff.1 o2).1, o2, by rw [marked_len], hx2.2⟩⟩
  · have e : nvN (ys.map (·.q)) = noteN ys := by
      unfold nvN noteN
      rw [List.map_map]
      refine List.map_congr_left fun y hy => ?_
      obtain ⟨g1, g2, x, hx, n1, n2, e1, e2, _⟩ := hall y hy
      simp [e1, n1]
    rw [e]; exact h.o1
  · have e : nvA (ys.map (·.q)) = noteA ys := by
      unfold nvA noteA
      rw [List.map_map]
      refine List.map_congr_left fun y hy => ?_
      obtain ⟨g1, g2, x, hx, n1, n2, e1, e2, _⟩ := hall y hy
      simp [e2, n2]
    rw [e]; exact h.o2
end Gr
end Go.Proofs.Ytpblmleodcaamaa
