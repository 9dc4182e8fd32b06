/- Package source: the edges of the nodes. -/
import Derived.Test.YtfijncgmdddcnaaGreatDoorULyM
import Derived.Deep.QuietTactic
namespace Go.Proofs.YtfijncgmdddcnaaGreatDoor
namespace U
open Go.RowKit

def MOk (n : Nat) (m : Mn) : Prop := m.names ≠ [] ∧ m.names.length ≤ 1000000 ∧ (∀ x ∈ m.names, x.length ≤ 65536) ∧ m.node < n ∧ (m.kind = 0 ∨ m.kind = 1)
def NOk (x : Pn) : Prop := x.nm.length ≤ 65536 ∧ x.nl = [] ∧ x.al = []
theorem idxB_er (xs : List Gr.No) : idxB (xs.map er) = idxB xs := by
  funext k
  unfold idxB
  rw [List.findIdx?_map]
  rfl
/-- what layEdges leaves -/
def LayEnd (B D : Nat) (d : Dr) (r : Nat ⊕ List Pn) (w : World) (e : Ending) (w' : World) : Prop :=
  Below B w w' ∧ ((∃ p v, r = .inl p ∧ e = .returned v ∧ ErrAt w' v p 112) ∨ ∃ nds vn vp vm, r = .inr nds ∧ nds.length = d.nds.length ∧ e = .returned .nilIface ∧ w'.heap[D]? = some (.cells (drow d vn vp vm).toArray 69 (0, 0)) ∧ NdsAt B w' vn nds ∧ w'.ownsRow B 3 1 vp d.places.length (ivs d.places))
/-- between two mentions -/
structure LyI (B D b : Nat) (d : Dr) (vn vp vm : Value) (l : List (Mn × Option Addr × Nat)) (f : ByteArray → Option Nat) (w : World) (nds : List Pn) (wr : World) : Prop where
  blk : wr.heap[D]? = some (.cells (drow d vn vp vm).toArray 69 (0, 0))
  nd : NdsAt B wr vn nds
  pl : wr.ownsRow B 3 1 vp d.places.length (ivs d.places)
  ms : wr.ownsRow B 108 4 vm l.length (mflat l)
  nm : ∀ x ∈ l, RdS wr x.2.1 x.1.names
  mp : ∃ N, Gr.MapS wr b N f
  bel : Below B w wr
  ed : ∀ ns, edg nds ns = edg d.nds ns
  len : nds.length = d.nds.length
theorem LyI.below {B D b : Nat} {d : Dr} {vn vp vm : Value} {l : List (Mn × Option Addr × Nat)} {f : ByteArray → Option Nat} {w : World} {nds : List Pn} {wr w' : World} (h : LyI B D b d vn vp vm l f w nds wr) (k : Below wr.heap.size wr w') (hB : B ≤ wr.heap.size) : LyI B D b d vn vp vm l f w nds w' := by
  obtain ⟨N, hm⟩ := h.mp
  exact ⟨(k.block D (Array.getElem?_eq_some_iff.1 h.blk).1).trans h.blk, h.nd.below k, own_below h.pl k, own_below h.ms k, fun x hx => (h.nm x hx).below k, ⟨N, hm.of_blk (k.block b hm.lt)⟩, h.bel.trans (k.mono hB), h.ed, h.len⟩
theorem mflat_get (l : List (Mn × Option Addr × Nat)) (i j : Nat) (x : Mn × Option Addr × Nat) (u : Value) (hx : l[i]? = some x) (hu : (mrow x)[j]? = some u) : (mflat l)[i * 4 + j]? = some u := by
  induction l generalizing i with
  | nil => simp at hx
  | cons p l ih =>
    have hl : ∀ q : Mn × Option Addr × Nat, (mrow q).length = 4 := fun q => rfl
    have e : mflat (p :: l) = mrow p ++ mflat l := by simp [mflat]
    have hj : j < 4 := by rw [← hl x]; exact (List.getElem?_eq_some_iff.1 hu).1
    rw [e]
    cases i with
    | zero =>
      simp only [List.getElem?_cons_zero, Option.some.injEq] at hx
      subst hx
      rw [Nat.zero_mul, Nat.zero_add, List.getElem?_append_left (by rw [hl]; omega)]
      exact hu
    | succ i =>
      simp only [List.getElem?_cons_succ] at hx
      rw [List.getElem?_append_right (by rw [hl]; omega), hl, show (i + 1) * 4 + j - 4 = i * 4 + j by omega]
      exact ih i hx
/-- a mention of the row, cell by cell -/
theorem men_cells {B : Nat} {w : World} {va : Option Addr} {vc : Nat} {l : List (Mn × Option Addr × Nat)} (h : w.ownsRow B 108 4 (.slice va l.length vc) l.length (mflat l)) {i : Nat} {x : Mn × Option Addr × Nat} (hx : l[i]? = some x) : ∃ g, va = some ⟨g, 0, none⟩ ∧ w.cell? ⟨g, i * 4, none⟩ = some (.int .i64 (x.1.place : Int)) ∧ w.cell? ⟨g, i * 4 + 1, none⟩ = some (.int .i64 (x.1.node : Int)) ∧ w.cell? ⟨g, i * 4 + 2, none⟩ = some (.int .i64 (x.1.kind : Int)) ∧ w.cell? ⟨g, i * 4 + 3, none⟩ = some (.slice x.2.1 x.1.names.length x.2.2) := by
  have hi : i < l.length := (List.getElem?_eq_some_iff.1 hx).1
  rcases h.2 with ⟨_, e2⟩ | ⟨g, cap, cur, e1, e2, e3, e4, e5, e6, e7⟩
  · omega
  · injection e1 with e1
    have key : ∀ j u, (mrow x)[j]? = some u → w.cell? ⟨g, i * 4 + j, none⟩ = some u := fun j u hu => by
      have := mflat_get l i j x u hx hu
      rw [← e7, List.getElem?_take] at this
      split at this
      · exact cell_blk e3 _ (by simpa using this)
      · cases this
    exact ⟨g, e1, key 0 _ rfl, key 1 _ rfl, key 2 _ rfl, key 3 _ rfl⟩
theorem modify_set {α : Type} (f : α → α) : ∀ (l : List α) (i : Nat) (p : α), l[i]? = some p → l.modify i f = l.set i (f p)
  | [], i, p, h => by simp at h
  | x :: l, 0, p, h => by simp at h; subst h; simp
  | x :: l, i + 1, p, h => by simp only [List.getElem?_cons_succ] at h; simp only [List.modify_succ_cons, List.set_cons_succ, modify_set f l i p h]
/-- a list stored into a node -/
theorem LyI.store {B D b : Nat} {d : Dr} {vn vp vm : Value} {l : List (Mn × Option Addr × Nat)} {f : ByteArray → Option Nat} {w : World} {nds : List Pn} {wr : World} (h : LyI B D b d vn vp vm l f w nds wr) (m : Mn) (hm : m.node < nds.length) (hk : m.kind = 0 ∨ m.kind = 1) (z : List Int) (a : Option Addr) (c : Nat) (hz : LsI wr (a, z.length, c) z) :
    ∃ g cap, vn = .slice (some ⟨g, 0, none⟩) nds.length cap ∧ LyI B D b d vn vp vm l f w (setEdge nds m z) (wr.setCell ⟨g, m.node * 10 + (8 + m.kind), none⟩ (.slice a z.length c)) ∧ (∃ old, wr.cell? ⟨g, m.node * 10 + (8 + m.kind), none⟩ = some old) ∧ wr.frozen? ⟨g, m.node * 10 + (8 + m.kind), none⟩ = false := by
  obtain ⟨xs, h1, h2, h3⟩ := h.nd
  have hx : xs.length = nds.length := by have := congrArg List.length h1; simpa using this
  rcases h2.2 with ⟨_, e2⟩ | ⟨g, cap, cur, e1, e2, e3, e4, e5, e6, e7⟩
  · omega
  · subst e1
    have h2n : wr.ownsRow B 34 10 (.slice (some ⟨g, 0, none⟩) xs.length cap) xs.length (flat (xs.map (·.q))) := h2
    obtain ⟨x, hxi⟩ : ∃ x, xs[m.node]? = some x := ⟨_, List.getElem?_eq_getElem (by omega)⟩
    obtain ⟨p, hpi⟩ : ∃ p, nds[m.node]? = some p := ⟨_, List.getElem?_eq_getElem hm⟩
    have hep : er x = no p := by
      have := congrArg (fun l => l[m.node]?) h1
      simp only [List.getElem?_map, hxi, hpi, Option.map_some, Option.some.injEq] at this
      exact this
    have kk := keep_cell wr g (m.node * 10 + (8 + m.kind)) (.slice a z.length c)
    have hgt : ∀ {t : TypeId} {k : Nat} {cs : Array Value}, t ≠ 34 → wr.heap[k]? = some (.cells cs t (0, 0)) → k ≠ g := fun ht hc e => by
      subst e
      rw [e3] at hc
      injection hc with hc
      injection hc with _ hc
      exact ht hc.symm
    have hint : ∀ (k : Nat) (cur : Array Value), k = g → wr.heap[k]? ≠ some (.cells cur 3 (0, 0)) := fun k cur e hc => hgt (by decide) hc e
    have hstr : ∀ k, k = g → ¬ StrB wr k := fun k e => by subst e; exact not_strB e3 (by decide)
    obtain ⟨N, hmp⟩ := h.mp
    have hcell : wr.cell? ⟨g, m.node * 10 + (8 + m.kind), none⟩ ≠ none ∧ wr.frozen? ⟨g, m.node * 10 + (8 + m.kind), none⟩ = false := by
      refine ⟨?_, frozen_blk e3 _⟩
      have hj : (x.q.row)[8 + m.kind]? ≠ none := by rcases hk with e | e <;> rw [e] <;> simp [Gr.Nd.row]
      obtain ⟨u, hu⟩ := Option.ne_none_iff_exists'.1 hj
      have := flat_get (xs.map (·.q)) m.node (8 + m.kind) x.q u (by simp [hxi]) hu
      rw [← e7, List.getElem?_take] at this
      split at this
      · rw [cell_blk e3 _ (v := u) (by simpa using this)]; simp
      · cases this
    refine ⟨g, cap, by rw [hx], ⟨kk.blk h.blk (hgt (by decide) h.blk), ?_, own_keep h.pl kk fun k hk' e => ?_, own_keep h.ms kk fun k hk' e => ?_, fun y hy => (h.nm y hy).keep kk hstr, ⟨N, hmp.of_blk (kk.block b hmp.lt fun e => ?_)⟩, h.bel.trans (kk.below (by have := h.bel.size; have := (Array.getElem?_eq_some_iff.1 e3).1; omega) fun i e => by subst e; exact e2), fun ns => (edg_set nds m z ns).trans (h.ed ns), by rw [← h.len]; unfold setEdge; simp⟩, ?_, hcell.2⟩
    · -- the nodes
      obtain ⟨x', hx'⟩ : ∃ x' : Gr.No, x' = if m.kind = 0 then ⟨{ x.q with ne := (a, z.length, c) }, z, x.al⟩ else ⟨{ x.q with af := (a, z.length, c) }, x.nl, z⟩ := ⟨_, rfl⟩
      refine ⟨xs.set m.node x', ?_, ?_, ?_⟩
      · have e8 : er x' = no (if m.kind = 0 then { p with nl := z } else { p with al := z }) := by
          have a1 : x.q.nm = ba p.nm := congrArg (fun y : Gr.No => y.q.nm) hep
          have a2 : x.q.la = p.la := congrArg (fun y : Gr.No => y.q.la) hep
          have a3 : x.q.bu = p.bu := congrArg (fun y : Gr.No => y.q.bu) hep
          have a4 : x.q.cl = p.cl := congrArg (fun y : Gr.No => y.q.cl) hep
          have a5 : x.q.be = p.be := congrArg (fun y : Gr.No => y.q.be) hep
          have a6 : x.q.ba = p.bs := congrArg (fun y : Gr.No => y.q.ba) hep
          have a7 : x.q.ca = p.ca := congrArg (fun y : Gr.No => y.q.ca) hep
          have a8 : x.q.ji = p.ji := congrArg (fun y : Gr.No => y.q.ji) hep
          have a9 : x.nl = p.nl := congrArg (fun y : Gr.No => y.nl) hep
          have a10 : x.al = p.al := congrArg (fun y : Gr.No => y.al) hep
          rw [hx']
          rcases hk with e | e
          · rw [if_pos e, if_pos e]
            simp only [er, no, a1, a2, a3, a4, a5, a6, a7, a8, a10]
          · rw [if_neg (by omega), if_neg (by omega)]
            simp only [er, no, a1, a2, a3, a4, a5, a6, a7, a8, a9]
        unfold setEdge
        rw [List.map_set, e8, h1, modify_set _ nds m.node p hpi, List.map_set]
      · have hrow : x'.q.row = x.q.row.set (8 + m.kind) (.slice a z.length c) := by
          rw [hx']
          rcases hk with e | e
          · rw [if_pos e, e]; rfl
          · rw [if_neg (by omega), e]; rfl
        have := own_set h2n (m.node * 10 + (8 + m.kind)) (.slice a z.length c)
        rw [flat_set (xs.map (·.q)) m.node (8 + m.kind) x.q x'.q _ (by simp [hxi]) hrow (by omega)] at this
        rw [List.length_set, List.map_set]
        exact this
      · intro y hy
        have hz' : LsI (wr.setCell ⟨g, m.node * 10 + (8 + m.kind), none⟩ (.slice a z.length c)) (a, z.length, c) z := hz.keep kk hint
        rcases List.mem_or_eq_of_mem_set hy with hy | rfl
        · exact ⟨(h3 y hy).1.keep kk hint, (h3 y hy).2.keep kk hint⟩
        · have hxm := h3 x (List.mem_of_getElem? hxi)
          rw [hx']
          rcases hk with e | e
          · rw [if_pos e]; exact ⟨hz', hxm.2.keep kk hint⟩
          · rw [if_neg (by omega)]; exact ⟨hxm.1.keep kk hint, hz'⟩
    · obtain ⟨_, _, cur', hc'⟩ := own_blk h.pl hk'
      exact hgt (by decide) hc' e
    · obtain ⟨_, _, cur', hc'⟩ := own_blk h.ms hk'
      exact hgt (by decide) hc' e
    · obtain ⟨DD, ⟨es, cc, hh1, _⟩, _⟩ := hmp
      rw [e, e3] at hh1
      cases hh1
    · cases hc : wr.cell? ⟨g, m.node * 10 + (8 + m.kind), none⟩ with
      | none => exact absurd hc hcell.1
      | some old => exact ⟨old, rfl⟩
end U
end Go.Proofs.YtfijncgmdddcnaaGreatDoor
