/- The document's expressions: Parse. -/
import Derived.Test.YtbgioclbjbmicaaDoorXRs5
import Derived.Test.YtbgioclbjbmicaaDoorXTextM
namespace Go.Proofs.YtbgioclbjbmicaaDoor
open Go.RowKit

/-- One of the five sets, as a slice. -/
def rsl (G : Nat → Nat) (f : Nat) : Value := .slice (some ⟨G f, 0, none⟩) (X.hiF f + 1) (X.hiF f + 1)
/-- An expression of the document's, by value. -/
def rex (G : Nat → Nat) : Value := .agg #[.slice (some ⟨G 0, 0, none⟩) 60 60, .slice (some ⟨G 1, 0, none⟩) 24 24, .slice (some ⟨G 2, 0, none⟩) 32 32, .slice (some ⟨G 3, 0, none⟩) 13 13, .slice (some ⟨G 4, 0, none⟩) 7 7]
/-- Its sets in memory. -/
def RxAt (G : Nat → Nat) (S : X.Sets) (w : World) : Prop := ∀ f, f < 5 → ∀ v, v < X.hiF f + 1 → w.cell? ⟨G f, v, none⟩ = some (.bool (S (60 * f + v)))
theorem RxAt.lt {G : Nat → Nat} {S : X.Sets} {w : World} (h : RxAt G S w) {f : Nat} (hf : f < 5) : G f < w.heap.size := World.block_lt_of_cell? _ ⟨G f, 0, none⟩ (h f hf 0 (by omega))
theorem RxAt.keep {G : Nat → Nat} {S : X.Sets} {w w' : World} (h : RxAt G S w) (b : Below w.heap.size w w') : RxAt G S w' := fun f hf v hv => by
  rw [b.cell (p := ⟨G f, v, none⟩) (h.lt hf)]; exact h f hf v hv
theorem info_bools : (Tryd.prog.info? 24).map (fun i => (i.zero, i.size, i.bytes)) = some (some (.slice none 0 0), 1, 24) := by kernel_rfl
def none5 : Value := .agg #[.slice none 0 0, .slice none 0 0, .slice none 0 0, .slice none 0 0, .slice none 0 0]
/-- What the document's Parse answers. -/
def RParseEnd (r : Nat ⊕ X.Sets) (e : Ending) (w' : World) : Prop :=
  match r with
  | .inl n => e = .returned (.tuple #[none5, .int .i64 n])
  | .inr S => ∃ G, e = .returned (.tuple #[rex G, .int .i64 0]) ∧ RxAt G S w'
theorem ownsRow_below {w w' : World} {base : Nat} {e : TypeId} {size : Nat} {v : Value} {n : Nat} {xs : List Value} (h : w.ownsRow base e size v n xs) (b : Below w.heap.size w w') : w'.ownsRow base e size v n xs := by
  obtain ⟨h1, h2⟩ := h
  refine ⟨h1, ?_⟩
  rcases h2 with h2 | ⟨g, cap, cur, a, b', c, d⟩
  · exact .inl h2
  · exact .inr ⟨g, cap, cur, a, b', by rw [b.block g (Array.getElem?_eq_some_iff.1 c).1]; exact c, d⟩
/-- The sets that are read so far. -/
structure PrI (w : World) (ws : List ByteArray) (gw i : Nat) (T : X.Sets) (G : Nat → Nat) (v : Value) (wx : World) : Prop where
  own : wx.ownsRow (w.heap.size + 1) 24 1 v i ((List.range i).map (rsl G))
  nil0 : i = 0 → v = .slice none 0 0
  bel : Below w.heap.size w wx
  rd : ∀ f, f < i → ∀ v, v < X.hiF f + 1 → wx.cell? ⟨G f, v, none⟩ = some (.bool (T (60 * f + v)))
  its : ItsAt gw ws wx
  low : ∀ k, T k = true → k < 60 * i
  res : wx.heap[w.heap.size]? = some (.cells #[.slice none 0 0, .slice none 0 0, .slice none 0 0, .slice none 0 0, .slice none 0 0] 26)
theorem PrI.keep {w : World} {ws : List ByteArray} {gw i : Nat} {T : X.Sets} {G : Nat → Nat} {v : Value} {wx wy : World} (h : PrI w ws gw i T G v wx) (b : Below wx.heap.size wx wy) : PrI w ws gw i T G v wy :=
  ⟨ownsRow_below h.own b, h.nil0, h.bel.trans (b.mono h.bel.size), fun f hf v hv => by
    have := h.rd f hf v hv
    rw [b.cell (p := ⟨G f, v, none⟩) (World.block_lt_of_cell? _ _ this)]; exact this, h.its.keep b, h.low, by rw [b.block _ (Array.getElem?_eq_some_iff.1 h.res).1]; exact h.res⟩
theorem PrI.res0 {w : World} {ws : List ByteArray} {gw i : Nat} {T : X.Sets} {G : Nat → Nat} {v : Value} {wx : World} (h : PrI w ws gw i T G v wx) (j : Nat) (hj : j < 5) : wx.cell? ⟨w.heap.size, j, none⟩ = some (.slice none 0 0) := by
  rw [cell_of_row _ _ _ _ _ _ h.res]
  rcases five j hj with rfl | rfl | rfl | rfl | rfl <;> rfl
theorem PrI.fr {w : World} {ws : List ByteArray} {gw i : Nat} {T : X.Sets} {G : Nat → Nat} {v : Value} {wx : World} (h : PrI w ws gw i T G v wx) (j : Nat) : wx.frozen? ⟨w.heap.size, j, none⟩ = false := by
  unfold World.frozen?; rw [h.res]; simp
/-- A row of slices holds no bools, no strings. -/
theorem own_ne {w : World} {base : Nat} {v : Value} {i : Nat} {G : Nat → Nat} (h : w.ownsRow base 24 1 v i ((List.range i).map (rsl G))) {k j : Nat} {u : Value} (hc : w.cell? ⟨k, j, none⟩ = some u) (hj : j < i) (hu : u ≠ rsl G j) : v.ownBlock ≠ some k := by
  intro e
  have := h.cells e j (rsl G j) (by simp [hj])
  have e2 : ((⟨k, 0, none⟩ : Addr).add j) = ⟨k, j, none⟩ := by simp [Addr.add]; omega
  rw [e2, hc] at this
  exact hu (Option.some.inj this)
theorem rsl_bool (G : Nat → Nat) (j : Nat) (b : Bool) : Value.bool b ≠ rsl G j := by unfold rsl; intro e; cases e
theorem rsl_str (G : Nat → Nat) (j : Nat) (b : ByteArray) : Value.string b ≠ rsl G j := by unfold rsl; intro e; cases e
theorem PrI.off {w : World} {ws : List ByteArray} {gw i : Nat} {T : X.Sets} {G : Nat → Nat} {v : Value} {wx : World} (h : PrI w ws gw i T G v wx) {k : Nat} {u : Value} (hc : wx.cell? ⟨k, 0, none⟩ = some u) (hu : ∀ G, u ≠ rsl G 0) : v.ownBlock ≠ some k := by
  by_cases hi : i = 0
  · rw [h.nil0 hi]; intro e; cases e
  · exact own_ne h.own hc (by omega) (hu G)
/-- One set more. -/
theorem PrI.more {w : World} {ws : List ByteArray} {gw i : Nat} {T U : X.Sets} {G : Nat → Nat} {v v' : Value} {wx wy : World} {g : Nat} (h : PrI w ws gw i T G v wx) (hi : i < 5) (hU : X.addWord (60 * i) (X.loF i) (X.hiF i) (((ws.drop i).map (·.data.toList)).headD []) T = some U)
    (hg : ∀ v, v < X.hiF i + 1 → wx.cell? ⟨g, v, none⟩ = some (.bool (U (60 * i + v)))) (hne : ws ≠ []) (o : Obj)
    (hown : wy.ownsRow (w.heap.size + 1) 24 1 v' (i + 1) (((List.range i).map (rsl G)) ++ [.slice (some ⟨g, 0, none⟩) (X.hiF i + 1) (X.hiF i + 1)])) (hgr : (wx.alloc o).grownBy wy v.ownBlock) :
    PrI w ws gw (i + 1) U (fun f => if f = i then g else G f) v' wy := by
  obtain ⟨j1, j2, _⟩ := X.addItems_facts _ _ _ (X.loF_le i).1 _ _ _ hU
  have hlh := X.loF_le i
  have hB : Below w.heap.size w wy := Below.grown (h.bel.alloc h.bel.size _) hgr (by have := h.bel.size; simp; omega) (fun j hj => by have := (h.own.lt _ hj).1; omega)
  have kp : ∀ k u, wx.cell? ⟨k, 0, none⟩ = some u → (∀ G, u ≠ rsl G 0) → ∀ j, wy.cell? ⟨k, j, none⟩ = wx.cell? ⟨k, j, none⟩ := by
    intro k u hc hu j
    have hlt : k < wx.heap.size := World.block_lt_of_cell? _ _ hc
    have e : wy.heap[k]? = wx.heap[k]? := by
      rw [hgr.block k (by simp; omega) (fun e => h.off hc hu e.symm), Below.heap_alloc _ _ _ hlt]
    exact World.cell?_of_block e
  have low : ∀ k, k < 60 * i → U k = T k := by
    intro k hk
    cases hT : T k
    · cases hU' : U k
      · rfl
      · rcases j2 k hU' with h1 | ⟨v, h1, h2, h3⟩
        · rw [hT] at h1; cases h1
        · omega
    · exact j1 k hT
  refine ⟨?_, fun e => absurd e (by omega), hB, ?_, ?_, ?_, ?_⟩
  · have e : (List.range (i + 1)).map (rsl fun f => if f = i then g else G f) = ((List.range i).map (rsl G)) ++ [.slice (some ⟨g, 0, none⟩) (X.hiF i + 1) (X.hiF i + 1)] := by
      rw [List.range_succ, List.map_append]
      congr 1
      · apply List.map_congr_left
        intro f hf
        have : f ≠ i := by have := List.mem_range.1 hf; omega
        simp [rsl, this]
      · simp [rsl]
    rw [e]; exact hown
  · intro f hf v hv
    by_cases e : f = i
    · subst e
      simp only [if_pos]
      rw [kp g _ (hg 0 (by omega)) (fun G => rsl_bool G 0 _) v]
      exact hg v hv
    · simp only [if_neg e]
      have hfl := X.loF_le f
      rw [kp (G f) _ (h.rd f (by omega) 0 (by omega)) (fun G => rsl_bool G 0 _) v, low _ (by omega)]
      exact h.rd f (by omega) v hv
  · intro j x hx
    obtain ⟨y, hy⟩ : ∃ y, ws[0]? = some y := by
      cases ws with
      | nil => exact absurd rfl hne
      | cons y t => exact ⟨y, rfl⟩
    rw [kp gw _ (h.its 0 y hy) (fun G => rsl_str G 0 _) j]
    exact h.its j x hx
  · intro k hk
    rcases j2 k hk with h1 | ⟨v, h1, h2, h3⟩
    · have := h.low k h1; omega
    · omega
  · have hlt := (Array.getElem?_eq_some_iff.1 h.res).1
    rw [hgr.block _ (by simp; omega) (fun e => by have := (h.own.lt _ e.symm).1; omega), Below.heap_alloc _ _ _ hlt]; exact h.res
end Go.Proofs.YtbgioclbjbmicaaDoor
