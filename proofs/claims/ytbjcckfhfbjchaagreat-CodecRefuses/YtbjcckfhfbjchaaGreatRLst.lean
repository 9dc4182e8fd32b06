import Derived.Test.YtbjcckfhfbjchaaGreatCGj
import Derived.OrdersHeld
import Derived.Deep.RegionHeld
/- Codec: the laws' node: what its loop keeps. -/
namespace Go.Proofs.YtbjcckfhfbjchaaGreat
namespace Cd
open Go.RowKit Go.Deep

/-- numbers as cells -/
def zv (z : List Int) : List Value := z.map (Value.int .i64)
theorem zv_len (z : List Int) : (zv z).length = z.length := by simp [zv]
theorem info_i64 : (Tryz.prog.info? 3).map (fun i => (i.zero, i.size, i.bytes)) = some (some (.int .i64 0), 1, 8) := by kernel_rfl
/-- a number behind a row of the call's own -/
theorem wp_app_int {w : World} {ops : Array Oper} {rest : List Oper} {o : Oper} {a : Act} {Q : Exit → Act → World → Prop} (hgd : o.guard = none) (s x : Operand)
    (ho : o.op = .call { callee := .builtin .append, args := #[s, x], argTypes := #[52, 52] })
    (D : Nat) (v : Value) (z : List Int) (hs : a.eval s = v) (hown : w.ownsRow D 3 1 v z.length (zv z)) (g : Nat) (y : Int) (hx : a.eval x = .slice (some ⟨g, 0, none⟩) 1 1) (hg : w.cell? ⟨g, 0, none⟩ = some (.int .i64 y)) (hl : z.length ≤ 1000) (hD : D ≤ w.heap.size)
    (h : ∀ xa xc w', w'.ownsRow D 3 1 (.slice xa (z ++ [y]).length xc) (z ++ [y]).length (zv (z ++ [y])) → Keep (fun k => v.ownBlock = some k) w w' → NewBlk w v (.slice xa (z ++ [y]).length xc) → wpList Tryz.prog ops Q rest (a.put o.dst (.slice xa (z ++ [y]).length xc)) w') : wpList Tryz.prog ops Q (o :: rest) a w := by
  obtain ⟨i0, hi, hz0, hz1, hz2⟩ := info_parts info_i64
  refine wpList_append_own2 hgd s x 52 ho D 3 i0 (.int .i64 0) 1 8 Tryz.underlying52 hi hz0 hz1 hz2 rfl (by decide) v z.length (zv z) hs hown ⟨g, 0, none⟩ 1 1 [.int .i64 y] hx rfl (fun j u hu => ?_) (fun u hu => by rw [List.mem_singleton.1 hu]; rfl) (by unfold maxLen; omega) (by omega) hD ?_
  · cases j with
    | zero =>
      have : u = .int .i64 y := by simpa using hu.symm
      subst this
      simpa [Addr.add] using hg
    | succ j => simp at hu
  · intro v' w' h1 h2 h3
    have e : zv z ++ [.int .i64 y] = zv (z ++ [y]) := by simp [zv]
    have el : z.length + 1 = (z ++ [y]).length := by simp
    rw [e, el] at h1
    obtain ⟨xa, xc, rfl⟩ := ownsRow_shape h1
    exact h xa xc w' h1 (Keep.grown h2 fun k e => e) h3
/-- what stands between two rounds: the node at b, its two lists in blocks of their own from D on, the marks, the room for the answer -/
structure NL (w wr : World) (o b D m1 m2 i : Nat) (nb ab : List Bool) (zero : Array Value) (row : Value → Value → Array Value) (z1 z2 : List Int) (x y : Value) : Prop where
  blk : wr.heap[b]? = some (.cells (row x y) 57 (0, 0))
  ox : wr.ownsRow D 3 1 x z1.length (zv z1)
  oy : wr.ownsRow D 3 1 y z2.length (zv z2)
  ap : ∀ g, x.ownBlock = some g → y.ownBlock ≠ some g
  o1 : wr.ownsRow 0 4 1 (.slice (some ⟨m1, 0, none⟩) i i) i (nb.map Value.bool)
  o2 : wr.ownsRow 0 4 1 (.slice (some ⟨m2, 0, none⟩) i i) i (ab.map Value.bool)
  ob : wr.heap[o]? = some (.cells zero 57 (0, 0))
  bl : Below w.heap.size w wr
  sz : D ≤ wr.heap.size
variable {w wr wA : World} {o b D m1 m2 i : Nat} {nb ab : List Bool} {zero : Array Value} {row : Value → Value → Array Value} {z1 z2 : List Int} {x y x' : Value} {k : Int} {ob : Obj}
theorem setx_row (h : ∀ x y, (row x y).size = 10 ∧ ∀ x', (row x y).setIfInBounds 8 x' = row x' y) (hb : wr.heap[b]? = some (.cells (row x y) 57 (0, 0))) (x' : Value) : (wr.setCell ⟨b, 8, none⟩ x').heap[b]? = some (.cells (row x' y) 57 (0, 0)) := by
  rw [set_blk hb 8 x', (h x y).2]
theorem sety_row (h : ∀ x y, (row x y).size = 10 ∧ ∀ x', (row x y).setIfInBounds 9 x' = row x x') (hb : wr.heap[b]? = some (.cells (row x y) 57 (0, 0))) (x' : Value) : (wr.setCell ⟨b, 9, none⟩ x').heap[b]? = some (.cells (row x x') 57 (0, 0)) := by
  rw [set_blk hb 9 x', (h x y).2]
theorem own_lo {w : World} {b : Nat} {e : TypeId} {sz : Nat} {v : Value} {n : Nat} {xs : List Value} (h : w.ownsRow b e sz v n xs) {g : Nat} (hg : v.ownBlock = some g) : b ≤ g ∧ g < w.heap.size := h.lt g hg
theorem NL.appx (hn : NL w wr o b D m1 m2 i nb ab zero row z1 z2 x y) (hr : ∀ x y, (row x y).size = 10 ∧ ∀ x', (row x y).setIfInBounds 8 x' = row x' y) (hb : b < D) (h1 : m1 < D ∧ m1 ≠ b) (h2 : m2 < D ∧ m2 ≠ b) (h3 : o < D ∧ o ≠ b) (hw : w.heap.size ≤ b)
    (ho : wA.ownsRow D 3 1 x' (z1 ++ [k]).length (zv (z1 ++ [k]))) (hk : Keep (fun k => x.ownBlock = some k) (wr.alloc ob) wA) (hnb : NewBlk (wr.alloc ob) x x') :
    NL w (wA.setCell ⟨b, 8, none⟩ x') o b D m1 m2 i nb ab zero row (z1 ++ [k]) z2 x' y := by
  have hxD : ∀ g, x.ownBlock = some g → D ≤ g := fun g e => (own_lo hn.ox e).1
  have kk : Keep (fun k => x.ownBlock = some k) wr wA := ((Keep.alloc _ wr ob)).more hk
  have ks := keep_cell wA b 8 x'
  have hsz := kk.size
  have hbA : wA.heap[b]? = some (.cells (row x y) 57 (0, 0)) := kk.blk hn.blk fun e => by have := hxD b e; omega
  refine ⟨setx_row hr hbA x', own_keep ho ks fun j e e2 => ?_, own_keep (own_keep hn.oy kk fun j e e2 => hn.ap j e e2) ks fun j e e2 => ?_, fun g e e2 => ?_, own_keep (own_keep hn.o1 kk fun j e e2 => ?_) ks fun j e e2 => ?_, own_keep (own_keep hn.o2 kk fun j e e2 => ?_) ks fun j e e2 => ?_, ks.blk (kk.blk hn.ob fun e => ?_) h3.2, ?_, ?_⟩
  · have e : j = b := e; subst e; have := (own_lo ho e2).1; omega
  · have e : j = b := e; subst e; have := (own_lo hn.oy e2).1; omega
  · rcases hnb with hnb | hnb
    · rw [hnb] at e; exact hn.ap g e e2
    · have h4 := hnb g e
      have h5 := (own_lo hn.oy e2).2
      have h6 : wr.heap.size ≤ (wr.alloc ob).heap.size := by simp
      omega
  · have := hxD j e; simp only [Value.ownBlock, Option.some.injEq] at e2; omega
  · have e : j = b := e; simp only [Value.ownBlock, Option.some.injEq] at e2; omega
  · have := hxD j e; simp only [Value.ownBlock, Option.some.injEq] at e2; omega
  · have e : j = b := e; simp only [Value.ownBlock, Option.some.injEq] at e2; omega
  · have := hxD o e; omega
  · have e1 := hn.bl.trans (kk.below hn.bl.size fun j e => by have := hxD j e; omega)
    exact e1.trans (ks.below e1.size fun j e => by have e : j = b := e; omega)
  · have := ks.size; have := hn.sz; omega
theorem NL.appy (hn : NL w wr o b D m1 m2 i nb ab zero row z1 z2 x y) (hr : ∀ x y, (row x y).size = 10 ∧ ∀ x', (row x y).setIfInBounds 9 x' = row x x') (hb : b < D) (h1 : m1 < D ∧ m1 ≠ b) (h2 : m2 < D ∧ m2 ≠ b) (h3 : o < D ∧ o ≠ b) (hw : w.heap.size ≤ b)
    (ho : wA.ownsRow D 3 1 x' (z2 ++ [k]).length (zv (z2 ++ [k]))) (hk : Keep (fun k => y.ownBlock = some k) (wr.alloc ob) wA) (hnb : NewBlk (wr.alloc ob) y x') :
    NL w (wA.setCell ⟨b, 9, none⟩ x') o b D m1 m2 i nb ab zero row z1 (z2 ++ [k]) x x' := by
  have hxD : ∀ g, y.ownBlock = some g → D ≤ g := fun g e => (own_lo hn.oy e).1
  have kk : Keep (fun k => y.ownBlock = some k) wr wA := ((Keep.alloc _ wr ob)).more hk
  have ks := keep_cell wA b 9 x'
  have hsz := kk.size
  have hbA : wA.heap[b]? = some (.cells (row x y) 57 (0, 0)) := kk.blk hn.blk fun e => by have := hxD b e; omega
  refine ⟨sety_row hr hbA x', own_keep (own_keep hn.ox kk fun j e e2 => hn.ap j e2 e) ks fun j e e2 => ?_, own_keep ho ks fun j e e2 => ?_, fun g e e2 => ?_, own_keep (own_keep hn.o1 kk fun j e e2 => ?_) ks fun j e e2 => ?_, own_keep (own_keep hn.o2 kk fun j e e2 => ?_) ks fun j e e2 => ?_, ks.blk (kk.blk hn.ob fun e => ?_) h3.2, ?_, ?_⟩
  · have e : j = b := e; subst e; have := (own_lo hn.ox e2).1; omega
  · have e : j = b := e; subst e; have := (own_lo ho e2).1; omega
  · rcases hnb with hnb | hnb
    · rw [hnb] at e2; exact hn.ap g e e2
    · have h4 := hnb g e2
      have h5 := (own_lo hn.ox e).2
      have h6 : wr.heap.size ≤ (wr.alloc ob).heap.size := by simp
      omega
  · have := hxD j e; simp only [Value.ownBlock, Option.some.injEq] at e2; omega
  · have e : j = b := e; simp only [Value.ownBlock, Option.some.injEq] at e2; omega
  · have := hxD j e; simp only [Value.ownBlock, Option.some.injEq] at e2; omega
  · have e : j = b := e; simp only [Value.ownBlock, Option.some.injEq] at e2; omega
  · have := hxD o e; omega
  · have e1 := hn.bl.trans (kk.below hn.bl.size fun j e => by have := hxD j e; omega)
    exact e1.trans (ks.below e1.size fun j e => by have e : j = b := e; omega)
  · have := ks.size; have := hn.sz; omega
theorem NL.mark1 (hn : NL w wr o b D m1 m2 i nb ab zero row z1 z2 x y) {k : Nat} (hk : k < i) (hl : nb.length = i) : wr.cell? ⟨m1, k, none⟩ = some (.bool (nb.getD k false)) := by
  rw [hn.o1.cellAt k (by omega), List.getElem?_map, List.getD_eq_getElem?_getD, List.getElem?_eq_getElem (by omega)]
  rfl
theorem NL.mark2 (hn : NL w wr o b D m1 m2 i nb ab zero row z1 z2 x y) {k : Nat} (hk : k < i) (hl : ab.length = i) : wr.cell? ⟨m2, k, none⟩ = some (.bool (ab.getD k false)) := by
  rw [hn.o2.cellAt k (by omega), List.getElem?_map, List.getD_eq_getElem?_getD, List.getElem?_eq_getElem (by omega)]
  rfl
end Cd
end Go.Proofs.YtbjcckfhfbjchaaGreat

/- A region that draws its order, whose last operation waits for all others: the others by a walk under S, which the last one need not keep. -/
namespace Go.Proofs.YtbjcckfhfbjchaaGreat
namespace RL


section
variable {P : Program} {md : Region.Mode} {ops ops2 : Array Oper} {n : Nat} {o o2 : Oper}

/-- What the two regions share. -/
structure Twin (md : Region.Mode) (ops ops2 : Array Oper) (n : Nat) (o o2 : Oper) : Prop where
  size : ops.size = n + 1
  size2 : ops2.size = n + 1
  same : ∀ i, i < n → ops2[i]? = ops[i]?
  last : ops[n]? = some o
  last2 : ops2[n]? = some o2
  after : o2.after = o.after
  g1 : o.guard = none
  g2 : o2.guard = none
  d2 : o2.dst = none
  gd : ∀ (i : Nat) (oi : Oper), ops[i]? = some oi → oi.guard = none
  all : ∀ i, i < n → ∃ (j : Nat) (oj : Oper) (e : _), i < j ∧ j ≤ n ∧ ops[j]? = some oj ∧ e ∈ oj.after ∧ Region.binds md e = true ∧ e.on = i
  low : ∀ i oi, ops[i]? = some oi → ∀ e ∈ oi.after, Region.binds md e = true → e.on < i
theorem Twin.at {i : Nat} (h : Twin md ops ops2 n o o2) (hi : i ≠ n) : ops2[i]? = ops[i]? := by
  rcases Nat.lt_or_ge i n with k | k
  · exact h.same i k
  · rw [Array.getElem?_eq_none (by rw [h.size2]; omega), Array.getElem?_eq_none (by rw [h.size]; omega)]
theorem Twin.ready (h : Twin md ops ops2 n o o2) (listed : Array Bool) : Region.ready md ops2 listed = Region.ready md ops listed := by
  unfold Region.ready
  rw [h.size, h.size2]
  congr 1
  funext i
  by_cases e : i = n
  · subst e; rw [h.last, h.last2]; simp [h.after]
  · rw [h.at e]
theorem first_free (listed : Array Bool) : ∀ k : Nat, (∀ i, i < k → listed.getD i true = true) ∨ ∃ m, m < k ∧ listed.getD m true = false ∧ ∀ i, i < m → listed.getD i true = true
  | 0 => .inl fun i hi => absurd hi (by omega)
  | k + 1 => by
    rcases first_free listed k with h | ⟨m, h1, h2, h3⟩
    · cases hk : listed.getD k true
      · exact .inr ⟨k, by omega, hk, h⟩
      · exact .inl fun i hi => if e : i = k then by rw [e]; exact hk else h i (by omega)
    · exact .inr ⟨m, by omega, h2, h3⟩
theorem getD_tf {l : Array Bool} {i : Nat} (hi : i < l.size) : l.getD i false = l.getD i true := by simp [Array.getD, hi]
/-- As long as the last is not done something may be done. -/
theorem Twin.some_ready (h : Twin md ops ops2 n o o2) (listed : Array Bool) (hs : listed.size = n + 1) (hn : listed.getD n true = false) : Region.ready md ops listed ≠ [] := by
  rcases first_free listed (n + 1) with k | ⟨m, h1, h2, h3⟩
  · rw [k n (by omega)] at hn; cases hn
  · obtain ⟨om, hom⟩ : ∃ om, ops[m]? = some om := ⟨_, Array.getElem?_eq_getElem (by rw [h.size]; exact h1)⟩
    have : m ∈ Region.ready md ops listed := by
      unfold Region.ready
      rw [List.mem_filter]
      refine ⟨by rw [h.size]; simpa using h1, ?_⟩
      rw [h2, hom]
      simp only [Bool.not_false, Bool.true_and, Option.map_some, Option.getD_some]
      rw [Array.all_eq_true_iff_forall_mem]
      intro e he
      cases hb : Region.binds md e
      · rfl
      · have hl := h.low m om hom e he hb
        rw [getD_tf (by omega), h3 e.on hl]; rfl
    intro e
    rw [e] at this
    cases this
/-- who is done has waited -/
def Closed (md : Region.Mode) (ops : Array Oper) (listed : Array Bool) : Prop := ∀ (i : Nat) (oi : Oper), ops[i]? = some oi → listed.getD i false = true → ∀ e ∈ oi.after, Region.binds md e = true → listed.getD e.on false = true
theorem set_getD (l : Array Bool) (n i : Nat) (hn : n < l.size) : (l.setIfInBounds n true).getD i false = if i = n then true else l.getD i false := by
  by_cases h : i = n
  · subst h; simp [Array.getD, hn]
  · rw [if_neg h]
    have hne : ¬ n = i := fun k => h k.symm
    simp only [Array.getD, Array.size_setIfInBounds]
    split
    · simp only [Array.getInternal_eq_getElem]
      rw [Array.getElem_setIfInBounds, if_neg hne]
    · rfl
theorem ready_after {md : Region.Mode} {ops : Array Oper} {listed : Array Bool} {i : Nat} {oi : Oper} (hi : i ∈ Region.ready md ops listed) (ho : ops[i]? = some oi) : ∀ e ∈ oi.after, Region.binds md e = true → listed.getD e.on false = true := by
  unfold Region.ready at hi
  rw [List.mem_filter] at hi
  obtain ⟨_, hi⟩ := hi
  rw [ho] at hi
  simp only [Option.map_some, Option.getD_some, Bool.and_eq_true] at hi
  intro e he hb
  have := Array.all_eq_true_iff_forall_mem.1 hi.2 e he
  rw [hb] at this
  simpa using this
theorem Closed.step {md : Region.Mode} {ops : Array Oper} {listed : Array Bool} (h : Closed md ops listed) {i : Nat} (hi : i ∈ Region.ready md ops listed) (hs : i < listed.size) : Closed md ops (listed.setIfInBounds i true) := by
  intro j oj hj hl e he hb
  rw [set_getD _ _ _ hs] at hl ⊢
  split
  · rfl
  · split at hl
    · rename_i hji
      subst hji
      exact ready_after hi hj e he hb
    · exact h j oj hj hl e he hb
/-- Where the last may be done all others are, and behind it nothing is left. -/
theorem Twin.none_left (h : Twin md ops ops2 n o o2) (listed : Array Bool) (hs : listed.size = n + 1) (hc : Closed md ops listed) (hn : n ∈ Region.ready md ops listed) : Region.ready md ops (listed.setIfInBounds n true) = [] := by
  have hall : ∀ k i, i + k = n → 0 < k → listed.getD i false = true := by
    intro k
    induction k using Nat.strongRecOn with
    | ind k ih =>
      intro i hik hk
      obtain ⟨j, oj, e, h1, h2, h3, h4, h5, h6⟩ := h.all i (by omega)
      rw [← h6]
      by_cases hjn : j = n
      · subst hjn; exact ready_after hn h3 e h4 h5
      · exact hc j oj h3 (ih (n - j) (by omega) j (by omega) (by omega)) e h4 h5
  unfold Region.ready
  rw [List.filter_eq_nil_iff]
  intro i hi
  have hi' : i < n + 1 := by rw [← h.size]; simpa using hi
  have hl2 : (listed.setIfInBounds n true).getD i true = true := by
    rw [← getD_tf (by simpa using (by omega : i < listed.size)), set_getD _ _ _ (by omega)]
    split
    · rfl
    · exact hall (n - i) i (by omega) (by omega)
  rw [hl2]
  simp


/-- what stands behind all but the last: the last one is run -/
def endQ (P : Program) (o : Oper) (Q : Exit → Act → World → Prop) : Exit → Act → World → Prop
  | .normal, a, w => o.wp P a w (fun a' w' => Q .normal a' w') Q
  | e, a, w => Q e a w
theorem wp_endQ {o oi : Oper} {a : Act} {w : World} {K K' : Act → World → Prop} {Q : Exit → Act → World → Prop} (h : ∀ a w, K a w → K' a w) (hh : oi.wp P a w K (endQ P o Q)) : oi.wp P a w K' Q := by
  unfold Oper.wp at *
  generalize (execOp a.eval oi).run P w = r at *
  cases r with
  | ok n w' =>
    cases n <;> simp only [Oper.upon] at hh ⊢ <;>
      first
        | exact h _ _ hh
        | exact Calls.mono hh (fun e w'' he => by cases e <;> first | exact h _ _ he | exact he)
        | exact Rows.mono hh (fun _ _ he => h _ _ he)
  | halt x w' => cases x <;> simp only [Oper.upon] at hh ⊢ <;> exact hh

theorem wpAny_last {Q : Exit → Act → World → Prop} (h : Twin md ops ops2 n o o2) (hs2 : ∀ a w, o2.asks P a w → False) (hst : ∀ a w K, o2.wp P a w K (endQ P o Q) → K a w) :
    ∀ (fuel : Nat) (listed : Array Bool) (a : Act) (w : World), listed.size = n + 1 → Closed md ops listed → listed.getD n true = false → wpAny P md ops2 (endQ P o Q) fuel listed a w → wpAny P md ops Q fuel listed a w
  | 0, listed, a, w, hs, _, hn, hh => by
    have := hh.1
    rw [h.ready] at this
    exact absurd this (h.some_ready listed hs hn)
  | fuel + 1, listed, a, w, hs, hcl, hn, hh => by
    refine ⟨fun k => absurd k (h.some_ready listed hs hn), fun i hi => ?_⟩
    have hq := hh.2 i (by rw [h.ready]; exact hi)
    by_cases e : i = n
    · subst e
      have hnl := h.none_left listed hs hcl hi
      have hK : wpAny P md ops2 (endQ P o Q) fuel (listed.setIfInBounds i true) a w := by
        unfold wpOp at hq
        rw [h.last2] at hq
        simp only [Region.wanted, h.g2, if_true] at hq
        rcases hq with hq | hq
        · exact hst _ _ _ hq
        · exact (hs2 _ _ hq.1).elim
      have hQ2 : endQ P o Q .normal a w := by
        cases fuel with
        | zero => exact hK.2
        | succ f => exact hK.1 (by rw [h.ready]; exact hnl)
      unfold wpOp
      rw [h.last]
      simp only [Region.wanted, h.g1, if_true]
      refine .inl (Oper.wp_mono (fun a' w' hq' => ?_) hQ2)
      cases fuel with
      | zero => exact ⟨hnl, hq'⟩
      | succ f => exact ⟨fun _ => hq', fun j hj => by rw [hnl] at hj; cases hj⟩
    · unfold wpOp at hq ⊢
      rw [h.at e] at hq
      have hnext : ∀ a w, wpAny P md ops2 (endQ P o Q) fuel (listed.setIfInBounds i true) a w → wpAny P md ops Q fuel (listed.setIfInBounds i true) a w := fun a' w' hK => by
        refine wpAny_last h hs2 hst fuel _ a' w' (by simpa using hs) (hcl.step hi (by
          unfold Region.ready at hi
          have := (List.mem_filter.1 hi).1
          rw [hs, ← h.size]; simpa using this)) ?_ hK
        have hne : ¬ i = n := e
        simp only [Array.getD, Array.size_setIfInBounds] at hn ⊢
        split
        · rename_i hlt
          rw [dif_pos hlt] at hn
          simp only [Array.getInternal_eq_getElem] at hn ⊢
          rw [Array.getElem_setIfInBounds, if_neg hne]
          exact hn
        · rename_i hlt
          rw [dif_neg hlt] at hn
          exact hn
      cases ho : ops[i]? with
      | none => rw [ho] at hq; exact hnext _ _ hq
      | some oi =>
        rw [ho] at hq
        simp only [Region.wanted, h.gd i oi ho, if_true] at hq ⊢
        rcases hq with hq | ⟨hq1, hq2⟩
        · exact .inl (wp_endQ hnext hq)
        · exact .inr ⟨hq1, hq2⟩
end

/-- Does the last wait for all, and each for such ahead of it alone? -/
def lastB (l : List Oper) : Bool :=
  match l.getLast? with
  | none => false
  | some _ => (l.all fun x => x.guard.isNone) && ((List.range (l.length - 1)).all fun i => (List.range l.length).any fun j => decide (i < j) && (match l[j]? with | none => false | some x => x.after.any fun e => Region.binds .any e && e.on == i)) &&
    ((List.range l.length).all fun i => match l[i]? with
      | none => true
      | some x => x.after.all fun e => !Region.binds .any e || decide (e.on < i))
/-- Something quiet in an operation's place. -/
def still (o : Oper) : Oper := ⟨none, .move (.const (.bool true)), 0, o.pos, o.after, none⟩
theorem twin_of {l : List Oper} {o : Oper} (hl : l.getLast? = some o) (hb : lastB l = true) : Twin .any l.toArray (l.dropLast ++ [still o]).toArray (l.length - 1) o (still o) := by
  unfold lastB at hb
  rw [hl] at hb
  simp only [Bool.and_eq_true] at hb
  obtain ⟨⟨h2, h3⟩, h4⟩ := hb
  have h1 : ∀ x ∈ l, x.guard = none := fun x hx => by simpa using List.all_eq_true.1 h2 x hx
  obtain ⟨init, rfl⟩ : ∃ init, l = init ++ [o] := List.getLast?_eq_some_iff.1 hl
  have e : (init ++ [o]).length - 1 = init.length := by simp
  rw [e] at h3 ⊢
  refine ⟨by simp, by simp, fun i hi => ?_, by simp, by simp, rfl, h1 o (by simp), rfl, rfl, fun i oi hoi => h1 oi (by simpa using Array.mem_of_getElem? hoi), fun i hi => ?_, fun i oi hoi ed hed hbd => ?_⟩
  · simp [List.getElem?_append, hi]
  · have := List.all_eq_true.1 h3 i (by simpa using hi)
    obtain ⟨j, hj, hx⟩ := List.any_eq_true.1 this
    simp only [Bool.and_eq_true, decide_eq_true_eq] at hx
    obtain ⟨hij, hx⟩ := hx
    cases ho : (init ++ [o])[j]? with
    | none => rw [ho] at hx; cases hx
    | some x =>
      rw [ho] at hx
      obtain ⟨ed, hm, hx⟩ := Array.any_eq_true'.1 hx
      simp only [Bool.and_eq_true, beq_iff_eq] at hx
      have hjl : j < (init ++ [o]).length := by simpa using hj
      exact ⟨j, x, ed, hij, by simp at hjl; omega, by simpa using ho, hm, hx.1, hx.2⟩
  · have hi : i < (init ++ [o]).length := by
      rcases Nat.lt_or_ge i (init ++ [o]).length with k | k
      · exact k
      · rw [Array.getElem?_eq_none (by simpa using k)] at hoi; cases hoi
    have := List.all_eq_true.1 h4 i (by simpa using hi)
    rw [show (init ++ [o])[i]? = some oi by simpa using hoi] at this
    have := Array.all_eq_true_iff_forall_mem.1 this ed hed
    rw [hbd] at this
    simpa using this

/-- what was shown of a region's orders holds in a round, too -/

theorem still_wp {P : Program} {o : Oper} {a : Act} {w : World} {K : Act → World → Prop} {Q : Exit → Act → World → Prop} (h : (still o).wp P a w K Q) : K a w := h
/-- A region written out: all but the last under S; behind them the last one. -/
theorem wp_region_held_last {P : Program} {id : Nat} {Q : Exit → Act → World → Prop} {S : World → Prop} {a : Act} {w : World} {l : List Oper} {o : Oper} (hl : l.getLast? = some o) (hm : P.follows .mixedOrders = true) (hb : lastB l = true) (hS : S w.drew)
    (h : S w.drew → wpAnyH P .any (l.dropLast ++ [still o]).toArray (endQ P o Q) S (l.dropLast ++ [still o]).toArray.size (Array.replicate (l.dropLast ++ [still o]).toArray.size false) a w.drew) : (Code.region id l.toArray true).wp P Q a w := by
  have t := twin_of hl hb
  refine wp_region_any hm ?_
  have e1 : (l.dropLast ++ [still o]).toArray.size = l.toArray.size := t.size2.trans t.size.symm
  have := wpAny_of_held _ _ _ _ (h hS)
  rw [e1] at this
  refine wpAny_last t (fun a w hk => ?_) (fun a w K hk => still_wp hk) _ _ _ _ (by simp [t.size]) (fun i oi _ hl => absurd hl (by simp [Array.getD])) ?_ this
  · have h0 : noRoomEvent ∈ (#[] : Array Event) := hk.1
    simp at h0
  · have : l.length - 1 < l.toArray.size := by rw [t.size]; omega
    simp [Array.getD] <;> simpa using this
end RL
end Go.Proofs.YtbjcckfhfbjchaaGreat
