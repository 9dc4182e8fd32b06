import Derived.Test.YtfoahfgehmghcaaGreatDoorUMod
import Derived.Deep.WholeRow
/- The mathematics of orders. -/
namespace Go.Proofs.YtfoahfgehmghcaaGreatDoor
namespace Gr
open Go.RowKit

theorem nodup_le {α : Type} [DecidableEq α] : ∀ {l m : List α}, l.Nodup → (∀ x ∈ l, x ∈ m) → l.length ≤ m.length := by
  intro l
  induction l with
  | nil => intro m _ _; simp
  | cons a l ih =>
    intro m hn hs
    obtain ⟨h1, h2⟩ := List.nodup_cons.1 hn
    have ha := hs a (List.mem_cons_self ..)
    have := ih (m := m.erase a) h2 fun x hx => (List.mem_erase_of_ne (fun e => h1 (by rw [← e]; exact hx))).2 (hs x (List.mem_cons_of_mem _ hx))
    rw [List.length_erase_of_mem ha] at this
    have : 0 < m.length := List.length_pos_of_mem ha
    simp; omega
theorem full {n : Nat} {l : List Nat} (hn : l.Nodup) (hl : l.length = n) (hb : ∀ x ∈ l, x < n) {i : Nat} (hi : i < n) : i ∈ l := by
  refine Classical.byContradiction fun h => ?_
  have := nodup_le (l := i :: l) (m := List.range n) (List.nodup_cons.2 ⟨h, hn⟩) (fun x hx => by
    rcases List.mem_cons.1 hx with rfl | hx
    · exact List.mem_range.2 hi
    · exact List.mem_range.2 (hb x hx))
  simp at this; omega
theorem missing {n : Nat} {l : List Nat} (hl : l.length < n) : ∃ i, i < n ∧ i ∉ l := by
  refine Classical.byContradiction fun h => ?_
  have := nodup_le (l := List.range n) (m := l) List.nodup_range (fun x hx => Classical.byContradiction fun hc => h ⟨x, List.mem_range.1 hx, hc⟩)
  simp at this; omega
/-- a node that can be told next -/
def Free (E : Nat → List Nat) (l : List Nat) (i : Nat) : Prop := i ∉ l ∧ ∀ e ∈ E i, e ∈ l
open Classical in
noncomputable def deep (E : Nat → List Nat) (n u : Nat) : Nat := ((List.range n).filter fun x => decide (Waits E u x)).length
theorem deep_lt {E : Nat → List Nat} {n u v : Nat} (hv : v ∈ E u) (hn : v < n) (hc : ¬ Waits E v v) : deep E n v < deep E n u := by
  classical
  refine filter_lt _ _ _ (fun x _ hx => ?_) (a := v) (List.mem_range.2 hn) (by simpa using hc) (by simpa using Waits.edge hv)
  simp only [decide_eq_true_eq] at hx ⊢
  exact Waits.step hv hx
theorem free_ex {E : Nat → List Nat} {n : Nat} {l : List Nat} (hE : ∀ a e, e ∈ E a → e < n) (hc : ∀ x, ¬ Waits E x x) (hl : l.length < n) : ∃ i, i < n ∧ Free E l i := by
  obtain ⟨u, h1, h2⟩ := missing hl
  obtain ⟨d, _, ⟨v, h3, h4, h5⟩, h6⟩ := least (P := fun d => ∃ u, u < n ∧ u ∉ l ∧ deep E n u = d) ⟨u, h1, h2, rfl⟩
  refine ⟨v, h3, h4, fun e he => Classical.byContradiction fun hn => ?_⟩
  have := deep_lt he (hE _ _ he) (hc e)
  have := h6 _ ⟨e, hE _ _ he, hn, rfl⟩
  omega
/-- an order as the document has it -/
def Ord (E : Nat → List Nat) (n : Nat) (l : List Nat) : Prop := l.length ≤ n ∧ ∀ k x, l[k]? = some x → x < n ∧ Free E (l.take k) x ∧ ∀ j, j < x → ¬ Free E (l.take k) j
theorem Ord.nil (E : Nat → List Nat) (n : Nat) : Ord E n [] := ⟨Nat.zero_le _, fun k x h => by simp at h⟩
theorem Ord.snoc {E : Nat → List Nat} {n : Nat} {l : List Nat} (h : Ord E n l) (hl : l.length < n) {x : Nat} (hx : x < n) (hf : Free E l x) (hm : ∀ j, j < x → ¬ Free E l j) : Ord E n (l ++ [x]) := by
  refine ⟨by simp; omega, fun k y hy => ?_⟩
  by_cases hk : k < l.length
  · rw [List.getElem?_append_left hk] at hy
    have := h.2 k y hy
    rw [List.take_append_of_le_length (by omega)]
    exact this
  · have hk' : k = l.length := by
      have := (List.getElem?_eq_some_iff.1 hy).1
      simp at this; omega
    subst hk'
    obtain rfl : x = y := by simpa using hy
    rw [List.take_left']
    · exact ⟨hx, hf, hm⟩
    · rfl
theorem Ord.nodup {E : Nat → List Nat} {n : Nat} {l : List Nat} (h : Ord E n l) : l.Nodup := by
  unfold List.Nodup
  rw [List.pairwise_iff_getElem]
  intro i j hi hj hij e
  have hx : l[j]? = some (l[j]'hj) := List.getElem?_eq_getElem hj
  refine (h.2 j _ hx).2.1.1 ?_
  have : (l.take j)[i]? = some (l[j]'hj) := by rw [List.getElem?_take_of_lt hij, List.getElem?_eq_getElem hi, e]
  exact List.mem_of_getElem? this
theorem Ord.lt {E : Nat → List Nat} {n : Nat} {l : List Nat} (h : Ord E n l) : ∀ x ∈ l, x < n := fun x hx => by
  obtain ⟨k, hk⟩ := List.getElem?_of_mem hx
  exact (h.2 k x hk).1
theorem Ord.uniq {E : Nat → List Nat} {n : Nat} : ∀ {l m : List Nat}, Ord E n l → Ord E n m → l.length = m.length → l = m := by
  intro l m h g hl
  have key : ∀ k, l.take k = m.take k := by
    intro k
    induction k with
    | zero => simp
    | succ k ih =>
      rcases Nat.lt_or_ge k l.length with hk | hk
      · have hx : l[k]? = some (l[k]'hk) := List.getElem?_eq_getElem hk
        have hy : m[k]? = some (m[k]'(by omega)) := List.getElem?_eq_getElem _
        obtain ⟨_, a2, a3⟩ := h.2 k _ hx
        obtain ⟨_, b2, b3⟩ := g.2 k _ hy
        rw [ih] at a2 a3
        have : l[k]'hk = m[k]'(by omega) := by
          rcases Nat.lt_trichotomy (l[k]'hk) (m[k]'(by omega)) with c | c | c
          · exact absurd a2 (b3 _ c)
          · exact c
          · exact absurd b2 (a3 _ c)
        rw [take_snoc _ _ _ hx, take_snoc _ _ _ hy, ih, this]
      · rw [List.take_of_length_le (by omega), List.take_of_length_le (by omega)] at ih ⊢
        exact ih
  have := key l.length
  rw [List.take_length, hl, List.take_length] at this
  exact this
theorem eg_lt {xs : List No} (hv : Val xs) : ∀ a e, e ∈ eg xs a → e < xs.length := by
  intro a e he
  unfold eg at he
  split at he
  · rename_i x hx
    obtain ⟨z, hz, rfl⟩ := List.mem_map.1 he
    have := hv.2 x (List.mem_of_getElem? hx) z hz
    omega
  · cases he
theorem cyc_none {xs : List No} (h : cyc xs = 0) : ∀ x, ¬ Waits (eg xs) x x := by
  have hE : ∃ c, IsCyc (eg xs) c := by
    by_cases hc : ∃ x, Waits (eg xs) x x
    · obtain ⟨x, hx⟩ := hc
      obtain ⟨m, h1, h2, h3⟩ := cycle_least hx
      exact ⟨m + 1, .inr ⟨m, rfl, h2.waits, h3⟩⟩
    · exact ⟨0, .inl ⟨rfl, fun x hx => hc ⟨x, hx⟩⟩⟩
  obtain ⟨c, hc⟩ := hE
  have := cyc_eq hc
  rw [h] at this
  subst this
  rcases hc with ⟨_, h⟩ | ⟨m, h, _⟩
  · exact h
  · cases h

/-- those of a list, marked -/
def tk (l : List Nat) : Nat → Bool := fun i => l.contains i
theorem tk_iff {l : List Nat} {i : Nat} : tk l i = true ↔ i ∈ l := by unfold tk; simp
theorem tk_mark (l : List Nat) (k : Nat) : mark (tk l) k = tk (l ++ [k]) := by
  funext i
  unfold mark tk
  split
  · simp_all
  · simp_all
end Gr
end Go.Proofs.YtfoahfgehmghcaaGreatDoor

/- Rows of numbers of the call's own. -/
namespace Go.Proofs.YtfoahfgehmghcaaGreatDoor
namespace Gr
open Go.RowKit

theorem info_int : (Tryz.prog.info? 3).map (fun i => (i.zero, i.size, i.bytes)) = some (some (.int .i64 0), 1, 8) := by kernel_rfl
theorem size_arr : (Tryz.prog.info? 111).map (·.size) = some 64 := by kernel_rfl
def iv (l : List Nat) : List Value := l.map fun x : Nat => Value.int .i64 (x : Int)
theorem iv_snoc (l : List Nat) (x : Nat) : iv (l ++ [x]) = iv l ++ [.int .i64 (x : Int)] := by simp [iv]
theorem iv_len (l : List Nat) : (iv l).length = l.length := by simp [iv]

theorem ownsRow_keep {w w' : World} {b : Nat} {e : TypeId} {size : Nat} {v : Value} {n : Nat} {xs : List Value} (h : w.ownsRow b e size v n xs) {S : Nat → Prop} (k : Keep S w w') (hS : ∀ i, S i → v.ownBlock ≠ some i) : w'.ownsRow b e size v n xs := by
  refine ⟨h.1, ?_⟩
  rcases h.2 with h' | ⟨g, cap, cur, h1, h2, h3, h4⟩
  · exact .inl h'
  · subst h1
    exact .inr ⟨g, cap, cur, rfl, h2, k.blk h3 (fun hs => hS g hs rfl), h4⟩
theorem ownsRow_new {w w' : World} {b : Nat} {e : TypeId} {size : Nat} {v : Value} {n : Nat} {xs : List Value} (h : w.ownsRow b e size v n xs) (k : Keep (fun _ => False) w w') : w'.ownsRow b e size v n xs := ownsRow_keep h k fun _ f => f.elim
/-- the block of a row lies from its base on -/
theorem ownsRow_from {w : World} {b : Nat} {e : TypeId} {size : Nat} {v : Value} {n : Nat} {xs : List Value} (h : w.ownsRow b e size v n xs) {k : Nat} (hk : v.ownBlock = some k) : b ≤ k := (h.lt k hk).1
/-- a row of the call's own, as numbers that can be read -/
theorem ownsRow_rd {w : World} {b : Nat} {v : Value} {l : List Nat} (h : w.ownsRow b 3 1 v l.length (iv l)) (hl : l.length ≤ 17592186044416) : ∃ a c, v = .slice a l.length c ∧ RdZ w.heap.size w (a, l.length, c) (l.map fun x : Nat => (x : Int)) := by
  rcases h.2 with ⟨e1, e2⟩ | ⟨g, cap, cur, e1, e2, e3, e4, e5, e6, e7⟩
  · exact ⟨none, 0, by rw [e1, e2], by simp, hl, .inl e2⟩
  · refine ⟨_, cap, e1, by simp, hl, ?_⟩
    rcases Nat.eq_zero_or_pos l.length with h0 | h0
    · exact .inl h0
    · refine .inr ⟨g, 0, rfl, (Array.getElem?_eq_some_iff.1 e3).1, fun j x hj => ?_⟩
      rw [Nat.zero_add]
      refine cell_blk e3 j ?_
      have h2 : (iv l)[j]? = some (.int .i64 x) := by
        rw [List.getElem?_map] at hj
        unfold iv
        rw [List.getElem?_map]
        obtain ⟨y, hy, rfl⟩ := Option.map_eq_some_iff.1 hj
        rw [hy]; rfl
      rw [← e7, List.getElem?_take] at h2
      split at h2
      · simpa using h2
      · cases h2
theorem cell_one (w : World) (v : Value) (t : TypeId) : (w.alloc (.cells #[v] t)).cell? ⟨w.heap.size, 0, none⟩ = some v := by rw [World.cell?_alloc_mark]; rfl
/-- a number more behind a row of the call's own -/
theorem wp_append1 {w : World} {ops : Array Oper} {rest : List Oper} {o : Oper} {a : Act} {Q : Exit → Act → World → Prop} (hgd : o.guard = none) (s x : Operand)
    (ho : o.op = .call { callee := .builtin .append, args := #[s, x], argTypes := #[30, 30] })
    (base : Nat) (v : Value) (n : Nat) (xs : List Value) (hs : a.eval s = v) (hown : w.ownsRow base 3 1 v n xs) (ad : Addr) (y : Int) (hx : a.eval x = .slice (some ad) 1 1) (hc : w.cell? ad = some (.int .i64 y)) (hn : n + 1 ≤ 17592186044416) (hbase : base ≤ w.heap.size)
    (h : ∀ v' w', w'.ownsRow base 3 1 v' (n + 1) (xs ++ [.int .i64 y]) → Keep (fun k => v.ownBlock = some k) w w' → NewBlk w v v' → wpList Tryz.prog ops Q rest (a.put o.dst v') w') : wpList Tryz.prog ops Q (o :: rest) a w := by
  obtain ⟨i0, hi, hz0, hz1, hz2⟩ := info_parts info_int
  refine wpList_append_own2 hgd s x 30 ho base 3 i0 (.int .i64 0) 1 8 Tryz.underlying30 hi hz0 hz1 hz2 rfl (by decide) v n xs hs hown ad 1 1 [.int .i64 y] hx rfl (fun j u hu => ?_) (fun u hu => by rw [List.mem_singleton.1 hu]; rfl) (by unfold maxLen; omega) (by omega) hbase ?_
  · cases j with
    | zero =>
      have : u = .int .i64 y := by simpa using hu.symm
      subst this
      simpa [Addr.add] using hc
    | succ j => simp at hu
  · intro v' w' h1 h2 h3
    exact h v' w' h1 (Keep.grown h2 fun k e => e) h3
/-- an array of 64 bools, loaded whole -/
theorem load64 {ops : Array Oper} {rest : List Oper} {a : Act} {w : World} {Q : Exit → Act → World → Prop} {o : Oper} (hgd : o.guard = none) (x : Operand) (ho : o.op = .load 111 x) (g : Nat) (f : Nat → Bool)
    (hx : a.eval x = .pointer (some ⟨g, 0, none⟩)) (hg : w.heap[g]? = some (.cells (row64 f) 111 (0, 0))) (h : wpList Tryz.prog ops Q rest (a.put o.dst (.agg (row64 f))) w) :
    wpList Tryz.prog ops Q (o :: rest) a w :=
  wpList_load_row hgd 111 x ho g hx 111 (row64 f) (0, 0) _ hg Tryz.underlying111 rfl (by rw [row64_size]; exact size_arr) h
end Gr
end Go.Proofs.YtfoahfgehmghcaaGreatDoor

/- The laws' small. -/
namespace Go.Proofs.YtfoahfgehmghcaaGreatDoor
namespace Gr
open Go.RowKit
set_option maxHeartbeats 2000000 in
theorem small_any (nm : ByteArray) (dl : Int) (s : Option Addr × Nat × Nat) (xs : List No) (B : Nat) (w : World) (hP : RdP B w s xs) :
    Calls Tryz.prog 5 #[.agg #[.string nm, .int .i64 dl, .slice s.1 s.2.1 s.2.2]] w fun e w' => (∃ b : Bool, e = .returned (.bool b) ∧ (b = true → xs.length + edges xs ≤ 20000)) ∧ Keep (fun _ => False) w w' := by
  obtain ⟨a, n, c⟩ := s
  have hn2 : n ≤ 1172812402926 := hP.2.1
  have HN : Hid (n = xs.length) := hP.1
  have K0 := hide (Keep.alloc (fun _ => False) w (.cells #[.string nm, .int .i64 dl, .slice a n c] 24))
  have cell2 : (w.alloc (.cells #[.string nm, .int .i64 dl, .slice a n c] 24)).cell? ⟨w.heap.size, 2, none⟩ = some (.slice a n c) := by rw [World.cell?_alloc_mark]; rfl
  have C2 := hide cell2
  have HP := hide (hP.new K0.out)
  clear hP cell2
  go_enter Tryz.func5, Tryz.ntmps5
  go_wp2_with fail
  generalize w.alloc (.cells #[.string nm, .int .i64 dl, .slice a n c] 24) = w0 at *
  go_loopw [3, 4] (fun mv iv wr => ∃ (i m : Nat), mv = .int .i64 (m : Int) ∧ iv = .int .i64 (i : Nat) ∧ i ≤ n ∧ m ≤ 40000000000000 ∧ wr.cell? ⟨w.heap.size, 2, none⟩ = some (.slice a n c) ∧ Hid (m = n + edges (xs.take i) ∧ Keep (fun _ => False) w0 wr)) (fun _ iv _ => n - (intOf iv).toNat)
  case atStart => exact ⟨0, n, rfl, rfl, Nat.zero_le _, by omega, C2.out, rfl, Keep.refl _ _⟩
  case round =>
    obtain ⟨i, m, rfl, rfl, hi, hm, hcc, HD⟩ := hrel
    by_cases hlt : i < n
    · by_cases hm2 : (m : Int) ≤ 20000
      · obtain ⟨g, off, x, ha, hg, hx, hN, hz1, hz2⟩ := (HP.out.new HD.out.2).at hlt
        have ha : a = some ⟨g, off, none⟩ := ha
        subst ha
        have HX := hide hx
        have L1 : Hid (x.q.ne.2.1 = x.nl.length) := hz1.1
        have L2 : Hid (x.q.af.2.1 = x.al.length) := hz2.1
        have l1 : x.q.ne.2.1 ≤ 17592186044416 := hz1.2.1
        have l2 : x.q.af.2.1 ≤ 17592186044416 := hz2.2.1
        obtain ⟨⟨nm', la, bu, cl, be, ba, ca, ji, ⟨ne1, ne2, ne3⟩, ⟨af1, af2, af3⟩⟩, nl, al⟩ := x
        obtain ⟨n0, n1, n2, n3, n4, n5, n6, n7, n8, n9⟩ := hN.all
        clear hx hN hz1 hz2 n0 n1 n2 n3 n4 n5 n6 n7
        simp only at *
        go_wp2_with fail
        go_region
        go_wp2
        go_roundw
        · refine ⟨i + 1, m + ne2 + af2, by go_num, rfl, by omega, by omega, hcc, ?_, HD.out.2.more (Keep.drew _ _)⟩
          rw [take_snoc _ _ _ HX.out, HD.out.1, L1.out, L2.out]
          simp [edges]
          omega
        · show n - ((i : Int) + 1).toNat < n - (i : Int).toNat
          omega
      · go_wp2_with fail
        go_ret
        exact ⟨.inl rfl, K0.out.more HD.out.2⟩
    · obtain rfl : i = n := by omega
      go_wp2_with fail
      go_ret
      refine ⟨⟨_, rfl, fun h => ?_⟩, K0.out.more HD.out.2⟩
      have h2 := HD.out.1
      rw [List.take_of_length_le (by have := HN.out; omega)] at h2
      simp at h
      have := HN.out
      omega
end Gr
end Go.Proofs.YtfoahfgehmghcaaGreatDoor
