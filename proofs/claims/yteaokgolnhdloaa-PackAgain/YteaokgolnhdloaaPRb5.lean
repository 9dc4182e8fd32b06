/- PackReaderOwns: what the document takes, one blob behind the other; Lists of blobs. -/
import Derived.Test.YteaokgolnhdloaaPRb4
namespace Go.Proofs.Yteaokgolnhdloaa
namespace Wm
open Go.RowKit Go.Deep

def wvB (mo : Int) (s : K.RS) (k : Nat) : List (List Nat) := (List.range k).map fun i => okR (rowR mo) (allR (rowR mo) i s) (rowV mo (allR (rowR mo) i s)) []
theorem wvB_len (mo : Int) (s : K.RS) (k : Nat) : (wvB mo s k).length = k := by unfold wvB; rw [List.length_map, List.length_range]
theorem wvB_succ (mo : Int) (s : K.RS) (k : Nat) : wvB mo s (k + 1) = wvB mo s k ++ [okR (rowR mo) (allR (rowR mo) k s) (rowV mo (allR (rowR mo) k s)) []] := by unfold wvB; rw [List.range_succ, List.map_append]; rfl
theorem all_back {g : K.RS → K.RS} {s : K.RS} {k : Nat} (h : (allR g k s).fault = 0) : ∀ i, i ≤ k → (allR g i s).fault = 0 := fun i hi => by
  rcases Nat.eq_zero_or_pos ((allR g i s).fault) with h0 | h0
  · exact h0
  · rw [allR_stick g s i (by omega) k hi] at h; omega
/-- what is told where no fault came -/
theorem wvB_bls {mo : Int} {s : K.RS} {k : Nat} {w : World} {q : Nat} (h : (allR (rowR mo) k s).fault = 0) (hq : Qr w q s) : wvB mo s k = blsB mo s k := by
  unfold wvB blsB
  refine List.map_congr_left fun i hi => ?_
  have hik : i < k := List.mem_range.1 hi
  have h1 := all_back h (i + 1) hik
  have h0 := all_back h i (by omega)
  refine okR_yes ?_ _ _
  have hkp : (allR (rowR mo) i s).data = s.data := kp_all (fun s => by
    unfold rowR
    split
    · rfl
    · exact kp_fail _ _) i s
  have hb : Byt (allR (rowR mo) i s) := by unfold Byt; rw [hkp]; exact Qr.bytes hq
  have e : takeR (rowR mo) (allR (rowR mo) i s) = rowR mo (allR (rowR mo) i s) := if_pos h0
  rw [e]
  have h2 : (thingR (rowR mo) (allR (rowR mo) i s)).fault = 0 := h1
  unfold thingR at h2
  rw [if_pos h0] at h2
  split at h2
  · exact absurd h2 (rfail_neB _)
  · exact h2
/-- the document's list: slices that can be read, none of them in the list's own block -/
structure Wl (B : Nat) (w : World) (y : Value) (Ls : List (List Nat)) : Prop where
  ex : ∃ vs : List Value, w.ownsRow B 22 1 y Ls.length vs ∧ ∀ (i : Nat) l, Ls[i]? = some l → ∃ a' c', vs[i]? = some (.slice a' l.length c') ∧ Rd w a' l.length l ∧ (l.length ≠ 0 → ∀ b off, a' = some ⟨b, off, none⟩ → b < w.heap.size ∧ y.ownBlock ≠ some b)
theorem Wl.nil (B : Nat) (w : World) : Wl B w (.slice none 0 0) [] := ⟨[], World.ownsRow_nil _ _ _ _, fun i l h => by simp at h⟩
theorem Wl.rd {B : Nat} {w : World} {y : Value} {Ls : List (List Nat)} (h : Wl B w y Ls) (hn : Ls.length ≤ 16777216) : ∃ a c, y = .slice a Ls.length c ∧ RdL w a Ls.length Ls := by
  obtain ⟨vs, h1, h2⟩ := h.ex
  rcases h1.2 with ⟨rfl, h0⟩ | ⟨g, cap, cur, rfl, e2, e3, e4, e5, e6, e7⟩
  · exact ⟨none, 0, by rw [h0], rfl, by omega, .inl h0⟩
  · refine ⟨_, _, rfl, rfl, by omega, .inr ⟨g, 0, rfl, fun i l hil => ?_⟩⟩
    have hil' : i < Ls.length := (List.getElem?_eq_some_iff.1 hil).1
    obtain ⟨a', c', hu, hr, _⟩ := h2 i l hil
    refine ⟨a', c', ?_, hr⟩
    have : (List.take (Ls.length * 1) cur.toList)[i]? = some (.slice a' l.length c') := by rw [e7]; exact hu
    rw [List.getElem?_take] at this
    split at this
    · rw [Nat.zero_add, cell_of_row _ _ _ _ _ _ e3]; simpa using this
    · cases this
/-- where what is written is none of its blocks -/
theorem Wl.stay {B : Nat} {w w' : World} {y : Value} {Ls : List (List Nat)} (h : Wl B w y Ls) {S : Nat → Prop} (k : Keep S w w') (hy : ∀ i, y.ownBlock = some i → ¬ S i) (hS : ∀ (a : Option Addr) (l : List Nat), Rd w a l.length l → (l.length ≠ 0 → ∀ b off, a = some ⟨b, off, none⟩ → b < w.heap.size) → Rd w' a l.length l) : Wl B w' y Ls := by
  obtain ⟨vs, h1, h2⟩ := h.ex
  refine ⟨vs, ownsRow_keepQ h1 k hy, fun i l hl => ?_⟩
  obtain ⟨a', c', hu, hr, hb⟩ := h2 i l hl
  exact ⟨a', c', hu, hS a' l hr fun h0 b off e => (hb h0 b off e).1, fun h0 b off e => ⟨Nat.lt_of_lt_of_le (hb h0 b off e).1 k.size, (hb h0 b off e).2⟩⟩
theorem Wl.new {B : Nat} {w w' : World} {y : Value} {Ls : List (List Nat)} (h : Wl B w y Ls) (b : Below w.heap.size w w') : Wl B w' y Ls :=
  h.stay (Keep.ofBelow (S := fun _ => False) b (Nat.le_refl _)) (fun _ _ f => f) fun _ _ hr _ => hr.keep b
/-- where only blocks made since are written -/
theorem Wl.far {B : Nat} {w w' : World} {y : Value} {Ls : List (List Nat)} (h : Wl B w y Ls) {S : Nat → Prop} (k : Keep S w w') (hS : ∀ i, S i → w.heap.size ≤ i) : Wl B w' y Ls := by
  obtain ⟨vs, h1, _⟩ := h.ex
  exact h.stay k (fun i e f => by have := (h1.lt i e).2; have := hS i f; omega) fun a l hr hb => hr.stayN k fun h0 b off e f => by have := hb h0 b off e; have := hS b f; omega
/-- past the document's reader -/
theorem Rd.pastQ {w w' : World} {a : Option Addr} {n q : Nat} {l : List Nat} {s : K.RS} (h : Rd w a n l) (hr : Qr w q s) (hk : Keep (fun k => k = q) w w') : Rd w' a n l := by
  obtain ⟨h1, h2, h3, h4⟩ := h
  refine ⟨h1, h2, h3, ?_⟩
  rcases h4 with h4 | ⟨b, off, rfl, h4⟩
  · exact .inl h4
  · refine .inr ⟨b, off, rfl, fun i hi => hk.cell (h4 i hi) ?_⟩
    rintro e
    have e' : b = q := e
    subst e'
    obtain ⟨a0, c0, hb, _⟩ := hr.ex
    have hc := h4 i hi
    rw [cell_of_row _ _ _ _ _ _ hb] at hc
    match off + i, hc with
    | 0, hc => simp at hc
    | 1, hc => simp at hc
    | 2, hc => simp at hc
    | j + 3, hc => simp at hc
theorem Wl.pastQ {B : Nat} {w w' : World} {y : Value} {Ls : List (List Nat)} {q : Nat} {s : K.RS} (h : Wl B w y Ls) (hr : Qr w q s) (hk : Keep (fun k => k = q) w w') : Wl B w' y Ls := by
  obtain ⟨vs, h1, _⟩ := h.ex
  refine h.stay hk (fun i e f => ?_) fun a l hrd _ => Rd.pastQ hrd hr hk
  obtain ⟨_, _, hb, _⟩ := hr.ex
  have f' : i = q := f
  subst f'
  rcases h1.2 with ⟨e1, _⟩ | ⟨g, cap, cur, e1, _, e3, _⟩
  · rw [e1] at e; cases e
  · rw [e1] at e
    cases e
    exact neTB e3 hb (by decide) rfl
/-- a blob more -/
theorem Wl.push {B : Nat} {w w3 : World} {y y' : Value} {Ls : List (List Nat)} {a : Option Addr} {l : List Nat} {c W : Nat} {vs : List Value} (h1 : w.ownsRow B 22 1 y Ls.length vs) (h2 : ∀ (i : Nat) l, Ls[i]? = some l → ∃ a' c', vs[i]? = some (.slice a' l.length c') ∧ Rd w a' l.length l ∧ (l.length ≠ 0 → ∀ b off, a' = some ⟨b, off, none⟩ → b < w.heap.size ∧ y.ownBlock ≠ some b)) (hr : Rd w a l.length l) (hW : l.length ≠ 0 → ∀ b off, a = some ⟨b, off, none⟩ → W ≤ b ∧ b < w.heap.size) (hy : ∀ i, y.ownBlock = some i → i < W)
    (ho : w3.ownsRow B 22 1 y' (Ls.length + 1) (vs ++ [.slice a l.length c])) (hk : Keep (fun i => y.ownBlock = some i) w w3) (hn : y'.ownBlock = y.ownBlock ∨ ∀ k, y'.ownBlock = some k → w.heap.size ≤ k) : Wl B w3 y' (Ls ++ [l]) := by
  have ny : ∀ b, b < w.heap.size → y.ownBlock ≠ some b → y'.ownBlock ≠ some b := fun b hb hne e => by
    rcases hn with hn | hn
    · rw [hn] at e; exact hne e
    · have := hn b e; omega
  refine ⟨vs ++ [.slice a l.length c], by rw [List.length_append]; exact ho, fun i x hx => ?_⟩
  have hvl : vs.length = Ls.length := by have := h1.1; omega
  rcases Nat.lt_or_ge i Ls.length with hi | hi
  · rw [List.getElem?_append_left hi] at hx
    obtain ⟨a', c', hu, hrd, hb⟩ := h2 i x hx
    exact ⟨a', c', by rw [List.getElem?_append_left (by omega)]; exact hu, hrd.stayN hk fun h0 b off e f => (hb h0 b off e).2 f, fun h0 b off e => ⟨Nat.lt_of_lt_of_le (hb h0 b off e).1 hk.size, ny b (hb h0 b off e).1 (hb h0 b off e).2⟩⟩
  · rw [List.getElem?_append_right hi] at hx
    have h3 := (List.getElem?_eq_some_iff.1 hx).1
    simp at h3
    have h4 : i = Ls.length := by omega
    subst h4
    simp at hx
    subst hx
    have hne : l.length ≠ 0 → ∀ b off, a = some ⟨b, off, none⟩ → y.ownBlock ≠ some b := fun h0 b off e f => by have h5 := (hW h0 b off e).1; have h6 := hy b f; omega
    exact ⟨a, c, by rw [List.getElem?_append_right (by omega), hvl]; simp, hr.stayN hk fun h0 b off e f => hne h0 b off e f, fun h0 b off e => ⟨Nat.lt_of_lt_of_le (hW h0 b off e).2 hk.size, ny b (hW h0 b off e).2 (hne h0 b off e)⟩⟩
theorem listsBX (m : Nat) (most : Int) (w : World) :
    Calls Try.prog 7 #[.agg (bF m), .int .i64 most] w fun en w' => ∃ mb o, en = .returned (.agg (bL mb o)) ∧ w'.heap[mb]? = some (numB (min most 16777216)) ∧ w'.heap[o]? = some (.cells (bF m) 33 (0, 0)) ∧ w.heap.size ≤ mb ∧ w.heap.size ≤ o ∧ Below w.heap.size w w' := by
  have hmf : ∀ (fn : Fn) (first cap : Array Value) (w : World), (Instr.makeFunc fn first cap).run Try.prog w = .ok (.func fn first cap) w := fun _ _ _ _ => rfl
  have h2 := min_run most 16777216 (min most 16777216) (by omega)
  generalize min most 16777216 = m2 at *
  go_enter Try.func7, Try.ntmps7
  go_wp2_with fail
  refine (MakeLb _ _ _ _ _).mono ?_
  rintro e w1 ⟨rfl, hb1⟩
  obtain ⟨b0, b1, b2, hb⟩ := blocks3 hb1
  have HB := hide hb
  have D0 := hide b0
  have D1 := hide b1
  have D2 := hide b2
  clear hb1 hb b0 b1 b2
  have HIL : Hid ((Try.prog.info? 28).map (·.size) = some (bL (w.heap.size + 1) w.heap.size).size) := by show _ = _; kernel_rfl
  have HOL : Hid ((bL (w.heap.size + 1) w.heap.size).all (·.oneCell') = true) := by show _ = _; simp [bL, Value.oneCell']
  go_wp2_with (refine wpList_store_row rfl 28 _ _ rfl (w.heap.size + 1 + 1) (bL (w.heap.size + 1) w.heap.size) rfl rfl 28 _ D2.out HIL.out rfl HOL.out ?_)
  have HX := hide (setRow_heap w1 (w.heap.size + 1 + 1) _ (bL (w.heap.size + 1) w.heap.size) _ _ D2.out)
  have HK : Hid (Keep (fun k => k = w.heap.size + 1 + 1) w1 (w1.setRow (w.heap.size + 1 + 1) (bL (w.heap.size + 1) w.heap.size))) := ⟨rfl, rfl, rfl, by simp [World.setRow], fun i _ hi => setRow_other w1 _ i _ hi⟩
  refine bodyPost_ret (results_cell_row rfl _ _ (w.heap.size + 1 + 1) 28 (bL (w.heap.size + 1) w.heap.size) (0, 0) _ rfl HX.out Try.underlying28 rfl HIL.out) rfl ⟨w.heap.size + 1, w.heap.size, rfl, HK.out.blk D1.out (by show ¬ _ = _; omega), HK.out.blk D0.out (by show ¬ _ = _; omega), by omega, Nat.le_refl _, HB.out.trans (HK.out.below HB.out.size fun i e => by have : i = w.heap.size + 1 + 1 := e; omega)⟩
end Wm
end Go.Proofs.Yteaokgolnhdloaa
