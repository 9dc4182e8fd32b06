/- PackReaderOwns: own over a list of blobs, appends of whole rows of slices, Read of a list of blobs; what the document told, kept below a bound. -/
import Derived.Test.YteaokgolnhdloaaPRb5
import Derived.Test.YteaokgolnhdloaaPWnN
namespace Go.Proofs.Yteaokgolnhdloaa
namespace Wm
open Go.RowKit
open Ow (own_form info_bytes)
open Wn (own_N)

theorem RdL.keep {w w' : World} {a : Option Addr} {n : Nat} {Ls : List (List Nat)} (h : RdL w a n Ls) (hb : Below w.heap.size w w') : RdL w' a n Ls := by
  refine ⟨h.1, h.2.1, h.2.2.imp id fun ⟨b, off, e, hc⟩ => ⟨b, off, e, fun i l hl => ?_⟩⟩
  obtain ⟨a', c', h1, h2⟩ := hc i l hl
  exact ⟨a', c', by rw [hb.cell (p := ⟨b, off + i, none⟩) (block_lt_of_cell h1)]; exact h1, h2.keep hb⟩
/-- what the document told, its blocks all ahead of D -/
structure Wd (B D : Nat) (w : World) (y : Value) (Ls : List (List Nat)) : Prop where
  ex : ∃ vs : List Value, w.ownsRow B 22 1 y Ls.length vs ∧ (∀ i, y.ownBlock = some i → i < D) ∧ ∀ (i : Nat) l, Ls[i]? = some l → ∃ a' c', vs[i]? = some (.slice a' l.length c') ∧ Rd w a' l.length l ∧ (l.length ≠ 0 → ∀ b off, a' = some ⟨b, off, none⟩ → b < D)
theorem Wl.wd {B : Nat} {w : World} {y : Value} {Ls : List (List Nat)} (h : Wl B w y Ls) : Wd B w.heap.size w y Ls := by
  obtain ⟨vs, h1, h2⟩ := h.ex
  refine ⟨vs, h1, fun i e => (h1.lt i e).2, fun i l hl => ?_⟩
  obtain ⟨a', c', h3, h4, h5⟩ := h2 i l hl
  exact ⟨a', c', h3, h4, fun h0 b off e => (h5 h0 b off e).1⟩
theorem Rd.stayB {w w' : World} {a : Option Addr} {n : Nat} {l : List Nat} (h : Rd w a n l) {S : Nat → Prop} (k : Keep S w w') (hS : n ≠ 0 → ∀ b off, a = some ⟨b, off, none⟩ → ¬ S b) : Rd w' a n l := by
  refine ⟨h.1, h.2.1, h.2.2.1, ?_⟩
  rcases h.2.2.2 with h0 | ⟨b, off, e, hc⟩
  · exact .inl h0
  · by_cases h0 : n = 0
    · exact .inl h0
    · exact .inr ⟨b, off, e, fun i hi => k.cell (hc i hi) (hS h0 b off e)⟩
theorem Wd.far {B D : Nat} {w w' : World} {y : Value} {Ls : List (List Nat)} (h : Wd B D w y Ls) {S : Nat → Prop} (k : Keep S w w') (hS : ∀ i, S i → D ≤ i) : Wd B D w' y Ls := by
  obtain ⟨vs, h1, h2, h3⟩ := h.ex
  refine ⟨vs, ownsRow_keepQ h1 k fun i e f => (by have := h2 i e; have := hS i f; omega), h2, fun i l hl => ?_⟩
  obtain ⟨a', c', h4, h5, h6⟩ := h3 i l hl
  exact ⟨a', c', h4, Rd.stayB h5 k fun h0 b off e f => (by have := h6 h0 b off e; have := hS b f; omega), h6⟩
theorem Wd.pastR {B D : Nat} {w w' : World} {y : Value} {Ls : List (List Nat)} {q : Nat} {s : K.RS} (h : Wd B D w y Ls) (hr : Rr w q s) (hk : Keep (fun k => k = q) w w') : Wd B D w' y Ls := by
  obtain ⟨vs, h1, h2, h3⟩ := h.ex
  obtain ⟨_, _, hb, _⟩ := hr.ex
  refine ⟨vs, ownsRow_keepQ h1 hk fun i e f => ?_, h2, fun i l hl => ?_⟩
  · have f' : i = q := f
    subst f'
    rcases h1.2 with ⟨e1, _⟩ | ⟨g, cap, cur, e1, _, e3, _⟩
    · rw [e1] at e; cases e
    · rw [e1] at e
      cases e
      exact neTB e3 hb (by decide) rfl
  · obtain ⟨a', c', h4, h5, h6⟩ := h3 i l hl
    exact ⟨a', c', h4, Rd.past h5 hr hk, h6⟩
theorem Wd.rd {B D : Nat} {w : World} {y : Value} {Ls : List (List Nat)} (h : Wd B D w y Ls) (hn : Ls.length ≤ 16777216) : ∃ a c, y = .slice a Ls.length c ∧ RdL w a Ls.length Ls := by
  obtain ⟨vs, h1, _, h3⟩ := h.ex
  rcases h1.2 with ⟨rfl, h0⟩ | ⟨g, cap, cur, rfl, e2, e3, e4, e5, e6, e7⟩
  · exact ⟨none, 0, by rw [h0], rfl, by omega, .inl h0⟩
  · refine ⟨_, _, rfl, rfl, by omega, .inr ⟨g, 0, rfl, fun i l hil => ?_⟩⟩
    obtain ⟨a', c', hu, hr, _⟩ := h3 i l hil
    refine ⟨a', c', ?_, hr⟩
    have : (List.take (Ls.length * 1) cur.toList)[i]? = some (.slice a' l.length c') := by rw [e7]; exact hu
    rw [List.getElem?_take] at this
    split at this
    · rw [Nat.zero_add, cell_of_row _ _ _ _ _ _ e3]; simpa using this
    · cases this
theorem Bl.app {B C : Nat} {w : World} {vs us : List Value} {Ls Ms : List (List Nat)} (h : Bl B w vs Ls) (h' : Bl C w us Ms) (hap : ∀ (i j : Nat) v u b, vs[i]? = some v → us[j]? = some u → v.ownBlock = some b → u.ownBlock ≠ some b) : Bl 0 w (vs ++ us) (Ls ++ Ms) := by
  refine ⟨by rw [List.length_append, List.length_append, h.len, h'.len], fun i v l hv hl => ?_, fun i j v u b hv hu hij hb => ?_⟩
  · by_cases hi : i < vs.length
    · rw [List.getElem?_append_left hi] at hv
      rw [List.getElem?_append_left (by rw [← h.len]; exact hi)] at hl
      exact ownsRow_base (h.own i v l hv hl) (Nat.zero_le _)
    · rw [List.getElem?_append_right (by omega)] at hv
      rw [List.getElem?_append_right (by rw [← h.len]; omega), ← h.len] at hl
      exact ownsRow_base (h'.own _ v l hv hl) (Nat.zero_le _)
  · by_cases hi : i < vs.length
    · rw [List.getElem?_append_left hi] at hv
      by_cases hj : j < vs.length
      · rw [List.getElem?_append_left hj] at hu
        exact h.ap i j v u b hv hu hij hb
      · rw [List.getElem?_append_right (by omega)] at hu
        exact hap i _ v u b hv hu hb
    · rw [List.getElem?_append_right (by omega)] at hv
      by_cases hj : j < vs.length
      · rw [List.getElem?_append_left hj] at hu
        exact fun e => hap j _ u v b hu hv e hb
      · rw [List.getElem?_append_right (by omega)] at hu
        exact h'.ap _ _ v u b hv hu (by omega) hb
set_option maxRecDepth 10000 in
theorem own_zero (a : Option Addr) (c : Nat) (w : World) : Calls Try.prog 18 #[.slice a 0 c] w fun e w' => e = .returned (.bool true) ∧ w' = w := by
  go_enter Try.func18, Try.ntmps18
  go_wp2_with fail
  go_loopw [3] (fun iv wx => iv = .int .i64 0 ∧ wx = w) (fun _ _ => 0)
  case atStart => exact ⟨rfl, rfl⟩
  case round => as_aux_lemma =>
    obtain ⟨rfl, rfl⟩ := hrel
    go_wp2_with fail
    go_loopw [4, 5] (fun gv iv wx => gv = .slice none 0 0 ∧ iv = .int .i64 0 ∧ wx = wr) (fun _ _ _ => 0)
    case atStart => exact ⟨rfl, rfl, rfl⟩
    case round => as_aux_lemma =>
      obtain ⟨rfl, rfl, hw⟩ := hrel
      subst hw
      go_wp2_with fail
      go_loopw [8] (fun iv wx => iv = .int .i64 0 ∧ wx = wr) (fun _ _ => 0)
      case atStart => exact ⟨rfl, rfl⟩
      case round => as_aux_lemma =>
        obtain ⟨rfl, hw⟩ := hrel
        subst hw
        go_wp2_with fail
        go_ret
        exact ⟨rfl, rfl⟩
/-- the blocks of a list's values -/
def Sv (vs : List Value) (k : Nat) : Prop := ∃ (i : Nat) (v : Value), vs[i]? = some v ∧ v.ownBlock = some k
theorem own_list {B C : Nat} {v : Value} {vs : List Value} {Ls : List (List Nat)} (w : World) (h : w.ownsRow B 22 1 v Ls.length vs) (hb : Bl C w vs Ls) (hl : ∀ l ∈ Ls, l.length ≤ 16777216) (hn : Ls.length ≤ 100000000) :
    Calls Try.prog 18 #[v] w fun e w' => e = .returned (.bool true) ∧ Keep (Sv vs) w w' := by
  by_cases h0 : Ls.length = 0
  · obtain ⟨a, c, e⟩ := ownsRow_shape h
    subst e
    rw [h0]
    exact (own_zero a c w).mono fun _ _ h => ⟨h.1, by rw [h.2]; exact Keep.refl _ _⟩
  · obtain ⟨g, cap, e⟩ := own_form h (by omega)
    subst e
    have hsh : ∀ j, j < Ls.length → ∃ a c, vs[j]? = some (.slice a (Ls[j]?.getD []).length c) ∧ w.ownsRow 0 5 1 (.slice a (Ls[j]?.getD []).length c) (Ls[j]?.getD []).length (B8 (Ls[j]?.getD [])) := fun j hj => by
      have e1 : Ls[j]? = some Ls[j] := List.getElem?_eq_getElem hj
      have hj' : j < vs.length := by rw [hb.len]; exact hj
      have e2 : vs[j]? = some vs[j] := List.getElem?_eq_getElem hj'
      have ho := ownsRow_base (hb.own j _ _ e2 e1) (Nat.zero_le _)
      obtain ⟨a, c, e⟩ := ownsRow_shape ho
      rw [e1, Option.getD_some]
      exact ⟨a, c, by rw [e2, e], by rw [← e]; exact ho⟩
    obtain ⟨A, hA⟩ : ∃ A : Nat → Option Addr × Nat, ∀ j, j < Ls.length → vs[j]? = some (.slice (A j).1 (Ls[j]?.getD []).length (A j).2) ∧ w.ownsRow 0 5 1 (.slice (A j).1 (Ls[j]?.getD []).length (A j).2) (Ls[j]?.getD []).length (B8 (Ls[j]?.getD [])) := by
      refine ⟨fun j => if hj : j < Ls.length then (Classical.choose (hsh j hj), Classical.choose (Classical.choose_spec (hsh j hj))) else (none, 0), fun j hj => ?_⟩
      dsimp only
      rw [dif_pos hj]
      exact Classical.choose_spec (Classical.choose_spec (hsh j hj))
    have hrow : (List.range Ls.length).map (fun j => Value.slice (A j).1 (Ls[j]?.getD []).length (A j).2) = vs := by
      apply List.ext_getElem?
      intro j
      by_cases hj : j < Ls.length
      · rw [List.getElem?_map, List.getElem?_range hj, (hA j hj).1]; rfl
      · rw [List.getElem?_eq_none (by simp; omega), List.getElem?_eq_none (by rw [hb.len]; omega)]
    refine (own_N Ls.length (by omega) hn g cap (fun j => (A j).1) (fun j => (Ls[j]?.getD []).length) (fun j => (A j).2) (fun j => B8 (Ls[j]?.getD [])) B w ⟨fun j hj => (hA j hj).2, ?_⟩ (fun j k b hj hk hjk e1 e2 => ?_) fun j hj => ?_).mono fun _ w' hh => ⟨hh.1, ?_⟩
    · show World.ownsRow _ _ _ _ _ _ ((List.range Ls.length).map (fun j => Value.slice (A j).1 (Ls[j]?.getD []).length (A j).2))
      rw [hrow]
      exact h
    · exact hb.ap j k _ _ b (hA j hj).1 (hA k hk).1 hjk e1 e2
    · show (Ls[j]?.getD []).length ≤ _
      rw [List.getElem?_eq_getElem hj, Option.getD_some]
      exact hl _ (List.getElem_mem hj)
    · exact hh.2.mono fun k ⟨j, hj, e⟩ => ⟨j, _, (hA j hj).1, e⟩
theorem wp_appendLs {w : World} {ops : Array Oper} {rest : List Oper} {o : Oper} {a : Act} {Q : Exit → Act → World → Prop} (hgd : o.guard = none) (s x : Operand)
    (ho : o.op = .call { callee := .builtin .append, args := #[s, x], argTypes := #[41, 41] })
    (base : Nat) (v : Value) (n : Nat) (xs : List Value) (hs : a.eval s = v) (hown : w.ownsRow base 22 1 v n xs) (b2 : Nat) (y : Value) (m : Nat) (ys : List Value) (hx : a.eval x = y) (hy : w.ownsRow b2 22 1 y m ys) (hy1 : ∀ u ∈ ys, u.oneCell' = true) (hn : n + m ≤ 200000000) (hbase : base ≤ w.heap.size)
    (h : ∀ v' w', w'.ownsRow base 22 1 v' (n + m) (xs ++ ys) → Keep (fun k => v.ownBlock = some k) w w' → NewBlk w v v' → wpList Try.prog ops Q rest (a.put o.dst v') w') : wpList Try.prog ops Q (o :: rest) a w := by
  obtain ⟨i0, hi, hz0, hz1, hz2⟩ := info_parts info_bytes
  have hlen : ys.length = m := by have := hy.1; omega
  rcases hy.2 with ⟨rfl, h0⟩ | ⟨g, cap, cur, rfl, e2, e3, e4, e5, e6, e7⟩
  · subst h0
    have hl : ys = [] := List.eq_nil_of_length_eq_zero hlen
    subst hl
    refine wpList_append_own_none hgd s x 41 ho base 22 i0 1 Try.underlying41 hi v n xs hs hown hx ?_
    exact h v w (by simpa using hown) (Keep.refl _ _) (.inl rfl)
  · refine wpList_append_own2 hgd s x 41 ho base 22 i0 (.slice none 0 0) 1 24 Try.underlying41 hi hz0 hz1 hz2 rfl (by decide) v n xs hs hown ⟨g, 0, none⟩ m cap ys hx (by omega) (fun j u hu => ?_) hy1 (by unfold maxLen; omega) (by omega) hbase ?_
    · have hj : j < m := by have := (List.getElem?_eq_some_iff.1 hu).1; omega
      have e : (⟨g, 0, none⟩ : Addr).add j = ⟨g, j, none⟩ := by cases j <;> simp [Addr.add]
      rw [e, hy.cellAt j (by omega)]
      exact hu
    · intro v' w' h1 h2 h3
      exact h v' w' h1 (Keep.grown h2 fun k e => e) h3
theorem empty_rowL (w : World) : (w.alloc (.cells #[] 22)).ownsRow w.heap.size 22 1 (.slice (some ⟨w.heap.size, 0, none⟩) 0 0) 0 [] :=
  World.ownsRow_made (e := 22) (size := 1) w #[] 0 (Nat.le_refl _) (Nat.zero_le _) rfl
def RdV (w : World) (v : Value) (LL : List (List Nat)) : Prop := ∃ a' c', v = .slice a' LL.length c' ∧ RdL w a' LL.length LL
set_option maxRecDepth 10000 in
theorem readB (m mb fb : Nat) (mst : Int) (a : Option Addr) (n c : Nat) (l : List Nat) (s' : K.RS) (LL : List (List Nat)) (hs' : allR (rowR 9223372036854775807) (hdN mst (newR l)) (takeR (headR mst) (newR l)) = s')
    (hLL : (if s'.fault = 0 then blsB 9223372036854775807 (takeR (headR mst) (newR l)) (hdN mst (newR l)) else []) = LL) (hlb : (∀ l ∈ LL, ∀ d ∈ l, d < 256) ∧ (∀ l ∈ LL, l.length ≤ 16777216) ∧ LL.length ≤ 16777216) (r : Nat) (hr : endR s' = r) (w : World) (h : Rd w a n l) (h0 : a = none → c = 0)
    (hmm : w.cell? ⟨m, 0, none⟩ = some (.int .i64 9223372036854775807)) (hmb : w.heap[mb]? = some (numB (min mst 16777216))) (hfb : w.heap[fb]? = some (.cells (bF m) 33 (0, 0))) :
    Calls Try.prog 20 #[.agg (bL mb fb), .slice a n c] w fun en w' =>
      ∃ v, en = .returned (.tuple #[v, .int .i64 (r : Nat)]) ∧ (r = 0 → RdV w' v LL) ∧ (r ≠ 0 → v = .slice none 0 0) ∧ Below w.heap.size w w' := by
  have hba := (Below.refl w.heap.size w).alloc (Nat.le_refl _) (.cells (bL mb fb) 28)
  have hra := h.keep hba
  have hcf := heap_alloc_new w (.cells (bL mb fb) 28)
  have HM : Hid (∀ W, Below w.heap.size w W → W.cell? ⟨m, 0, none⟩ = some (.int .i64 9223372036854775807) ∧ W.heap[mb]? = some (numB (min mst 16777216)) ∧ W.heap[fb]? = some (.cells (bF m) 33 (0, 0))) := fun W hb => ⟨by rw [hb.cell (p := ⟨m, 0, none⟩) (block_lt_of_cell hmm)]; exact hmm, blkBX hmb hb, blkBX hfb hb⟩
  have HMl : Hid (m < w.heap.size) := block_lt_of_cell (a := ⟨m, 0, none⟩) hmm
  have HR := hide hra
  have H0 := hide h0
  have HB := hide hba
  have HS := hide hs'
  have HLL := hide hLL
  have HLB := hide hlb
  have HRR := hide hr
  clear h h0 hra hba hs' hr hLL hlb hmm hmb hfb
  unfold bL at *
  go_enter Try.func20, Try.ntmps20
  go_wp2_with fail
  refine (NewReader_any a n c l _ HR.out H0.out).mono ?_
  rintro e w1 ⟨q, rfl, hrr, hq, hb1⟩
  have hblk := (Keep.ofBelow (S := fun _ => False) hb1 (Nat.le_refl _)).blk hcf (fun h => h)
  have d0 : w1.cell? ⟨w.heap.size, 0, none⟩ = some (.func (.func 38) #[] #[.pointer (some ⟨mb, 0, none⟩), .pointer (some ⟨fb, 0, none⟩)]) := by rw [cell_of_row _ _ _ _ _ _ hblk]; rfl
  have d1 : w1.cell? ⟨w.heap.size, 1, none⟩ = some (.func (.func 43) #[] #[.pointer (some ⟨mb, 0, none⟩), .pointer (some ⟨fb, 0, none⟩)]) := by rw [cell_of_row _ _ _ _ _ _ hblk]; rfl
  have HB1 := hide (HB.out.trans (hb1.mono HB.out.size))
  have HQ := hide (Nat.le_trans HB.out.size hq)
  have HRD := hide hrr
  clear hb1 hblk hcf hq hrr
  have HT := hide (takeAnyB q m mb fb 9223372036854775807 mst (newR l) w1 HRD.out (HM.out _ HB1.out).1 (by have h1 := HQ.out; have h2 := HMl.out; omega) (HM.out _ HB1.out).2.1 (HM.out _ HB1.out).2.2)
  unfold bL at HT
  go_wp2_with fail
  refine (HT.out).mono ?_
  rintro e w2 ⟨hk2, hr2, v, vs, rfl, hv, hbl⟩
  rw [HS.out] at hr2 hv hbl
  rw [HLL.out] at hv hbl
  have HR2 := hide hr2
  have HB2 := hide (HB1.out.trans (hk2.below (B := w.heap.size) (by have := HB1.out.size; omega) (fun i hi => by have := HQ.out; have : i = q := hi; omega)))
  have HVV : Hid (RdV w2 v LL) := own_rdL hv hbl HLB.out.1 HLB.out.2.1 HLB.out.2.2
  clear hr2 hk2 hv hbl d0 d1 HT
  go_wp2_with fail
  refine (End_any q s' _ HR2.out).mono ?_
  rintro e w3 ⟨rfl, hb3⟩
  rw [HRR.out]
  have HB3 := hide (HB2.out.trans (hb3.mono HB2.out.size))
  have HVB := hide hb3
  clear hb3
  by_cases hz : r = 0
  · subst hz
    go_wp2
    go_ret2
    exact ⟨v, rfl, by obtain ⟨a', c', e, hrd⟩ := HVV.out; exact ⟨a', c', e, hrd.keep HVB.out⟩, HB3.out⟩
  · have hzz : ((r : Int) == 0) = false := by simpa using hz
    have HZ := hide hz
    clear hz
    go_wp2
    go_ret2
    exact ⟨_, rfl, fun hn => absurd hn HZ.out, fun _ => rfl, HB3.out⟩
end Wm
end Go.Proofs.Yteaokgolnhdloaa
