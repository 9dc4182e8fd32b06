/- CrewResults: the mathematics of results; lists of results in memory. -/
import Derived.Test.YtgjiaajeionofaaKOnW
import Derived.Test.YtgjiaajeionofaaKAwk
import Derived.Test.YtgjiaajeionofaaGRfO
import Derived.Test.YtgjiaajeionofaaGBar
import Derived.Laws.MakeOwn
import Derived.Laws.OwnMore
namespace Go.Proofs.Ytgjiaajeionofaa
namespace Cw
open Go.RowKit Gr
open Ow (typ_ne)
open Rn (er)

/-- what work on a node comes to, off the results so far -/
def wk (res : List (List Nat)) (x : No) : List Nat := four (M.more 0 (sb x.q.nm ++ txt (x.nl.map fun k => res.getD k.toNat [])))
def stp (xs : List No) (res : List (List Nat)) (i : Nat) : List (List Nat) := match xs[i]? with
  | some x => res.set i (wk res x)
  | none => res
def outM (xs : List No) (l : List Nat) : List (List Nat) := l.foldl (stp xs) (List.replicate xs.length [])
theorem stp_at {xs : List No} {i : Nat} {x : No} (h : xs[i]? = some x) (res : List (List Nat)) : stp xs res i = res.set i (wk res x) := by unfold stp; rw [h]
theorem outM_succ {xs : List No} {l : List Nat} {k i : Nat} (h : l[k]? = some i) : outM xs (l.take (k + 1)) = stp xs (outM xs (l.take k)) i := by
  unfold outM
  rw [List.take_add_one, h, List.foldl_append]
  rfl
theorem stp_len (xs : List No) (res : List (List Nat)) (i : Nat) : (stp xs res i).length = res.length := by
  unfold stp
  split
  · rw [List.length_set]
  · rfl
theorem fold_len (xs : List No) : ∀ (l : List Nat) (res : List (List Nat)), (l.foldl (stp xs) res).length = res.length
  | [], _ => rfl
  | i :: l, res => by rw [List.foldl_cons, fold_len xs l, stp_len]
theorem outM_len (xs : List No) (l : List Nat) : (outM xs l).length = xs.length := by unfold outM; rw [fold_len, List.length_replicate]
/-- four bytes, or none -/
def Sm (l : List Nat) : Prop := (∀ d ∈ l, d < 256) ∧ l.length ≤ 4
theorem sm_nil : Sm [] := ⟨fun d h => (by cases h), Nat.zero_le _⟩
theorem sm_four (s : Nat) : Sm (four s) := ⟨four_lt s, Nat.le_refl _⟩
theorem wk_len (res : List (List Nat)) (x : No) : (wk res x).length = 4 := rfl
def IsO (nm : ByteArray) (dl : Int) (xs : List No) (l : List Nat) : Prop := ((chk nm dl xs).2 ≠ 0 → l = []) ∧ ((chk nm dl xs).2 = 0 → l.length = xs.length ∧ Ord (eg xs) xs.length l)
theorem IsO.uniq {nm : ByteArray} {dl : Int} {xs : List No} {l m : List Nat} (h : IsO nm dl xs l) (g : IsO nm dl xs m) : l = m := by
  by_cases h0 : (chk nm dl xs).2 = 0
  · obtain ⟨h1, h2⟩ := h.2 h0
    obtain ⟨g1, g2⟩ := g.2 h0
    exact h2.uniq g2 (h1.trans g1.symm)
  · rw [h.1 h0, g.1 h0]
/-- the results of a plan, none where it may not be -/
def IsR (nm : ByteArray) (dl : Int) (xs : List No) (Ls : List (List Nat)) : Prop := ∃ l, IsO nm dl xs l ∧ ((chk nm dl xs).2 = 0 → Ls = outM xs l) ∧ ((chk nm dl xs).2 ≠ 0 → Ls = [])
theorem IsR.uniq {nm : ByteArray} {dl : Int} {xs : List No} {Ls Ms : List (List Nat)} (h : IsR nm dl xs Ls) (g : IsR nm dl xs Ms) : Ls = Ms := by
  obtain ⟨l, hl, h1, h2⟩ := h
  obtain ⟨m, hm, g1, g2⟩ := g
  by_cases h0 : (chk nm dl xs).2 = 0
  · rw [h1 h0, g1 h0, hl.uniq hm]
  · rw [h2 h0, g2 h0]
theorem cN_er (n : Nat) : ∀ (xs : List No) (i : Nat) (seen : List ByteArray), cN n i seen (xs.map er) = cN n i seen xs
  | [], _, _ => rfl
  | x :: xs, i, seen => by
    rw [List.map_cons]
    unfold cN
    rw [cN_er n xs]
    rfl
theorem eg_er (xs : List No) : eg (xs.map er) = eg xs := by
  funext i
  unfold eg
  rw [List.getElem?_map]
  cases xs[i]? <;> rfl
theorem edges_er (xs : List No) : edges (xs.map er) = edges xs := by
  unfold edges
  rw [List.map_map]
  rfl
theorem chk_er (nm : ByteArray) (dl : Int) (xs : List No) : chk nm dl (xs.map er) = chk nm dl xs := by
  have h1 : cW nm dl (xs.map er) = cW nm dl xs := by
    unfold cW
    rw [edges_er, List.length_map]
  have h2 : cyc (xs.map er) = cyc xs := by
    unfold cyc
    rw [eg_er]
  unfold chk
  rw [h1, h2, List.length_map, cN_er]
theorem stp_er (xs : List No) (res : List (List Nat)) (i : Nat) : stp (xs.map er) res i = stp xs res i := by
  unfold stp
  rw [List.getElem?_map]
  cases xs[i]? <;> rfl
theorem outM_er (xs : List No) (l : List Nat) : outM (xs.map er) l = outM xs l := by
  unfold outM
  rw [List.length_map, show stp (xs.map er) = stp xs from funext fun r => funext fun i => stp_er xs r i]
theorem IsR.er_iff (nm : ByteArray) (dl : Int) (xs : List No) (Ls : List (List Nat)) : IsR nm dl (xs.map er) Ls ↔ IsR nm dl xs Ls := by
  unfold IsR IsO
  simp only [chk_er, eg_er, outM_er, List.length_map]
theorem IsR.of {nm : ByteArray} {dl : Int} {xs ys : List No} {Ls : List (List Nat)} (h : IsR nm dl ys Ls) (he : ys.map er = xs.map er) : IsR nm dl xs Ls := by
  rw [← IsR.er_iff, ← he, IsR.er_iff]
  exact h

/-- a row of results, each in a block of its own -/
structure Re (B : Nat) (w : World) (v : Value) (vs : List Value) (Ls : List (List Nat)) : Prop where
  row : w.ownsRow B 35 1 v Ls.length vs
  own : ∀ (i : Nat) u l, vs[i]? = some u → Ls[i]? = some l → w.ownsRow B 5 1 u l.length (B8 l)
  ap : ∀ (i j : Nat) u t b, vs[i]? = some u → vs[j]? = some t → i ≠ j → u.ownBlock = some b → t.ownBlock ≠ some b
  sm : ∀ l ∈ Ls, Sm l
section
variable {B : Nat} {w w' : World} {v : Value} {vs : List Value} {Ls : List (List Nat)}
theorem Re.len (h : Re B w v vs Ls) : vs.length = Ls.length := by have := h.row.1; omega
theorem Re.nil (B : Nat) (w : World) : Re B w (.slice none 0 0) [] [] := ⟨World.ownsRow_nil _ _ _ _, fun i u l h => by simp at h, fun i j u t b h => by simp at h, fun l h => by cases h⟩
theorem Re.lt (h : Re B w v vs Ls) {i : Nat} {u : Value} (hu : vs[i]? = some u) {b : Nat} (hb : u.ownBlock = some b) : B ≤ b ∧ b < w.heap.size := by
  obtain ⟨l, hl⟩ : ∃ l, Ls[i]? = some l := ⟨_, List.getElem?_eq_getElem (by have := (List.getElem?_eq_some_iff.1 hu).1; rw [h.len] at this; exact this)⟩
  exact (h.own i u l hu hl).lt b hb
theorem Re.keep (h : Re B w v vs Ls) {S : Nat → Prop} (k : Keep S w w') (h1 : ∀ i, S i → v.ownBlock ≠ some i) (h2 : ∀ (j : Nat) (u : Value) (i : Nat), vs[j]? = some u → S i → u.ownBlock ≠ some i) : Re B w' v vs Ls :=
  ⟨ownsRow_keep h.row k h1, fun i u l hu hl => ownsRow_keep (h.own i u l hu hl) k fun j => h2 i u j hu, h.ap, h.sm⟩
theorem Re.new (h : Re B w v vs Ls) (k : Keep (fun _ => False) w w') : Re B w' v vs Ls := h.keep k (fun _ f => f.elim) fun _ _ _ _ f => f.elim
theorem Re.base {C : Nat} (h : Re B w v vs Ls) (hc : C ≤ B) : Re C w v vs Ls := ⟨ownsRow_base h.row hc, fun i u l hu hl => ownsRow_base (h.own i u l hu hl) hc, h.ap, h.sm⟩
/-- one of them, as bytes that can be read -/
theorem Re.rd (h : Re B w v vs Ls) {i : Nat} {u : Value} {l : List Nat} (hu : vs[i]? = some u) (hl : Ls[i]? = some l) : ∃ a c, u = .slice a l.length c ∧ Rd w a l.length l ∧ (a = none → c = 0) ∧ ∀ ad, a = some ad → ∃ g, ad = ⟨g, 0, none⟩ ∧ B ≤ g ∧ g < w.heap.size := by
  have hs := h.sm l (List.mem_of_getElem? hl)
  obtain ⟨a, c, e, h1, h2, _, h3⟩ := ownsRow_rd (h.own i u l hu hl) hs.1 (by have := hs.2; omega)
  refine ⟨a, c, e, h1, h2, fun ad ea => ?_⟩
  obtain ⟨g, eg, hg⟩ := h3 ad ea
  subst eg ea e
  exact ⟨g, rfl, hg, ((h.own i _ l hu hl).lt g rfl).2⟩
theorem Re.cell {R n c : Nat} (h : Re B w (.slice (some ⟨R, 0, none⟩) n c) vs Ls) (hn : Ls.length = n) {i : Nat} {u : Value} (hu : vs[i]? = some u) : w.cell? ⟨R, i, none⟩ = some u := by
  subst hn
  rw [h.row.cellAt i (by have := (List.getElem?_eq_some_iff.1 hu).1; have := h.len; omega)]
  exact hu
/-- a result is put in its place -/
theorem Re.put {R n c g m : Nat} {l : List Nat} (h : Re B w (.slice (some ⟨R, 0, none⟩) n c) vs Ls) (hn : Ls.length = n) (hm : l.length = m) (k : Below w.heap.size w w') (hg : w'.heap[g]? = some (.cells (B8 l).toArray 5 (0, 0))) (hge : w.heap.size ≤ g) (hB : B ≤ w.heap.size) (hl : Sm l) (i : Nat) :
    Re B (w'.setCell ⟨R, i, none⟩ (.slice (some ⟨g, 0, none⟩) m m)) (.slice (some ⟨R, 0, none⟩) n c) (vs.set i (.slice (some ⟨g, 0, none⟩) m m)) (Ls.set i l) := by
  subst hn hm
  have h' := h.new (Keep.ofBelow k (Nat.le_refl _))
  have hR := h'.row.stored i (.slice (some ⟨g, 0, none⟩) l.length l.length)
  have ho : w'.ownsRow B 5 1 (.slice (some ⟨g, 0, none⟩) l.length l.length) l.length (B8 l) := ⟨by rw [B8_length]; omega, .inr ⟨g, l.length, _, rfl, by omega, hg, Nat.le_refl _, by have := hl.2; unfold maxLen; omega, by rw [List.size_toArray, B8_length]; omega, by rw [List.take_of_length_le (by rw [B8_length]; omega)]⟩⟩
  have kR : Keep (fun j => j = R) w' (w'.setCell ⟨R, i, none⟩ (.slice (some ⟨g, 0, none⟩) l.length l.length)) := keep_cell w' R i _
  have st : ∀ {u : Value} {n : Nat} {xs : List Value}, w'.ownsRow B 5 1 u n xs → (w'.setCell ⟨R, i, none⟩ (.slice (some ⟨g, 0, none⟩) l.length l.length)).ownsRow B 5 1 u n xs := fun {u n xs} hu => ownsRow_keep hu kR fun j hj e => by
    have hj' : j = R := hj
    subst hj'
    exact typ_ne h'.row hu (by decide) (g := j) rfl e
  refine ⟨by rw [List.length_set]; exact hR.1, fun j u m hu hm => ?_, fun j j' u t b hu ht hne hb hb' => ?_, fun m hm => ?_⟩
  · by_cases e : i = j
    · subst e
      rw [List.getElem?_set_self' ] at hu hm
      obtain ⟨_, _, hu⟩ := Option.map_eq_some_iff.1 hu
      obtain ⟨_, _, hm⟩ := Option.map_eq_some_iff.1 hm
      cases hu; cases hm
      exact st ho
    · rw [List.getElem?_set_ne e] at hu hm
      exact st (h'.own j u m hu hm)
  · have old : ∀ {q : Nat} {x : Value}, vs[q]? = some x → x.ownBlock ≠ some g := fun {q x} hx e => by have := (h.lt hx e).2; omega
    by_cases e1 : i = j
    · by_cases e2 : i = j'
      · exact hne (e1.symm.trans e2)
      · subst e1
        rw [List.getElem?_set_self'] at hu
        rw [List.getElem?_set_ne e2] at ht
        obtain ⟨_, _, hu⟩ := Option.map_eq_some_iff.1 hu
        cases hu
        injection hb with hb
        subst hb
        exact old ht hb'
    · by_cases e2 : i = j'
      · subst e2
        rw [List.getElem?_set_self'] at ht
        rw [List.getElem?_set_ne e1] at hu
        obtain ⟨_, _, ht⟩ := Option.map_eq_some_iff.1 ht
        cases ht
        injection hb' with hb'
        subst hb'
        exact old hu hb
      · rw [List.getElem?_set_ne e1] at hu
        rw [List.getElem?_set_ne e2] at ht
        exact h.ap j j' u t b hu ht hne hb hb'
  · rcases List.mem_or_eq_of_mem_set hm with h1 | rfl
    · exact h.sm m h1
    · exact hl
/-- the same with none yet -/
theorem Re.start (B n : Nat) (hr : w'.ownsRow B 35 1 v n (List.replicate n (.slice none 0 0))) : Re B w' v (List.replicate n (.slice none 0 0)) (List.replicate n []) := by
  refine ⟨by rw [List.length_replicate]; exact hr, fun i u l hu hl => ?_, fun i j u t b hu _ _ hb => ?_, fun l hl => ?_⟩
  · obtain ⟨_, rfl⟩ := List.mem_replicate.1 (List.mem_of_getElem? hu)
    obtain ⟨_, rfl⟩ := List.mem_replicate.1 (List.mem_of_getElem? hl)
    exact World.ownsRow_nil _ _ _ _
  · obtain ⟨_, rfl⟩ := List.mem_replicate.1 (List.mem_of_getElem? hu)
    cases hb
  · obtain ⟨_, rfl⟩ := List.mem_replicate.1 hl
    exact sm_nil
end
theorem made_res (u : World) (n : Nat) (hn : n ≤ 20000) : ∃ w', (Instr.makeSlice 28 (.int .i64 (n : Int)) (.int .i64 (n : Int))).run Try.prog u = .ok (.slice (some ⟨u.heap.size, 0, none⟩) n n) w' ∧ w'.ownsRow u.heap.size 35 1 (.slice (some ⟨u.heap.size, 0, none⟩) n n) n (List.replicate n (.slice none 0 0)) ∧ Below u.heap.size u w' := by
  obtain ⟨i0, hi, hz0, hz1, hz2⟩ := info_parts Ow.info_bytes
  obtain ⟨w', h1, h2, h3⟩ := run_make_full (P := Try.prog) u u.heap.size 28 35 i0 (.slice none 0 0) 1 Try.underlying28 hi hz0 hz1 .i64 .i64 n (by rw [hz2]; omega) (by unfold maxLen; omega) (Nat.le_refl _)
  refine ⟨w', h1, ?_, (Keep.grown (S := fun _ => False) h3 (fun k e => by cases e)).below (Nat.le_refl _) (fun _ f => f.elim)⟩
  have e : (madeCells (Value.slice none 0 0).cells (n * 1)).toList = List.replicate n (.slice none 0 0) := by rw [Nat.mul_one]; exact toList_madeCells_one _ _
  rw [← e]
  exact h2
/-- a row that came of another place is appended to a row of the call's own -/
theorem Rw.add {w w2 w4 : World} {B : Nat} {v v' : Value} {us : List Value} {ls : List (List Nat)} {a : Option Addr} {l : List Nat} {c : Nat} (h : Rw w B v us ls) (k2 : Keep (fun _ => False) w w2) (ho : w4.ownsRow B 35 1 v' (us.length + 1) (us ++ [.slice a l.length c])) (k4 : Keep (fun j => v.ownBlock = some j) w2 w4) (hn : NewBlk w2 v v')
    (hr : Rd w a l.length l) (h0 : a = none → c = 0) (hb : ∀ ad, a = some ad → v.ownBlock ≠ some ad.block ∧ ad.block < w.heap.size) : Rw w4 B v' (us ++ [.slice a l.length c]) (ls ++ [l]) := by
  have blk : ∀ b, b < w.heap.size → v.ownBlock ≠ some b → v'.ownBlock ≠ some b := fun b h1 h2 e => by
    rcases hn with h3 | h3
    · exact h2 (h3.symm.trans e)
    · have := h3 b e
      have := k2.size
      omega
  have rdk : ∀ {a' : Option Addr} {n : Nat} {m : List Nat}, Rd w a' n m → (∀ ad, a' = some ad → v.ownBlock ≠ some ad.block ∧ ad.block < w.heap.size) → Rd w4 a' n m := fun {a' n m} hr hb =>
    (hr.stay (S := fun _ => False) k2 fun _ _ _ f => f).stay k4 fun b off e hs => (hb _ e).1 hs
  refine ⟨by rw [List.length_append]; exact ho, by simp [h.len], fun i x m hx hm => ?_⟩
  by_cases hi : i < us.length
  · rw [List.getElem?_append_left hi] at hx
    rw [List.getElem?_append_left (by rw [← h.len]; exact hi)] at hm
    obtain ⟨a', c', e, h1, h2, h3⟩ := h.els i x m hx hm
    refine ⟨a', c', e, rdk h1 h3, h2, fun ad e' => ⟨blk _ (h3 ad e').2 (h3 ad e').1, Nat.lt_of_lt_of_le (h3 ad e').2 (Nat.le_trans k2.size k4.size)⟩⟩
  · have e1 : i = us.length := by
      have := (List.getElem?_eq_some_iff.1 hx).1
      simp at this
      omega
    subst e1
    rw [List.getElem?_append_right (Nat.le_refl _), Nat.sub_self] at hx
    rw [List.getElem?_append_right (by rw [h.len]; exact Nat.le_refl _), h.len, Nat.sub_self] at hm
    cases hx; cases hm
    exact ⟨a, c, rfl, rdk hr hb, h0, fun ad e' => ⟨blk _ (hb ad e').2 (hb ad e').1, Nat.lt_of_lt_of_le (hb ad e').2 (Nat.le_trans k2.size k4.size)⟩⟩
end Cw
end Go.Proofs.Ytgjiaajeionofaa
