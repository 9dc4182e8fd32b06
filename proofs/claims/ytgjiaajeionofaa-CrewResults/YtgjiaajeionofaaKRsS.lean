/- CrewResults: lists of bytes held side by side; rows that are their owner's; rows behind a row. -/
import Derived.Test.YtgjiaajeionofaaKRsR
import Derived.Laws.AppendOwnNone
import Derived.BigQuiet
namespace Go.Proofs.Ytgjiaajeionofaa
namespace Cw
open Go.RowKit Gr Go.Deep
open Ow (typ_ne own_form)
theorem drewN_addC (w : World) (a b : Nat) : (w.drewN a).drewN b = w.drewN (a + b) := by unfold World.drewN; simp only [Nat.add_assoc]
theorem drewN_belowC (w : World) (k : Nat) : Below w.heap.size w (w.drewN k) := ⟨rfl, rfl, rfl, Nat.le_refl _, fun _ _ => rfl⟩
set_option maxRecDepth 10000 in
theorem sameBytes_same (a b : Option Addr) (n c d : Nat) (Ls : List (List Nat)) (w : World) (h1 : Ins w a n Ls) (h2 : Ins w b n Ls) :
    Calls Try.prog 10 #[.slice a n c, .slice b n d] w fun en w' => en = .returned (.bool true) ∧ ∃ m, w' = w.drewN m := by
  have HA := hide h1
  have HB := hide h2
  have hn := h1.2.1
  clear h1 h2
  go_enter Try.func10, Try.ntmps10
  go_wp2
  go_loopw [5] (fun i wx => ∃ k m : Nat, k ≤ n ∧ i = .int .i64 (k : Nat) ∧ wx = w.drewN m) (fun i _ => n - (intOf i).toNat)
  case atStart => exact ⟨0, 0, Nat.zero_le _, rfl, rfl⟩
  case round =>
    obtain ⟨k, m, hk, rfl, hwm⟩ := hrel
    by_cases hlt : k < n
    · obtain ⟨x, hx⟩ : ∃ x, Ls[k]? = some x := ⟨_, List.getElem?_eq_getElem (by have h := HA.out.1; omega)⟩
      obtain ⟨b1, o1, a1, c1, rfl, e1, r1⟩ : ∃ b1 o1 a1 c1, a = some ⟨b1, o1, none⟩ ∧ w.cell? ⟨b1, o1 + k, none⟩ = some (.slice a1 x.length c1) ∧ Rd w a1 x.length x := by
        rcases HA.out.2.2 with h0 | ⟨b1, o1, rfl, hr⟩
        · omega
        · obtain ⟨a1, c1, h1, h2, _⟩ := hr k x hx; exact ⟨b1, o1, a1, c1, rfl, h1, h2⟩
      obtain ⟨b2, o2, a2, c2, rfl, e2, r2⟩ : ∃ b2 o2 a2 c2, b = some ⟨b2, o2, none⟩ ∧ w.cell? ⟨b2, o2 + k, none⟩ = some (.slice a2 x.length c2) ∧ Rd w a2 x.length x := by
        rcases HB.out.2.2 with h0 | ⟨b2, o2, rfl, hr⟩
        · omega
        · obtain ⟨a2, c2, h1, h2, _⟩ := hr k x hx; exact ⟨b2, o2, a2, c2, rfl, h1, h2⟩
      have k1 : ∀ j, (convert 35 9 (.slice a1 x.length c1)).run Try.prog (wr.drewN j) = .ok (.string (str x)) (wr.drewN j) := fun j => by rw [hwm]; exact conv_rd (r1.keep (by rw [drewN_addC]; exact drewN_belowC _ _)) c1
      have k2 : ∀ j, (convert 35 9 (.slice a2 x.length c2)).run Try.prog (wr.drewN j) = .ok (.string (str x)) (wr.drewN j) := fun j => by rw [hwm]; exact conv_rd (r2.keep (by rw [drewN_addC]; exact drewN_belowC _ _)) c2
      have f1 : wr.cell? ⟨b1, o1 + k, none⟩ = some (.slice a1 x.length c1) := by rw [hwm]; exact e1
      have f2 : wr.cell? ⟨b2, o2 + k, none⟩ = some (.slice a2 x.length c2) := by rw [hwm]; exact e2
      have HWM := hide hwm
      clear hx e1 e2 r1 r2 hwm
      generalize str x = S at *
      generalize x.length = xl at *
      go_upto_region 6 with fail
      go_quiet (fail)
      go_wp2_with fail
      go_roundw
      case rel => exact ⟨k + 1, m + nq, by omega, by go_num, by rw [HWM.out, drewN_addC]⟩
      case measure => simp [intOf]; omega
    · subst hwm
      go_wp2
      go_ret
      exact ⟨rfl, m, rfl⟩
/-- the blocks of a list's values -/
def Sv (vs : List Value) (k : Nat) : Prop := ∃ (i : Nat) (v : Value), vs[i]? = some v ∧ v.ownBlock = some k
theorem owned_list {B C : Nat} {v : Value} {vs : List Value} {Ls : List (List Nat)} (w : World) (h : w.ownsRow B 35 1 v Ls.length vs) (hlen : vs.length = Ls.length) (hown : ∀ (i : Nat) u l, vs[i]? = some u → Ls[i]? = some l → w.ownsRow C 5 1 u l.length (B8 l)) (hap : ∀ (i j : Nat) u t b, vs[i]? = some u → vs[j]? = some t → i ≠ j → u.ownBlock = some b → t.ownBlock ≠ some b) (hl : ∀ l ∈ Ls, l.length ≤ 16777216) (hn : Ls.length ≤ 1000000) :
    Calls Try.prog 11 #[v] w fun e w' => e = .returned (.bool true) ∧ Keep (Sv vs) w w' := by
  by_cases h0 : Ls.length = 0
  · obtain ⟨a, c, e⟩ := ownsRow_shape h
    subst e
    rw [h0]
    exact (On.owned_nil a c w).mono fun _ _ h => ⟨h.1, by rw [h.2]; exact Keep.refl _ _⟩
  · obtain ⟨g, cap, e⟩ := own_form h (by omega)
    subst e
    have hsh : ∀ j, j < Ls.length → ∃ a c, vs[j]? = some (.slice a (Ls[j]?.getD []).length c) ∧ w.ownsRow 0 5 1 (.slice a (Ls[j]?.getD []).length c) (Ls[j]?.getD []).length (B8 (Ls[j]?.getD [])) := fun j hj => by
      have e1 : Ls[j]? = some Ls[j] := List.getElem?_eq_getElem hj
      have hj' : j < vs.length := by rw [hlen]; exact hj
      have e2 : vs[j]? = some vs[j] := List.getElem?_eq_getElem hj'
      have ho := ownsRow_base (hown j _ _ e2 e1) (Nat.zero_le _)
      obtain ⟨a, c, e⟩ := ownsRow_shape ho
      rw [e1, Option.getD_some]
      exact ⟨a, c, by rw [e2, e], by rw [← e]; exact ho⟩
    obtain ⟨A, hA⟩ : ∃ A : Nat → Option Addr × Nat, ∀ j, j < Ls.length → vs[j]? = some (.slice (A j).1 (Ls[j]?.getD []).length (A j).2) ∧ w.ownsRow 0 5 1 (.slice (A j).1 (Ls[j]?.getD []).length (A j).2) (Ls[j]?.getD []).length (B8 (Ls[j]?.getD [])) := by
      refine ⟨fun j => if hj : j < Ls.length then (Classical.choose (hsh j hj), Classical.choose (Classical.choose_spec (hsh j hj))) else (none, 0), fun j hj => ?_⟩
      dsimp only
      rw [dif_pos hj]
      exact Classical.choose_spec (Classical.choose_spec (hsh j hj))
    have hrow : (List.range Ls.length).map (fun j => Value.slice (A j).1 (Ls[j]?.getD []).length (A j).2) = vs := by
      apply List.ext_getElem?
      intro j
      by_cases hj : j < Ls.length
      · rw [List.getElem?_map, List.getElem?_range hj, (hA j hj).1]; rfl
      · rw [List.getElem?_eq_none (by simp; omega), List.getElem?_eq_none (by rw [hlen]; omega)]
    refine (On.owned_any Ls.length (by omega) hn g cap (fun j => (A j).1) (fun j => (Ls[j]?.getD []).length) (fun j => (A j).2) (fun j => B8 (Ls[j]?.getD [])) B w ⟨fun j hj => (hA j hj).2, ?_⟩ (fun j k b hj hk hjk e1 e2 => ?_) fun j hj => ?_).mono fun _ w' hh => ⟨hh.1, ?_⟩
    · show World.ownsRow _ _ _ _ _ _ ((List.range Ls.length).map (fun j => Value.slice (A j).1 (Ls[j]?.getD []).length (A j).2))
      rw [hrow]
      exact h
    · exact hap j k _ _ b (hA j hj).1 (hA k hk).1 hjk e1 e2
    · show (Ls[j]?.getD []).length ≤ _
      rw [List.getElem?_eq_getElem hj, Option.getD_some]
      exact hl _ (List.getElem_mem hj)
    · exact hh.2.mono fun k ⟨j, hj, e⟩ => ⟨j, _, (hA j hj).1, e⟩
theorem wp_appendLs {w : World} {ops : Array Oper} {rest : List Oper} {o : Oper} {a : Act} {Q : Exit → Act → World → Prop} (hgd : o.guard = none) (s x : Operand)
    (ho : o.op = .call { callee := .builtin .append, args := #[s, x], argTypes := #[28, 28] })
    (base : Nat) (v : Value) (n : Nat) (xs : List Value) (hs : a.eval s = v) (hown : w.ownsRow base 35 1 v n xs) (b2 : Nat) (y : Value) (m : Nat) (ys : List Value) (hx : a.eval x = y) (hy : w.ownsRow b2 35 1 y m ys) (hy1 : ∀ u ∈ ys, u.oneCell' = true) (hn : n + m ≤ 1000000) (hbase : base ≤ w.heap.size)
    (h : ∀ v' w', w'.ownsRow base 35 1 v' (n + m) (xs ++ ys) → Keep (fun k => v.ownBlock = some k) w w' → NewBlk w v v' → wpList Try.prog ops Q rest (a.put o.dst v') w') : wpList Try.prog ops Q (o :: rest) a w := by
  obtain ⟨i0, hi, hz0, hz1, hz2⟩ := info_parts Ow.info_bytes
  have hlen : ys.length = m := by have := hy.1; omega
  rcases hy.2 with ⟨rfl, h0⟩ | ⟨g, cap, cur, rfl, e2, e3, e4, e5, e6, e7⟩
  · subst h0
    have hl : ys = [] := List.eq_nil_of_length_eq_zero hlen
    subst hl
    refine wpList_append_own_none hgd s x 28 ho base 35 i0 1 Try.underlying28 hi v n xs hs hown hx ?_
    exact h v w (by simpa using hown) (Keep.refl _ _) (.inl rfl)
  · refine wpList_append_own2 hgd s x 28 ho base 35 i0 (.slice none 0 0) 1 24 Try.underlying28 hi hz0 hz1 hz2 rfl (by decide) v n xs hs hown ⟨g, 0, none⟩ m cap ys hx (by omega) (fun j u hu => ?_) hy1 (by unfold maxLen; omega) (by omega) hbase ?_
    · have hj : j < m := by have := (List.getElem?_eq_some_iff.1 hu).1; omega
      have e : (⟨g, 0, none⟩ : Addr).add j = ⟨g, j, none⟩ := by cases j <;> simp [Addr.add]
      rw [e, hy.cellAt j (by omega)]
      exact hu
    · intro v' w' h1 h2 h3
      exact h v' w' h1 (Keep.grown h2 fun k e => e) h3

theorem Re.ins {B : Nat} {w : World} {v : Value} {vs : List Value} {Ls : List (List Nat)} (h : Re B w v vs Ls) (hn : Ls.length ≤ 1000000) : ∃ a c, v = .slice a Ls.length c ∧ Ins w a Ls.length Ls := by
  obtain ⟨a, c, e⟩ := ownsRow_shape h.row
  refine ⟨a, c, e, rfl, by omega, ?_⟩
  by_cases h0 : Ls.length = 0
  · exact .inl h0
  · obtain ⟨g, cap, e2⟩ := own_form h.row (by omega)
    rw [e] at e2
    injection e2 with e3 _ e5
    refine .inr ⟨g, 0, e3, fun i l hl => ?_⟩
    have hi : i < Ls.length := (List.getElem?_eq_some_iff.1 hl).1
    have hu : vs[i]? = some (vs[i]'(by rw [h.len]; exact hi)) := List.getElem?_eq_getElem _
    obtain ⟨a', c', e', hr, h0', _⟩ := h.rd hu hl
    subst e3
    subst e
    have := h.cell rfl hu
    rw [Nat.zero_add]
    exact ⟨a', c', by rw [this, e'], hr, h0'⟩
theorem Re.one {B : Nat} {w : World} {v : Value} {vs : List Value} {Ls : List (List Nat)} (h : Re B w v vs Ls) : ∀ u ∈ vs, u.oneCell' = true := fun u hu => by
  obtain ⟨i, hi⟩ := List.mem_iff_getElem?.1 hu
  obtain ⟨l, hl⟩ : ∃ l, Ls[i]? = some l := ⟨_, List.getElem?_eq_getElem (by have := (List.getElem?_eq_some_iff.1 hi).1; rw [h.len] at this; exact this)⟩
  obtain ⟨a, c, e⟩ := ownsRow_shape (h.own i u l hi hl)
  rw [e]
  rfl
/-- two lists of results, one behind the other -/
theorem Re.two {B C : Nat} {w : World} {v v' : Value} {vs us : List Value} {Ls Ms : List (List Nat)} (h : Re B w v vs Ls) (h' : Re C w v' us Ms) (hap : ∀ (i j : Nat) u t b, vs[i]? = some u → us[j]? = some t → u.ownBlock = some b → t.ownBlock ≠ some b) :
    (∀ (i : Nat) u l, (vs ++ us)[i]? = some u → (Ls ++ Ms)[i]? = some l → w.ownsRow 0 5 1 u l.length (B8 l)) ∧ (∀ (i j : Nat) u t b, (vs ++ us)[i]? = some u → (vs ++ us)[j]? = some t → i ≠ j → u.ownBlock = some b → t.ownBlock ≠ some b) := by
  refine ⟨fun i u l hu hl => ?_, fun i j u t b hu ht hij hb hb' => ?_⟩
  · by_cases hi : i < vs.length
    · rw [List.getElem?_append_left hi] at hu
      rw [List.getElem?_append_left (by rw [← h.len]; exact hi)] at hl
      exact ownsRow_base (h.own i u l hu hl) (Nat.zero_le _)
    · rw [List.getElem?_append_right (by omega)] at hu
      rw [List.getElem?_append_right (by rw [← h.len]; omega), ← h.len] at hl
      exact ownsRow_base (h'.own _ u l hu hl) (Nat.zero_le _)
  · by_cases hi : i < vs.length
    · rw [List.getElem?_append_left hi] at hu
      by_cases hj : j < vs.length
      · rw [List.getElem?_append_left hj] at ht
        exact h.ap i j u t b hu ht hij hb hb'
      · rw [List.getElem?_append_right (by omega)] at ht
        exact hap i _ u t b hu ht hb hb'
    · rw [List.getElem?_append_right (by omega)] at hu
      by_cases hj : j < vs.length
      · rw [List.getElem?_append_left hj] at ht
        exact hap j _ t u b ht hu hb' hb
      · rw [List.getElem?_append_right (by omega)] at ht
        exact h'.ap _ _ u t b hu ht (by omega) hb hb'
end Cw
end Go.Proofs.Ytgjiaajeionofaa
