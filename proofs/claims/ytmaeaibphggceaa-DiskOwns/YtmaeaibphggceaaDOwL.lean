/- DiskOwns: steps lead to one state; lists of bytes, of numbers, that are their owner's alone. -/
import Derived.Test.YtmaeaibphggceaaDObW
import Derived.Test.YtmaeaibphggceaaDOiW
import Derived.Test.YtmaeaibphggceaaDKpM
import Derived.Test.YtmaeaibphggceaaDScr
namespace Go.Proofs.Ytmaeaibphggceaa
open Go.RowKit Go.Lib

theorem Crash.same {s t t' : St} {z : List Int} (h : Crash s z t) (h' : Crash s z t') : t = t' := by
  have e := h.uniq h'
  obtain ⟨c, u, th, sf, lf, dn⟩ := t
  obtain ⟨c', u', th', sf', lf', dn'⟩ := t'
  have e : th = th' := e
  subst e
  have h1 := h.safe
  have h1' := h'.safe
  have h2 := h.cap.trans h'.cap.symm
  have h3 := h.used.trans h'.used.symm
  have h4 := h.left.trans h'.left.symm
  have h5 := h.down.trans h'.down.symm
  simp only at h1 h1' h2 h3 h4 h5
  subst h1 h1' h2 h3 h4 h5
  rfl
theorem StepTo.uniq {s t t' : St} {q : Stp} {c c' : Int} (h : StepTo s q c t) (h' : StepTo s q c' t') : c = c' ∧ t = t' := by
  have hp := pickV_in q.what 12 (by decide)
  obtain ⟨h0, h1, h2, h3, h4, h5, h6, h7, h8, h9, h10, h11⟩ := h
  obtain ⟨g0, g1, g2, g3, g4, g5, g6, g7, g8, g9, g10, g11⟩ := h'
  have pr : ∀ {r : Int × St}, (c, t) = r → (c', t') = r → c = c' ∧ t = t' := fun e e' => by
    have := e.trans e'.symm
    injection this with a b
    exact ⟨a, b⟩
  by_cases e0 : pickV q.what 12 = 0
  · exact pr (h0 e0) (g0 e0)
  by_cases e1 : pickV q.what 12 = 1
  · exact pr (h1 e1) (g1 e1)
  by_cases e2 : pickV q.what 12 = 2
  · exact pr (h2 e2) (g2 e2)
  by_cases e3 : pickV q.what 12 = 3
  · exact pr (h3 e3) (g3 e3)
  by_cases e4 : pickV q.what 12 = 4
  · exact pr (h4 e4) (g4 e4)
  by_cases e5 : pickV q.what 12 = 5
  · exact ⟨(h5 e5).1.trans (g5 e5).1.symm, (h5 e5).2.trans (g5 e5).2.symm⟩
  by_cases e6 : pickV q.what 12 = 6
  · exact ⟨(h6 e6).1.trans (g6 e6).1.symm, (h6 e6).2.trans (g6 e6).2.symm⟩
  by_cases e7 : pickV q.what 12 = 7
  · exact pr (h7 e7) (g7 e7)
  by_cases e8 : pickV q.what 12 = 8
  · exact ⟨(h8 e8).1.trans (g8 e8).1.symm, (h8 e8).2.trans (g8 e8).2.symm⟩
  by_cases e9 : pickV q.what 12 = 9
  · exact pr (h9 e9) (g9 e9)
  by_cases e10 : pickV q.what 12 = 10
  · exact ⟨(h10 e10).1.trans (g10 e10).1.symm, (h10 e10).2.trans (g10 e10).2.symm⟩
  · have e11 : pickV q.what 12 = 11 := by omega
    exact ⟨(h11 e11).1.trans (g11 e11).1.symm, (h11 e11).2.same (g11 e11).2⟩
/-- a step by what it says, wherever its lists lie -/
def Stp.like (q r : Stp) : Prop := q.which = r.which ∧ q.copy = r.copy ∧ q.what = r.what ∧ q.seg = r.seg ∧ q.n = r.n ∧ q.mask = r.mask ∧ q.b = r.b ∧ q.fate = r.fate
theorem StepTo.like {s t : St} {q r : Stp} {c : Int} (h : StepTo s q c t) (e : q.like r) : StepTo s r c t := by
  obtain ⟨_, _, e1, e2, e3, e4, e5, e6⟩ := e
  unfold StepTo Stp.thick at *
  rw [← e1, ← e2, ← e3, ← e4, ← e5, ← e6]
  exact h
def Zv (l : List Int) : List Value := l.map (Value.int .i64)
set_option maxRecDepth 100000 in
theorem Ob.own_zero (a : Option Addr) (c : Nat) (w : World) : Calls Try.prog 15 #[.slice a 0 c] w fun e w' => e = .returned (.bool true) ∧ w' = w := by
  go_enter Try.func15, Try.ntmps15
  go_wp2_with fail
  go_loopw [3] (fun iv wx => iv = .int .i64 0 ∧ wx = w) (fun _ _ => 0)
  case atStart => exact ⟨rfl, rfl⟩
  case round => as_aux_lemma =>
    obtain ⟨rfl, rfl⟩ := hrel
    go_wp2_with fail
    go_loopw [5, 6] (fun gv iv wx => gv = .slice none 0 0 ∧ iv = .int .i64 0 ∧ wx = wr) (fun _ _ _ => 0)
    case atStart => exact ⟨rfl, rfl, rfl⟩
    case round => as_aux_lemma =>
      obtain ⟨rfl, rfl, hw⟩ := hrel
      subst hw
      go_wp2_with fail
      go_loopw [9] (fun iv wx => iv = .int .i64 0 ∧ wx = wr) (fun _ _ => 0)
      case atStart => exact ⟨rfl, rfl⟩
      case round => as_aux_lemma =>
        obtain ⟨rfl, hw⟩ := hrel
        subst hw
        go_wp2_with fail
        go_ret
        exact ⟨rfl, rfl⟩
set_option maxRecDepth 100000 in
theorem Oi.own_zero (a : Option Addr) (c : Nat) (w : World) : Calls Try.prog 14 #[.slice a 0 c] w fun e w' => e = .returned (.bool true) ∧ w' = w := by
  go_enter Try.func14, Try.ntmps14
  go_wp2_with fail
  go_loopw [3] (fun iv wx => iv = .int .i64 0 ∧ wx = w) (fun _ _ => 0)
  case atStart => exact ⟨rfl, rfl⟩
  case round => as_aux_lemma =>
    obtain ⟨rfl, rfl⟩ := hrel
    go_wp2_with fail
    go_loopw [5, 6] (fun gv iv wx => gv = .slice none 0 0 ∧ iv = .int .i64 0 ∧ wx = wr) (fun _ _ _ => 0)
    case atStart => exact ⟨rfl, rfl, rfl⟩
    case round => as_aux_lemma =>
      obtain ⟨rfl, rfl, hw⟩ := hrel
      subst hw
      go_wp2_with fail
      go_loopw [9] (fun iv wx => iv = .int .i64 0 ∧ wx = wr) (fun _ _ => 0)
      case atStart => exact ⟨rfl, rfl⟩
      case round => as_aux_lemma =>
        obtain ⟨rfl, hw⟩ := hrel
        subst hw
        go_wp2_with fail
        go_ret
        exact ⟨rfl, rfl⟩
/-- the blocks of a list's values -/
def Sv (vs : List Value) (k : Nat) : Prop := ∃ (i : Nat) (v : Value), vs[i]? = some v ∧ v.ownBlock = some k
theorem bytes_list {B C : Nat} {v : Value} {vs : List Value} {Ls : List (List Nat)} (w : World) (h : w.ownsRow B 26 1 v Ls.length vs) (hlen : vs.length = Ls.length) (hown : ∀ (i : Nat) u l, vs[i]? = some u → Ls[i]? = some l → w.ownsRow C 5 1 u l.length (B8 l)) (hap : ∀ (i j : Nat) u t b, vs[i]? = some u → vs[j]? = some t → i ≠ j → u.ownBlock = some b → t.ownBlock ≠ some b) (hl : ∀ l ∈ Ls, l.length ≤ 1099511627776) (hn : Ls.length ≤ 4398046511104) :
    Calls Try.prog 15 #[v] w fun e w' => e = .returned (.bool true) ∧ Keep (Sv vs) w w' := by
  by_cases h0 : Ls.length = 0
  · obtain ⟨a, c, e⟩ := ownsRow_shape h
    subst e
    rw [h0]
    exact (Ob.own_zero a c w).mono fun _ _ h => ⟨h.1, by rw [h.2]; exact Keep.refl _ _⟩
  · obtain ⟨g, cap, e⟩ := Ob.own_form h (by omega)
    subst e
    have hsh : ∀ j, j < Ls.length → ∃ a c, vs[j]? = some (.slice a (Ls[j]?.getD []).length c) ∧ w.ownsRow 0 5 1 (.slice a (Ls[j]?.getD []).length c) (Ls[j]?.getD []).length (B8 (Ls[j]?.getD [])) := fun j hj => by
      have e1 : Ls[j]? = some Ls[j] := List.getElem?_eq_getElem hj
      have hj' : j < vs.length := by rw [hlen]; exact hj
      have e2 : vs[j]? = some vs[j] := List.getElem?_eq_getElem hj'
      have ho := ownsRow_base (hown j _ _ e2 e1) (Nat.zero_le _)
      obtain ⟨a, c, e⟩ := ownsRow_shape ho
      rw [e1, Option.getD_some]
      exact ⟨a, c, by rw [e2, e], by rw [← e]; exact ho⟩
    obtain ⟨A, hA⟩ : ∃ A : Nat → Option Addr × Nat, ∀ j, j < Ls.length → vs[j]? = some (.slice (A j).1 (Ls[j]?.getD []).length (A j).2) ∧ w.ownsRow 0 5 1 (.slice (A j).1 (Ls[j]?.getD []).length (A j).2) (Ls[j]?.getD []).length (B8 (Ls[j]?.getD [])) := by
      refine ⟨fun j => if hj : j < Ls.length then (Classical.choose (hsh j hj), Classical.choose (Classical.choose_spec (hsh j hj))) else (none, 0), fun j hj => ?_⟩
      dsimp only
      rw [dif_pos hj]
      exact Classical.choose_spec (Classical.choose_spec (hsh j hj))
    have hrow : (List.range Ls.length).map (fun j => Value.slice (A j).1 (Ls[j]?.getD []).length (A j).2) = vs := by
      apply List.ext_getElem?
      intro j
      by_cases hj : j < Ls.length
      · rw [List.getElem?_map, List.getElem?_range hj, (hA j hj).1]; rfl
      · rw [List.getElem?_eq_none (by simp; omega), List.getElem?_eq_none (by rw [hlen]; omega)]
    refine (Ob.own_N Ls.length (by omega) hn g cap (fun j => (A j).1) (fun j => (Ls[j]?.getD []).length) (fun j => (A j).2) (fun j => B8 (Ls[j]?.getD [])) B w ⟨fun j hj => (hA j hj).2, ?_⟩ (fun j k b hj hk hjk e1 e2 => ?_) fun j hj => ?_).mono fun _ w' hh => ⟨hh.1, ?_⟩
    · show World.ownsRow _ _ _ _ _ _ ((List.range Ls.length).map (fun j => Value.slice (A j).1 (Ls[j]?.getD []).length (A j).2))
      rw [hrow]
      exact h
    · exact hap j k _ _ b (hA j hj).1 (hA k hk).1 hjk e1 e2
    · show (Ls[j]?.getD []).length ≤ _
      rw [List.getElem?_eq_getElem hj, Option.getD_some]
      exact hl _ (List.getElem_mem hj)
    · exact hh.2.mono fun k ⟨j, hj, e⟩ => ⟨j, _, (hA j hj).1, e⟩
theorem ints_list {B C : Nat} {v : Value} {vs : List Value} {Ls : List (List Int)} (w : World) (h : w.ownsRow B 27 1 v Ls.length vs) (hlen : vs.length = Ls.length) (hown : ∀ (i : Nat) u l, vs[i]? = some u → Ls[i]? = some l → w.ownsRow C 3 1 u l.length (Zv l)) (hap : ∀ (i j : Nat) u t b, vs[i]? = some u → vs[j]? = some t → i ≠ j → u.ownBlock = some b → t.ownBlock ≠ some b) (hl : ∀ l ∈ Ls, l.length ≤ 1099511627776) (hn : Ls.length ≤ 4398046511104) :
    Calls Try.prog 14 #[v] w fun e w' => e = .returned (.bool true) ∧ Keep (Sv vs) w w' := by
  by_cases h0 : Ls.length = 0
  · obtain ⟨a, c, e⟩ := ownsRow_shape h
    subst e
    rw [h0]
    exact (Oi.own_zero a c w).mono fun _ _ h => ⟨h.1, by rw [h.2]; exact Keep.refl _ _⟩
  · obtain ⟨g, cap, e⟩ := Ob.own_form h (by omega)
    subst e
    have hsh : ∀ j, j < Ls.length → ∃ a c, vs[j]? = some (.slice a (Ls[j]?.getD []).length c) ∧ w.ownsRow 0 3 1 (.slice a (Ls[j]?.getD []).length c) (Ls[j]?.getD []).length (Zv (Ls[j]?.getD [])) := fun j hj => by
      have e1 : Ls[j]? = some Ls[j] := List.getElem?_eq_getElem hj
      have hj' : j < vs.length := by rw [hlen]; exact hj
      have e2 : vs[j]? = some vs[j] := List.getElem?_eq_getElem hj'
      have ho := ownsRow_base (hown j _ _ e2 e1) (Nat.zero_le _)
      obtain ⟨a, c, e⟩ := ownsRow_shape ho
      rw [e1, Option.getD_some]
      exact ⟨a, c, by rw [e2, e], by rw [← e]; exact ho⟩
    obtain ⟨A, hA⟩ : ∃ A : Nat → Option Addr × Nat, ∀ j, j < Ls.length → vs[j]? = some (.slice (A j).1 (Ls[j]?.getD []).length (A j).2) ∧ w.ownsRow 0 3 1 (.slice (A j).1 (Ls[j]?.getD []).length (A j).2) (Ls[j]?.getD []).length (Zv (Ls[j]?.getD [])) := by
      refine ⟨fun j => if hj : j < Ls.length then (Classical.choose (hsh j hj), Classical.choose (Classical.choose_spec (hsh j hj))) else (none, 0), fun j hj => ?_⟩
      dsimp only
      rw [dif_pos hj]
      exact Classical.choose_spec (Classical.choose_spec (hsh j hj))
    have hrow : (List.range Ls.length).map (fun j => Value.slice (A j).1 (Ls[j]?.getD []).length (A j).2) = vs := by
      apply List.ext_getElem?
      intro j
      by_cases hj : j < Ls.length
      · rw [List.getElem?_map, List.getElem?_range hj, (hA j hj).1]; rfl
      · rw [List.getElem?_eq_none (by simp; omega), List.getElem?_eq_none (by rw [hlen]; omega)]
    refine (Oi.own_N Ls.length (by omega) hn g cap (fun j => (A j).1) (fun j => (Ls[j]?.getD []).length) (fun j => (A j).2) (fun j => Zv (Ls[j]?.getD [])) B w ⟨fun j hj => (hA j hj).2, ?_⟩ (fun j k b hj hk hjk e1 e2 => ?_) fun j hj => ?_).mono fun _ w' hh => ⟨hh.1, ?_⟩
    · show World.ownsRow _ _ _ _ _ _ ((List.range Ls.length).map (fun j => Value.slice (A j).1 (Ls[j]?.getD []).length (A j).2))
      rw [hrow]
      exact h
    · exact hap j k _ _ b (hA j hj).1 (hA k hk).1 hjk e1 e2
    · show (Ls[j]?.getD []).length ≤ _
      rw [List.getElem?_eq_getElem hj, Option.getD_some]
      exact hl _ (List.getElem_mem hj)
    · exact hh.2.mono fun k ⟨j, hj, e⟩ => ⟨j, _, (hA j hj).1, e⟩
end Go.Proofs.Ytmaeaibphggceaa
