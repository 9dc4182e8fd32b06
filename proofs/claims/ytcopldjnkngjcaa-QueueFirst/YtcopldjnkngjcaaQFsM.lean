/- QueueFirst: the mathematics: what was pushed, and what has gone; next and struck. -/
import Derived.Test.YtcopldjnkngjcaaQInt
namespace Go.Proofs.Ytcopldjnkngjcaa
namespace Qu
open Go.RowKit

/-- what is left of what was pushed -/
def live : List Int → List Bool → Nat → List (Nat × Int)
  | p :: ps, g :: gs, n => if g then live ps gs (n + 1) else (n, p) :: live ps gs (n + 1)
  | _, _, _ => []
theorem live_snoc (k : Int) : ∀ (ps : List Int) (gs : List Bool) (n : Nat), gs.length = ps.length → live (ps ++ [k]) (gs ++ [false]) n = live ps gs n ++ [(n + ps.length, k)]
  | [], [], n, _ => by simp [live]
  | p :: ps, g :: gs, n, h => by
    have ih := live_snoc k ps gs (n + 1) (by simpa using h)
    cases g
    · simp only [List.cons_append, live, Bool.false_eq_true, if_false, ih, List.length_cons]
      rw [show n + 1 + ps.length = n + (ps.length + 1) by omega]
    · simp only [List.cons_append, live, if_true, ih, List.length_cons]
      rw [show n + 1 + ps.length = n + (ps.length + 1) by omega]
  | [], _ :: _, _, h => by simp at h
  | _ :: _, [], _, h => by simp at h
theorem live_length : ∀ (ps : List Int) (gs : List Bool) (n : Nat), (live ps gs n).length ≤ ps.length
  | p :: ps, g :: gs, n => by
    have := live_length ps gs (n + 1)
    cases g <;> simp [live] <;> omega
  | [], _, _ => by simp [live]
  | _ :: _, [], _ => by simp [live]
theorem live_nil : ∀ (ps : List Int) (gs : List Bool) (n : Nat), gs.length = ps.length → live ps gs n = [] → ∀ (j : Nat), j < gs.length → gs[j]? = some true
  | p :: ps, g :: gs, n, h, e, j, hj => by
    cases g
    · simp [live] at e
    · simp only [live, if_true] at e
      cases j with
      | zero => rfl
      | succ j => simpa using live_nil ps gs (n + 1) (by simpa using h) e j (by simpa using hj)
  | [], [], _, _, _, j, hj => by simp at hj
  | [], _ :: _, _, h, _, _, _ => by simp at h
theorem live_cons : ∀ (ps : List Int) (gs : List Bool) (n : Nat) {m : Nat} {k : Int} {r : List (Nat × Int)}, live ps gs n = (m, k) :: r → ∃ j, m = n + j ∧ gs[j]? = some false ∧ ps[j]? = some k ∧ (∀ i, i < j → gs[i]? = some true) ∧ live ps (gs.set j true) n = r
  | p :: ps, g :: gs, n, m, k, r, e => by
    cases g
    · simp only [live, Bool.false_eq_true, if_false] at e
      injection e with e1 e2
      injection e1 with e1 e3
      subst e1 e3
      exact ⟨0, rfl, rfl, rfl, fun i hi => by omega, by simp [live, e2]⟩
    · simp only [live, if_true] at e
      obtain ⟨j, h1, h2, h3, h4, h5⟩ := live_cons ps gs (n + 1) e
      refine ⟨j + 1, by omega, by simpa using h2, by simpa using h3, fun i hi => ?_, by simpa [live] using h5⟩
      cases i with
      | zero => rfl
      | succ i => simpa using h4 i (by omega)
  | [], _, _, _, _, _, e => by simp [live] at e
  | _ :: _, [], _, _, _, _, e => by simp [live] at e
theorem live_strike (k : Int) : ∀ (ps : List Int) (gs : List Bool) (n : Nat) {i : Nat}, idxL (live ps gs n) k = some i → ∃ j, ps[j]? = some k ∧ gs[j]? = some false ∧ (∀ i, i < j → ¬ (ps[i]? = some k ∧ gs[i]? = some false)) ∧ live ps (gs.set j true) n = (live ps gs n).eraseIdx i
  | p :: ps, g :: gs, n, i, e => by
    cases g
    · simp only [live, Bool.false_eq_true, if_false, idxL] at e
      by_cases hp : p = k
      · subst hp
        simp at e
        subst e
        exact ⟨0, rfl, rfl, fun i hi => by omega, by simp [live]⟩
      · simp only [hp, if_false] at e
        obtain ⟨i', hi', rfl⟩ := Option.map_eq_some_iff.1 e
        obtain ⟨j, h1, h2, h3, h4⟩ := live_strike k ps gs (n + 1) hi'
        refine ⟨j + 1, by simpa using h1, by simpa using h2, fun i hi => ?_, by simp [live, h4]⟩
        cases i with
        | zero => simp [hp]
        | succ i => simpa using h3 i (by omega)
    · simp only [live, if_true] at e ⊢
      obtain ⟨j, h1, h2, h3, h4⟩ := live_strike k ps gs (n + 1) e
      refine ⟨j + 1, by simpa using h1, by simpa using h2, fun i hi => ?_, by simp [live, h4]⟩
      cases i with
      | zero => simp
      | succ i => simpa using h3 i (by omega)
  | [], _, _, _, e => by simp [live, idxL] at e
  | _ :: _, [], _, _, e => by simp [live, idxL] at e

/-- a row of one's own, cell by cell -/
theorem own_cell {w : World} {B : Nat} {e : TypeId} {a : Option Addr} {n c : Nat} {xs : List Value} (h : w.ownsRow B e 1 (.slice a n c) n xs) {j : Nat} {x : Value} (hx : xs[j]? = some x) : ∃ g, a = some ⟨g, 0, none⟩ ∧ B ≤ g ∧ w.cell? ⟨g, j, none⟩ = some x ∧ w.frozen? ⟨g, j, none⟩ = false ∧ n ≤ c ∧ ∃ cur, w.heap[g]? = some (.cells cur e (0, 0)) := by
  rcases h.2 with ⟨e1, e2⟩ | ⟨g, cap, cur, e1, e2, e3, e4, e5, e6, e7⟩
  · have h0 := h.1
    rw [e2] at h0
    have hxs : xs = [] := List.eq_nil_of_length_eq_zero (by simpa using h0)
    rw [hxs] at hx
    simp at hx
  · injection e1 with e1 _ e8
    subst e8
    refine ⟨g, e1, e2, cell_blk e3 j ?_, frozen_blk e3 j, e4, cur, e3⟩
    rw [← e7, List.getElem?_take] at hx
    split at hx
    · simpa using hx
    · cases hx

set_option maxRecDepth 100000 in
set_option maxHeartbeats 4000000 in
/-- next, where one is left -/
theorem next_some {B : Nat} {a : Option Addr} {n c : Nat} {gs : List Bool} {last j : Nat} (w : World) (h : w.ownsRow B 4 1 (.slice a n c) n (gs.map Value.bool)) (hn : n ≤ 8796093022208) (hl : last ≤ j) (hj : gs[j]? = some false) (hb : ∀ i, last ≤ i → i < j → gs[i]? = some true) :
    Calls Try.prog 29 #[.slice a n c, .int .i64 (last : Nat)] w fun e w' => e = .returned (.int .i64 ((j : Int) + 1)) ∧ w' = w := by
  have hlen : n = gs.length := by have := h.1; simp at this; omega
  have hjn : j < n := by have := (List.getElem?_eq_some_iff.1 hj).1; omega
  clear hlen
  have H := hide h
  have HB := hide hb
  have HJ := hide hj
  clear h hb hj
  go_enter Try.func29, Try.ntmps29
  go_wp2
  go_loopw [5] (fun s5 wr => ∃ i : Nat, s5 = .int .i64 (i : Nat) ∧ last ≤ i ∧ i ≤ j ∧ Hid (wr = w)) (fun s5 _ => n - (intOf s5).toNat)
  case atStart => exact ⟨last, rfl, Nat.le_refl _, hl, hide rfl⟩
  case round =>
    obtain ⟨i, rfl, h1, h2, HW⟩ := hrel
    have hw := HW.out
    subst hw
    clear HW
    by_cases hij : i < j
    · obtain ⟨g, rfl, _, e1, _, e2, _⟩ := own_cell H.out (j := i) (x := .bool true) (by rw [List.getElem?_map, HB.out i h1 hij]; rfl)
      have hin : i < n := by omega
      go_wp2
      go_roundw
      · exact ⟨i + 1, rfl, by omega, by omega, by first | exact hide rfl | exact hide trivial⟩
      · show n - ((i : Int) + 1).toNat < n - (i : Int).toNat
        omega
    · obtain rfl : i = j := by omega
      obtain ⟨g, rfl, _, e1, _, e2, _⟩ := own_cell H.out (j := i) (x := .bool false) (by rw [List.getElem?_map, HJ.out]; rfl)
      go_wp2
      go_ret
      exact ⟨rfl, rfl⟩

set_option maxRecDepth 100000 in
set_option maxHeartbeats 4000000 in
/-- next, where none is left -/
theorem next_none {B : Nat} {a : Option Addr} {n c : Nat} {gs : List Bool} {last : Nat} (w : World) (h : w.ownsRow B 4 1 (.slice a n c) n (gs.map Value.bool)) (hn : n ≤ 8796093022208) (hl : last ≤ n) (hb : ∀ i, last ≤ i → i < n → gs[i]? = some true) :
    Calls Try.prog 29 #[.slice a n c, .int .i64 (last : Nat)] w fun e w' => e = .returned (.int .i64 0) ∧ w' = w := by
  have H := hide h
  have HB := hide hb
  clear h hb
  go_enter Try.func29, Try.ntmps29
  go_wp2
  go_loopw [5] (fun s5 wr => ∃ i : Nat, s5 = .int .i64 (i : Nat) ∧ last ≤ i ∧ i ≤ n ∧ Hid (wr = w)) (fun s5 _ => n - (intOf s5).toNat)
  case atStart => exact ⟨last, rfl, Nat.le_refl _, hl, hide rfl⟩
  case round =>
    obtain ⟨i, rfl, h1, h2, HW⟩ := hrel
    have hw := HW.out
    subst hw
    clear HW
    by_cases hin : i < n
    · obtain ⟨g, rfl, _, e1, _, e2, _⟩ := own_cell H.out (j := i) (x := .bool true) (by rw [List.getElem?_map, HB.out i h1 hin]; rfl)
      go_wp2
      go_roundw
      · exact ⟨i + 1, rfl, by omega, by omega, by first | exact hide rfl | exact hide trivial⟩
      · show n - ((i : Int) + 1).toNat < n - (i : Int).toNat
        omega
    · obtain rfl : i = n := by omega
      go_wp2
      go_ret
      exact ⟨rfl, rfl⟩

/-- a row of one's own, changed at one place -/
theorem own_set {w : World} {B : Nat} {e : TypeId} {g n c : Nat} {xs : List Value} (h : w.ownsRow B e 1 (.slice (some ⟨g, 0, none⟩) n c) n xs) (j : Nat) (x : Value) : (w.setCell ⟨g, j, none⟩ x).ownsRow B e 1 (.slice (some ⟨g, 0, none⟩) n c) n (xs.set j x) := by
  rcases h.2 with ⟨e1, e2⟩ | ⟨g', cap, cur, e1, e2, e3, e4, e5, e6, e7⟩
  · cases e1
  · injection e1 with e1 _ e8
    injection e1 with e1
    injection e1 with e1
    subst e1 e8
    refine ⟨by rw [List.length_set]; exact h.1, .inr ⟨g, c, cur.setIfInBounds j x, rfl, e2, set_blk e3 j x, e4, e5, by simp [e6], ?_⟩⟩
    rw [Array.toList_setIfInBounds, List.take_set, e7]

set_option maxRecDepth 100000 in
set_option maxHeartbeats 4000000 in
/-- struck, where the thing is there -/
theorem struck_any {B : Nat} {a b : Option Addr} {n c m d : Nat} {ps : List Int} {gs : List Bool} {k : Int} {j : Nat} (w : World) (h1 : w.ownsRow B 3 1 (.slice a n c) n (ps.map (Value.int .i64))) (h2 : w.ownsRow B 4 1 (.slice b m d) m (gs.map Value.bool)) (hn : n ≤ 8796093022208) (hlen : gs.length = ps.length)
    (e1 : ps[j]? = some k) (e2 : gs[j]? = some false) (e3 : ∀ i, i < j → ¬ (ps[i]? = some k ∧ gs[i]? = some false)) :
    Calls Try.prog 30 #[.slice a n c, .slice b m d, .int .i64 k] w fun e w' => ∃ g, b = some ⟨g, 0, none⟩ ∧ e = .returned (.bool true) ∧ w' = w.setCell ⟨g, j, none⟩ (.bool true) := by
  have hn1 : n = ps.length := by have := h1.1; simp at this; omega
  have hm1 : m = gs.length := by have := h2.1; simp at this; omega
  have hjn : j < n := by have := (List.getElem?_eq_some_iff.1 e1).1; omega
  obtain rfl : m = n := by omega
  have HLn := hide (And.intro hn1 hm1)
  clear hn1 hm1 hlen
  have H1 := hide h1
  have H2 := hide h2
  have E1 := hide e1
  have E2 := hide e2
  have E3 := hide e3
  clear h1 h2 e1 e2 e3
  go_enter Try.func30, Try.ntmps30
  go_wp2
  go_loopw [7] (fun s7 wr => ∃ i : Nat, s7 = .int .i64 (i : Nat) ∧ i ≤ j ∧ Hid (wr = w)) (fun s7 _ => m - (intOf s7).toNat)
  case atStart => exact ⟨0, rfl, Nat.zero_le _, hide rfl⟩
  case round =>
    obtain ⟨i, rfl, hi, HW⟩ := hrel
    have hw := HW.out
    subst hw
    clear HW
    have hin : i < m := by omega
    obtain ⟨p, hp⟩ : ∃ p, ps[i]? = some p := ⟨ps[i]'(by have := HLn.out.1; omega), by simp⟩
    obtain ⟨q, hq⟩ : ∃ q, gs[i]? = some q := ⟨gs[i]'(by have := HLn.out.2; omega), by simp⟩
    obtain ⟨g, rfl, _, x1, _, x2, _⟩ := own_cell H1.out (j := i) (x := .int .i64 p) (by rw [List.getElem?_map, hp]; rfl)
    obtain ⟨g', rfl, _, y1, y2, y3, _⟩ := own_cell H2.out (j := i) (x := .bool q) (by rw [List.getElem?_map, hq]; rfl)
    by_cases hij : i < j
    · have hno := E3.out i hij
      rw [hp, hq] at hno
      simp only [Option.some.injEq] at hno
      clear hp hq
      by_cases hpk : p = k
      · have hqt : q = true := by cases q <;> simp_all
        subst hqt hpk
        go_wp2
        go_roundw
        · exact ⟨i + 1, rfl, by omega, by first | exact hide rfl | exact hide trivial⟩
        · show m - ((i : Int) + 1).toNat < m - (i : Int).toNat
          omega
      · clear hno
        go_wp2
        go_roundw
        · exact ⟨i + 1, rfl, by omega, by first | exact hide rfl | exact hide trivial⟩
        · show m - ((i : Int) + 1).toNat < m - (i : Int).toNat
          omega
    · obtain rfl : i = j := by omega
      obtain rfl : p = k := by have := E1.out; rw [hp] at this; simpa using this
      obtain rfl : q = false := by have := E2.out; rw [hq] at this; simpa using this
      clear hp hq
      go_wp2
      go_ret
      exact ⟨g', rfl, rfl, rfl⟩

end Qu
end Go.Proofs.Ytcopldjnkngjcaa
