/- Package wheel: Advance: what holds between two timers that come. -/
import Derived.Test.YtbjapgajbljhfaaWMnM
import Derived.RangeFuncBox
namespace Go.Proofs.Ytbjapgajbljhfaa
namespace Wh
open Go.RowKit

/-- the cells of timers in a list -/
def cells3 (s : St) (l : List Nat) : List Value := l.flatMap fun id => [.int .i64 (id : Nat), .int .i64 (s.due id : Nat), s.what id]
theorem cells3_snoc (s : St) (l : List Nat) (id : Nat) : cells3 s (l ++ [id]) = cells3 s l ++ [.int .i64 (id : Nat), .int .i64 (s.due id : Nat), s.what id] := by simp [cells3]
theorem cells3_length (s : St) (l : List Nat) : (cells3 s l).length = l.length * 3 := by
  induction l with
  | nil => rfl
  | cons a t ih => simp [cells3] at ih ⊢; omega
theorem cells3_at (s : St) : ∀ (l : List Nat) (j : Nat), j < l.length → (cells3 s l)[3 * j]? = some (.int .i64 ((l.getD j 0 : Nat) : Int)) ∧ (cells3 s l)[3 * j + 1]? = some (.int .i64 ((s.due (l.getD j 0) : Nat) : Int)) ∧ (cells3 s l)[3 * j + 2]? = some (s.what (l.getD j 0))
  | [], j, h => by simp at h
  | a :: t, 0, _ => ⟨rfl, rfl, rfl⟩
  | a :: t, j + 1, h => by
    have ih := cells3_at s t j (by simpa using h)
    have e : cells3 s (a :: t) = [.int .i64 (a : Nat), .int .i64 (s.due a : Nat), s.what a] ++ cells3 s t := by simp [cells3]
    rw [e]
    refine ⟨?_, ?_, ?_⟩
    · rw [List.getElem?_append_right (by simp; omega)]; simpa [show 3 * (j + 1) - 3 = 3 * j by omega] using ih.1
    · rw [List.getElem?_append_right (by simp; omega)]; simpa [show 3 * (j + 1) + 1 - 3 = 3 * j + 1 by omega] using ih.2.1
    · rw [List.getElem?_append_right (by simp; omega)]; simpa [show 3 * (j + 1) + 2 - 3 = 3 * j + 2 by omega] using ih.2.2

/-- how many timers a wheel in memory has -/
def numOf : Result Value → Nat
  | .ok v _ => (intOf v).toNat
  | _ => 0
def mapOf : Option Value → Nat
  | some (.map (some m)) => m
  | _ => 0
theorem lenOf_ex (tw te t e : TypeId) (ht : Try.prog.underlying t = some (.map 3 e)) (P : Nat) : ∃ f : World → Nat, ∀ (S : Nat → Prop) (w : World) (s : St), WAt tw te S w P s → f w = s.ids.length := by
  refine ⟨fun w => numOf ((Builtin.len_ #[t] 0 #[.map (some (mapOf (w.cell? ⟨P, 2, none⟩)))]).run Try.prog w), fun S w s h => ?_⟩
  obtain ⟨h0, m, at_, h⟩ := h
  simp only
  rw [h.cmap, show mapOf (some (.map (some m))) = m from rfl, h.len h0 ht 0]
  simp [numOf, intOf]

theorem Mid.lt {s m : St} {to : Nat} {out : List Nat} (h : Mid s to out m) (hok : Ok s) : out.length + m.ids.length = s.ids.length := by
  have hnd : s.ids.Nodup := sorted_nodup hok.srt
  have ho : out.Nodup := h.ord.imp fun {a b} hab e => by
    subst e
    rcases hab with h | ⟨_, h⟩ <;> omega
  have h1 : (s.ids.filter fun id => out.contains id).length = out.length := by
    refine ((List.perm_ext_iff_of_nodup (hnd.filter _) ho).2 fun a => ?_).length_eq
    simp only [List.mem_filter, List.contains_iff_mem]
    exact ⟨fun h => h.2, fun ha => ⟨(h.due a ha).1, ha⟩⟩
  have h2 : ∀ l : List Nat, (l.filter fun id => out.contains id).length + (l.filter fun id => !out.contains id).length = l.length := by
    intro l
    induction l with
    | nil => rfl
    | cons a t ih =>
      by_cases hc : out.contains a = true
      · have e1 : (a :: t).filter (fun id => out.contains id) = a :: t.filter (fun id => out.contains id) := List.filter_cons_of_pos hc
        have e2 : (a :: t).filter (fun id => !out.contains id) = t.filter (fun id => !out.contains id) := List.filter_cons_of_neg (by rw [hc]; decide)
        rw [e1, e2]
        simp only [List.length_cons]
        omega
      · have e1 : (a :: t).filter (fun id => out.contains id) = t.filter (fun id => out.contains id) := List.filter_cons_of_neg hc
        have e2 : (a :: t).filter (fun id => !out.contains id) = a :: t.filter (fun id => !out.contains id) := List.filter_cons_of_pos (by simp only [Bool.not_eq_true] at hc; rw [hc]; rfl)
        rw [e1, e2]
        simp only [List.length_cons]
        omega
  have h3 := h2 s.ids
  rw [h1, ← h.ids] at h3
  exact h3

/-- between two timers: the wheel, the list so far -/
structure AdI (tw te ts tt : TypeId) (S0 : Nat → Prop) (W2 : World) (P Ba : Nat) (s : St) (to : Nat) (out pre : List Nat) (m_ : St) (v : Value) (W : World) : Prop where
  mid : Mid s to out m_
  at_ : WAt tw te S0 W P m_
  box : W.heap[Ba]? = some (.cells #[v] ts (0, 0))
  row : W.ownsRow (W2.heap.size + 2) tt 3 v pre.length (cells3 s pre)
  keep : Keep (fun k => S0 k ∨ k = Ba) W2 W

theorem AdI.new {tw te ts tt : TypeId} {S0 : Nat → Prop} {W2 W W' : World} {P Ba : Nat} {s : St} {to : Nat} {out pre : List Nat} {m_ : St} {v : Value} (h : AdI tw te ts tt S0 W2 P Ba s to out pre m_ v W) (hk : Keep (fun _ => False) W W') : AdI tw te ts tt S0 W2 P Ba s to out pre m_ v W' :=
  ⟨h.mid, h.at_.new hk, hk.blk h.box fun f => f, ⟨h.row.1, h.row.2.imp (fun x => x) fun ⟨g, cap, cur, h1, h2, h3, h4⟩ => ⟨g, cap, cur, h1, h2, hk.blk h3 fun f => f, h4⟩⟩, h.keep.more (hk.mono fun _ e => e.elim)⟩
/-- the loop's own block is turned -/
theorem AdI.put {tw te ts tt : TypeId} {S0 : Nat → Prop} {W2 W : World} {P Ba : Nat} {s : St} {to : Nat} {out pre : List Nat} {m_ : St} {v : Value} (h : AdI tw te ts tt S0 W2 P Ba s to out pre m_ v W) (hS : ∀ k, S0 k → k < W2.heap.size) (hBa : Ba < W2.heap.size) (o : Obj) : AdI tw te ts tt S0 W2 P Ba s to out pre m_ v (W.putObj (W2.heap.size + 1) o) := by
  have hk := keep_put W (W2.heap.size + 1) o
  refine ⟨h.mid, h.at_.stay hk (fun k _ e1 e2 => by have := hS k e1; omega), hk.blk h.box (by show ¬ (Ba = W2.heap.size + 1); omega), ⟨h.row.1, h.row.2.imp (fun x => x) fun ⟨g, cap, cur, h1, h2, h3, h4⟩ => ⟨g, cap, cur, h1, h2, hk.blk h3 (by show ¬ (g = W2.heap.size + 1); omega), h4⟩⟩, h.keep.trans hk fun k e => .inr (by omega)⟩

/-- the wheel goes on, the list stays -/
theorem AdI.step {tw te ts tt : TypeId} {S0 : Nat → Prop} {W2 W W' : World} {P Ba : Nat} {s : St} {to : Nat} {out pre : List Nat} {m_ : St} {v : Value} (h : AdI tw te ts tt S0 W2 P Ba s to out pre m_ v W) (hk : Keep S0 W W') (hS : ∀ k, S0 k → k < W2.heap.size) (hBa : ¬ S0 Ba) : W'.heap[Ba]? = some (.cells #[v] ts (0, 0)) ∧ W'.ownsRow (W2.heap.size + 2) tt 3 v pre.length (cells3 s pre) ∧ Keep (fun k => S0 k ∨ k = Ba) W2 W' :=
  ⟨hk.blk h.box hBa, ⟨h.row.1, h.row.2.imp (fun x => x) fun ⟨g, cap, cur, h1, h2, h3, h4⟩ => ⟨g, cap, cur, h1, h2, hk.blk h3 (fun e => by have := hS g e; omega), h4⟩⟩, h.keep.more (hk.mono fun _ e => .inl e)⟩

end Wh
end Go.Proofs.Ytbjapgajbljhfaa
