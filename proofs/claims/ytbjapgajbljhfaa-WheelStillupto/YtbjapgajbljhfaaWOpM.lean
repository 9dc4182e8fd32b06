/- Package wheel: a slot that is opened: the rows meanwhile; what goes through its timers. -/
import Derived.Test.YtbjapgajbljhfaaWFst
import Derived.Test.YtbjapgajbljhfaaWLst
import Derived.OwnWalkIn
import Derived.TacticsInMore
import Derived.LoopNIn
import Derived.LoopIn
import Derived.Shelf.RegionOpen
namespace Go.Proofs.Ytbjapgajbljhfaa
namespace Wh
open Go.RowKit

theorem mem_opened {s : St} {l i : Nat} {done : List Nat} {l' i' z : Nat} : z ∈ opened s l i done l' i' ↔ (¬ (l' = l ∧ i' = i) ∧ z ∈ s.row l' i') ∨ (z ∈ done ∧ lev (bg s.now l i) (s.due z) = l' ∧ dg (s.due z) l' = i') := by
  unfold opened rowAt
  rw [List.mem_append]
  by_cases h : l' = l ∧ i' = i
  · rw [if_pos h]; simp [h]
  · rw [if_neg h]; simp [h]
theorem Ok.opened_rows {s : St} (h : Ok s) {l i : Nat} {pre rest : List Nat} (hrow : s.row l i = pre ++ rest) : Rows1 (opened s l i pre) (s.go (bg s.now l i)) ∧ ∀ id ∈ rest, ∀ l' i', id ∉ opened s l i pre l' i' := by
  have hr := h.rows1
  have hnd : (pre ++ rest).Nodup := hrow ▸ hr.nd l i
  obtain ⟨dx, dy, dxy⟩ := List.nodup_append.1 hnd
  have hpre : ∀ z ∈ pre, z ∈ s.row l i := fun z hz => by rw [hrow]; simp [hz]
  refine ⟨⟨fun l' i' z hz => ?_, fun l1 i1 l2 i2 z h1 h2 => ?_, fun l' i' => ?_⟩, fun id hid l' i' hm => ?_⟩
  · rcases mem_opened.1 hz with ⟨_, hz⟩ | ⟨hz, _⟩
    · exact (mem_row.1 hz).1
    · exact (mem_row.1 (hpre z hz)).1
  · rcases mem_opened.1 h1 with ⟨a1, b1⟩ | ⟨a1, b1, c1⟩ <;> rcases mem_opened.1 h2 with ⟨a2, b2⟩ | ⟨a2, b2, c2⟩
    · exact hr.dis _ _ _ _ z b1 b2
    · exact absurd (hr.dis _ _ _ _ z b1 (hpre z a2)) a1
    · exact absurd (hr.dis _ _ _ _ z b2 (hpre z a1)) a2
    · subst b1; subst b2; exact ⟨rfl, by omega⟩
  · unfold opened
    refine List.nodup_append.2 ⟨?_, dx.filter _, fun a ha b hb e => ?_⟩
    · split
      · exact List.nodup_nil
      · exact hr.nd l' i'
    · subst e
      have hb' := hpre a (List.mem_filter.1 hb).1
      by_cases hc : l' = l ∧ i' = i
      · rw [if_pos hc] at ha; cases ha
      · rw [if_neg hc] at ha; exact hc (hr.dis _ _ _ _ a ha hb')
  · have hr' : id ∈ s.row l i := by rw [hrow]; simp [hid]
    rcases mem_opened.1 hm with ⟨a, b⟩ | ⟨a, _⟩
    · exact a (hr.dis _ _ _ _ id b hr')
    · exact dxy id a id hid rfl
theorem opened_put (s : St) (l i : Nat) (pre : List Nat) (id : Nat) : put2 (opened s l i pre) (lev (bg s.now l i) (s.due id)) (dg (s.due id) (lev (bg s.now l i) (s.due id))) (opened s l i pre (lev (bg s.now l i) (s.due id)) (dg (s.due id) (lev (bg s.now l i) (s.due id))) ++ [id]) = opened s l i (pre ++ [id]) := by
  funext l' i'
  rw [opened_more]
  by_cases hc : l' = lev (bg s.now l i) (s.due id) ∧ i' = dg (s.due id) (lev (bg s.now l i) (s.due id))
  · obtain ⟨rfl, rfl⟩ := hc
    rw [put2_same, if_pos ⟨rfl, rfl⟩]
  · rw [put2_other _ _ hc, if_neg (fun ⟨a, b⟩ => hc ⟨a.symm, by subst a; exact b.symm⟩), List.append_nil]

/-- what holds between two timers that are laid out -/
structure OpI (tw te : TypeId) (S : Nat → Prop) (W2 : World) (P m : Nat) (at_ : Nat → Nat) (s : St) (l i : Nat) (pre : List Nat) (W : World) : Prop where
  inn : WIn tw te S W P m at_ (opened s l i pre) (s.go (bg s.now l i))
  keep : Keep (fun k => k = P ∨ ∃ id ∈ s.ids, k = at_ id) W2 W
  rest : ∃ rest, s.row l i = pre ++ rest ∧ ∀ xs ys id, rest = xs ++ id :: ys → ∃ b, Ent te W at_ s id b (ptr at_ ys.head?)


/-- it abides what is new, and what lies behind -/
theorem OpI.new {tw te : TypeId} {S : Nat → Prop} {W2 W W' : World} {P m : Nat} {at_ : Nat → Nat} {s : St} {l i : Nat} {pre : List Nat} (hok : Ok s) (h : OpI tw te S W2 P m at_ s l i pre W) {T : Nat → Prop} (hk : Keep T W W') (hT : ∀ k, T k → W2.heap.size ≤ k) (hm : m < W2.heap.size) (hP : P < W2.heap.size) (hE : ∀ id ∈ s.ids, at_ id < W2.heap.size) : OpI tw te S W2 P m at_ s l i pre W' := by
  obtain ⟨rest, hrow, hl⟩ := h.rest
  have nP : ¬ T P := fun e => by have := hT _ e; omega
  have nm : ¬ T m := fun e => by have := hT _ e; omega
  have nE : ∀ id ∈ s.ids, ¬ T (at_ id) := fun id hid e => by have := hT _ e; have := hE id hid; omega
  refine ⟨⟨?_, ?_, ?_, h.inn.inj, ?_, h.inn.own, h.inn.sp, h.inn.sm⟩, ?_, ⟨rest, hrow, fun xs ys id e => ?_⟩⟩
  · obtain ⟨cs, h1, h2⟩ := h.inn.wb
    exact ⟨cs, hk.blk h1 nP, h2⟩
  · intro l' i' xs ys id e
    exact (h.inn.lnk l' i' xs ys id e).keep hk (nE id ((hok.opened_rows hrow).1.sub l' i' id (by rw [e]; simp)))
  · obtain ⟨f, h1, h2⟩ := h.inn.mp
    exact ⟨f, h1.keep hk nm, h2⟩
  · intro id hid
    obtain ⟨cs, h1⟩ := h.inn.ent id hid
    exact ⟨cs, hk.blk h1 (nE id hid)⟩
  · exact h.keep.trans hk fun k e => .inr (hT k e)
  · obtain ⟨b, hb⟩ := hl xs ys id e
    exact ⟨b, hb.keep hk (nE id (mem_row.1 (show id ∈ s.row l i by rw [hrow, e]; simp)).1)⟩

/-- how many are still to come -/
def left (at_ : Nat → Nat) (row : List Nat) : Value → Nat
  | .pointer (some a) => row.length - row.findIdx fun id => at_ id == a.block
  | _ => 0
theorem left_at {at_ : Nat → Nat} {row pre ys : List Nat} {id : Nat} (h : row = pre ++ id :: ys) (hnd : row.Nodup) (hinj : ∀ a ∈ row, ∀ b ∈ row, at_ a = at_ b → a = b) : left at_ row (ptr at_ (some id)) = row.length - pre.length := by
  unfold left ptr
  simp only
  congr 1
  rw [h, List.findIdx_append]
  have hn : ∀ a ∈ pre, ¬ (at_ a == at_ id) = true := fun a ha e => by
    have e' := hinj a (by rw [h]; simp [ha]) id (by rw [h]; simp) (by simpa using e)
    rw [h] at hnd
    exact (List.nodup_append.1 hnd).2.2 a ha id (by simp) e'
  have h1 : pre.findIdx (fun x => at_ x == at_ id) = pre.length := List.findIdx_eq_length.2 fun a ha => by simpa using hn a ha
  rw [h1, if_neg (by omega), List.findIdx_cons]
  simp

theorem round_any {n k : Nat} {P : Program} {l : Nat} {f : FuncId} {tmps : Array Value} {assign body : Code} {w : World} {R : Ending → World → Prop} (h : RoundIn Fence.wide n P l f tmps assign body w R) : RoundIn Fence.wide k P l f tmps assign body w R := ⟨h.1, fun c cs _ => h.2 c cs (room_wide _)⟩

end Wh
end Go.Proofs.Ytbjapgajbljhfaa
