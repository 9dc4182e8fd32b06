/- Package disk: whose memory: a disk told apart from new memory; rows that live on. -/
import Derived.Test.YtilpidioengnbaaDNew
namespace Go.Proofs.Ytilpidioengnbaa
open Go.RowKit Go.Lib

/-- a disk is told apart from memory that is new -/
theorem DAt.part {S : Nat → Prop} {w w1 : World} {p : Nat} {s : St} (h : DAt S w p s) (hk : Keep (fun _ => False) w w1) : DAt (fun i => S i ∧ (i < w.heap.size ∨ w1.heap.size ≤ i)) w1 p s := by
  obtain ⟨bt, bo, val, h⟩ := h
  have h1 := h.stay hk fun _ _ _ f => f
  exact ⟨bt, bo, val, h1.blk, h1.mt, h1.mo, h1.ne, h1.row, h1.one, fun k g a b => ⟨h.own k g a b, .inl (by obtain ⟨l, hl⟩ := Option.ne_none_iff_exists'.1 a; exact ((h.row k l hl).1.lt g b).2)⟩, ⟨h.sp, .inl (Array.getElem?_eq_some_iff.1 h.blk).1⟩, ⟨h.st, .inl h.mt.lt⟩, ⟨h.so, .inl h.mo.lt⟩⟩

theorem ownsRow_keep {w w' : World} {base : Nat} {e : TypeId} {size : Nat} {v : Value} {n : Nat} {xs : List Value} {T : Nat → Prop} (h : w.ownsRow base e size v n xs) (hk : Keep T w w') (hT : ∀ g, v.ownBlock = some g → ¬ T g) : w'.ownsRow base e size v n xs := by
  refine ⟨h.1, ?_⟩
  rcases h.2 with h1 | ⟨g, cap, cur, h1, h0, h2, h3⟩
  · exact .inl h1
  · exact .inr ⟨g, cap, cur, h1, h0, hk.blk h2 (hT g (by rw [h1]; rfl)), h3⟩

theorem DAt.low {S : Nat → Prop} {w : World} {p : Nat} {s : St} (h : DAt S w p s) : DAt (fun i => S i ∧ i < w.heap.size) w p s := by
  obtain ⟨bt, bo, val, h⟩ := h
  exact ⟨bt, bo, val, h.blk, h.mt, h.mo, h.ne, h.row, h.one, fun k g a b => ⟨h.own k g a b, (by obtain ⟨l, hl⟩ := Option.ne_none_iff_exists'.1 a; exact ((h.row k l hl).1.lt g b).2)⟩, ⟨h.sp, (Array.getElem?_eq_some_iff.1 h.blk).1⟩, ⟨h.st, h.mt.lt⟩, ⟨h.so, h.mo.lt⟩⟩

end Go.Proofs.Ytilpidioengnbaa
