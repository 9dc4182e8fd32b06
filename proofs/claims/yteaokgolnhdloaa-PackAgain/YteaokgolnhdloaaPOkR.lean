/- What a take gives, by the state behind it; bytes stay as they are. -/
import Derived.Test.YteaokgolnhdloaaPListR
namespace Go.Proofs.Yteaokgolnhdloaa
namespace Wm
open Go.RowKit Go.Deep

/-- a take leaves the bytes as they are -/
def Kp (g : K.RS → K.RS) : Prop := ∀ s, (g s).data = s.data
theorem kp_fail (s : K.RS) (e : Nat) : (s.fail e).data = s.data := by unfold K.RS.fail; split <;> rfl
theorem kp_thing {g : K.RS → K.RS} (h : Kp g) : Kp (thingR g) := fun s => by
  unfold thingR
  split
  · split
    · rw [kp_fail, h]
    · exact h s
  · rfl
theorem kp_all {g : K.RS → K.RS} (h : Kp g) (n : Nat) : Kp (allR g n) := fun s => by
  induction n with
  | zero => rfl
  | succ n ih => show (thingR g (allR g n s)).data = _; rw [kp_thing h, ih]
theorem kp_list {g : K.RS → K.RS} (h : Kp g) (mo : Int) : Kp (listR mo g) := fun s => by
  unfold listR
  split
  · exact kp_all h _ _
  · exact kp_fail _ _
theorem rest_le (s : K.RS) : (rest s).length ≤ s.data.length := by rw [rest_len]; omega
/-- what a Take gave: by the state behind it -/
def okR {α : Type} (g : K.RS → K.RS) (s : K.RS) (x z : α) : α := if (takeR g s).fault = 0 then x else z
theorem okR_yes {α : Type} {g : K.RS → K.RS} {s : K.RS} (h : (takeR g s).fault = 0) (x z : α) : okR g s x z = x := if_pos h
theorem okR_no {α : Type} {g : K.RS → K.RS} {s : K.RS} (h : (takeR g s).fault ≠ 0) (x z : α) : okR g s x z = z := if_neg h
theorem ownsRow_keepB {w w' : World} {b : Nat} {e : TypeId} {size : Nat} {v : Value} {n : Nat} {xs : List Value} (h : w.ownsRow b e size v n xs) (hb : Below w.heap.size w w') : w'.ownsRow b e size v n xs := by
  refine ⟨h.1, ?_⟩
  rcases h.2 with h' | ⟨g, cap, cur, h1, h2, h3, h4⟩
  · exact .inl h'
  · exact .inr ⟨g, cap, cur, h1, h2, by rw [hb.block g (Array.getElem?_eq_some_iff.1 h3).1]; exact h3, h4⟩
theorem rd_nil (w : World) : Rd w none 0 [] := ⟨rfl, by decide, by simp, .inl rfl⟩
end Wm
end Go.Proofs.Yteaokgolnhdloaa
