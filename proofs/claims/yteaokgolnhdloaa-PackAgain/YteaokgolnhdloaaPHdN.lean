/- The document's Head of a list, held against the program's (out of PRdM). -/
import Derived.Test.YteaokgolnhdloaaPTkH
import Derived.Test.YteaokgolnhdloaaPOneM
namespace Go.Proofs.Yteaokgolnhdloaa
namespace Wm
open Go.RowKit Go.Deep

/-- how many things -/
def hdN (mo : Int) (s : K.RS) : Nat := okR (headR mo) s (headV mo s) 0
theorem list_all (mo : Int) (g : K.RS → K.RS) (s : K.RS) : takeR (listR (min mo 16777216) g) s = allR g (hdN mo s) (takeR (headR mo) s) := by
  unfold hdN okR
  by_cases hs : s.fault = 0
  · have e1 : takeR (listR (min mo 16777216) g) s = listR (min mo 16777216) g s := if_pos hs
    have e2 : takeR (headR mo) s = headR mo s := if_pos hs
    rw [e1, e2]
    unfold listR headR headV
    cases hp : cnt (min mo 16777216) (rest s) with
    | error e =>
      simp only
      split <;> rfl
    | ok r =>
      obtain ⟨n, z⟩ := r
      simp only
      rw [if_pos (show (s.go z).fault = 0 from hs)]
  · have e1 : takeR (listR (min mo 16777216) g) s = s := if_neg hs
    have e2 : takeR (headR mo) s = s := if_neg hs
    rw [e1, e2, if_neg hs]
    rfl
theorem hd_le (mo : Int) (s : K.RS) : hdN mo s ≤ s.data.length := by
  unfold hdN okR
  split
  · unfold headV
    split
    · exact Nat.zero_le _
    · rename_i n z hp
      have := (cnt_ok hp).2.2
      have := rest_le s
      omega
  · exact Nat.zero_le _
theorem all_ok {g : K.RS → K.RS} {s : K.RS} {k : Nat} (h : (allR g (k + 1) s).fault = 0) : (allR g k s).fault = 0 := by
  by_cases hz : (allR g k s).fault = 0
  · exact hz
  · have := allR_stick g s k hz (k + 1) (by omega)
    rw [this] at h
    exact h
/-- what takes a byte at least, or fails -/
def Gn (g : K.RS → K.RS) : Prop := ∀ s : K.RS, Byt s → s.fault = 0 → s.taken ≤ s.data.length → (g s).fault = 0 → s.taken < (g s).taken
theorem gn_rw {g : K.RS → K.RS} {W : K.RS → K.WS → K.WS} (h : RW g W) : Gn g := fun s h1 h2 h3 h4 => by
  obtain ⟨z, hz, _, e, _⟩ := h s h1 h2 h3 h4
  rw [e]
  show s.taken < s.taken + z
  omega
theorem thing_take {g : K.RS → K.RS} (h : Gn g) {s : K.RS} (hb : Byt s) (ht : s.taken ≤ s.data.length) : thingR g s = takeR g s := by
  unfold thingR takeR
  by_cases hs : s.fault = 0
  · rw [if_pos hs, if_pos hs]
    by_cases hz : (g s).fault = 0
    · rw [if_neg (by have := h s hb hs ht hz; omega)]
    · split
      · unfold K.RS.fail; rw [if_neg hz]
      · rfl
  · rw [if_neg hs, if_neg hs]
theorem Qr.bytes {w : World} {q : Nat} {s : K.RS} (h : Qr w q s) : Byt s := by
  obtain ⟨a, c, _, hr, _⟩ := h.ex
  exact hr.2.2.1
/-- a step of the document's loop -/
theorem all_step {g : K.RS → K.RS} (hg : Gn g) {w : World} {q : Nat} {s : K.RS} {k : Nat} (h : Qr w q (allR g k s)) : takeR g (allR g k s) = allR g (k + 1) s := (thing_take hg (Qr.bytes h) h.tak).symm
theorem gn_row (mo : Int) : Gn (rowR mo) := gn_rw (rw_text mo)
end Wm
end Go.Proofs.Yteaokgolnhdloaa
