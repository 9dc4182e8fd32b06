/- Lists that are put, held against the document's Head and puts one by one. -/
import Derived.Test.YteaokgolnhdloaaPList
namespace Go.Proofs.Yteaokgolnhdloaa
namespace Wm
open Go.RowKit

/-- the document's puts, one behind the other -/
def putsW (fs : List (K.WS → K.WS)) (s : K.WS) : K.WS := fs.foldl (fun s f => putW f s) s
/-- the document's Head -/
def headW (most : Int) (n : Nat) (s : K.WS) : K.WS := if most < (n : Int) ∨ 16777216 < n then s.fail 20 else s.lay (K.num n)
/-- what lays a byte or fails -/
def Grow (f : K.WS → K.WS) : Prop := ∀ s : K.WS, s.fault = 0 → (f s).fault ≠ 0 ∨ s.laid.length < (f s).laid.length

theorem fail_fault {s : K.WS} {e : Nat} (he : e ≠ 0) : (s.fail e).fault ≠ 0 := by
  unfold K.WS.fail
  split
  · exact he
  · assumption
theorem fail_of {s : K.WS} {e : Nat} (h : s.fault ≠ 0) : s.fail e = s := by unfold K.WS.fail; rw [if_neg h]
theorem grow_lay (bs : List Nat) (h : 1 ≤ bs.length) : Grow (fun s => s.lay bs) := by
  intro s _
  show (s.lay bs).fault ≠ 0 ∨ s.laid.length < (s.lay bs).laid.length
  unfold K.WS.lay
  split
  · right
    show s.laid.length < (s.laid ++ bs).length
    rw [List.length_append]
    omega
  · exact .inl (fail_fault (by decide))
theorem grow_num (least most x : Int) : Grow (numW least most x) := by
  intro s hs
  unfold numW
  split
  · exact .inl (fail_fault (by decide))
  · exact grow_lay _ (K.num_pos _) s hs
theorem grow_text (most : Int) (bs : List Nat) : Grow (textW most bs) := by
  intro s hs
  unfold textW
  split
  · exact .inl (fail_fault (by decide))
  · exact grow_lay _ (by rw [List.length_append]; have := K.num_pos bs.length; omega) s hs
theorem thing_put {f : K.WS → K.WS} (h : Grow f) (s : K.WS) : thingW f s = putW f s := by
  unfold thingW putW
  split
  · rename_i hs
    split
    · rename_i he
      rcases h s hs with h1 | h1
      · exact fail_of h1
      · omega
    · rfl
  · rfl
theorem all_puts : ∀ (fs : List (K.WS → K.WS)) (_ : ∀ f ∈ fs, Grow f) (s : K.WS), allW fs s = putsW fs s
  | [], _, _ => rfl
  | f :: fs, h, s => by
    show allW fs (thingW f s) = putsW fs (putW f s)
    rw [thing_put (h f (by simp)), all_puts fs (fun g hg => h g (List.mem_cons_of_mem _ hg))]
theorem puts_fault : ∀ (fs : List (K.WS → K.WS)) (s : K.WS) (_ : s.fault ≠ 0), putsW fs s = s
  | [], _, _ => rfl
  | f :: fs, s, h => by
    show putsW fs (putW f s) = s
    have : putW f s = s := by unfold putW; rw [if_neg h]
    rw [this]
    exact puts_fault fs s h
theorem puts_append (a b : List (K.WS → K.WS)) (s : K.WS) : putsW (a ++ b) s = putsW b (putsW a s) := List.foldl_append
theorem puts_succ (fs : List (K.WS → K.WS)) (k : Nat) (f : K.WS → K.WS) (hf : fs[k]? = some f) (s : K.WS) : putsW (fs.take (k + 1)) s = putW f (putsW (fs.take k) s) := by
  have hk : k < fs.length := (List.getElem?_eq_some_iff.1 hf).1
  rw [List.take_succ_eq_append_getElem hk, puts_append]
  have : fs[k] = f := (List.getElem?_eq_some_iff.1 hf).2
  rw [this]
  rfl
theorem puts_le : ∀ (fs : List (K.WS → K.WS)) (_ : ∀ f ∈ fs, Grow f) (s : K.WS), (putsW fs s).fault ≠ 0 ∨ s.laid.length ≤ (putsW fs s).laid.length
  | [], _, _ => .inr (Nat.le_refl _)
  | f :: fs, h, s => by
    show (putsW fs (putW f s)).fault ≠ 0 ∨ s.laid.length ≤ (putsW fs (putW f s)).laid.length
    by_cases hs : s.fault = 0
    · have e : putW f s = f s := putW_zero hs
      rw [e]
      rcases h f (by simp) s hs with h1 | h1
      · left; rw [puts_fault fs _ h1]; exact h1
      · rcases puts_le fs (fun g hg => h g (List.mem_cons_of_mem _ hg)) (f s) with h2 | h2
        · exact .inl h2
        · right; omega
    · have e : putW f s = s := by unfold putW; rw [if_neg hs]
      rw [e, puts_fault fs s hs]
      exact .inl hs
/-- a list that is put: the document's Head, then its things one by one -/
theorem list_puts (most : Int) (fs : List (K.WS → K.WS)) (h : ∀ f ∈ fs, Grow f) (s : K.WS) : putW (listW (min most 16777216) fs) s = putsW fs (putW (headW most fs.length) s) := by
  by_cases hs : s.fault = 0
  · rw [putW_zero hs, putW_zero hs]
    unfold listW headW
    by_cases hm : min most 16777216 < (fs.length : Int)
    · rw [if_pos hm, if_pos (by omega), puts_fault fs _ (fail_fault (by decide))]
    · rw [if_neg hm, if_neg (by omega), all_puts fs h]
  · have e : ∀ f : K.WS → K.WS, putW f s = s := fun f => by unfold putW; rw [if_neg hs]
    rw [e, e, puts_fault fs s hs]
theorem grow_list (most : Int) (fs : List (K.WS → K.WS)) (h : ∀ f ∈ fs, Grow f) : Grow (listW most fs) := by
  intro s hs
  unfold listW
  split
  · exact .inl (fail_fault (by decide))
  · rw [all_puts fs h]
    rcases grow_lay (K.num fs.length) (K.num_pos _) s hs with h1 | h1
    · left; rw [puts_fault fs _ h1]; exact h1
    · rcases puts_le fs h (s.lay (K.num fs.length)) with h2 | h2
      · exact .inl h2
      · right
        have h1' : s.laid.length < (s.lay (K.num fs.length)).laid.length := h1
        omega
end Wm
end Go.Proofs.Yteaokgolnhdloaa
