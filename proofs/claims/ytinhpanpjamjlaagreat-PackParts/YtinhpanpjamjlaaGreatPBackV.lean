/- What a list that was read holds, as values. -/
import Derived.Test.YtinhpanpjamjlaaGreatPVal
import Derived.Test.YtinhpanpjamjlaaGreatPBackW
import Derived.Test.YtinhpanpjamjlaaGreatPSame
namespace Go.Proofs.YtinhpanpjamjlaaGreat
open Go.RowKit

theorem valsOf_at {α : Type} (g : K.RS → K.RS) (val : K.RS → α) (n : Nat) (s : K.RS) (i : Nat) (hi : i < n) : (valsOf g val n s)[i]? = some (val (allR g i s)) := by
  unfold valsOf
  rw [List.getElem?_map, List.getElem?_range hi]
  rfl

theorem valsOf_len {α : Type} (g : K.RS → K.RS) (val : K.RS → α) (n : Nat) (s : K.RS) : (valsOf g val n s).length = n := by
  unfold valsOf
  simp

theorem listV_vals {α : Type} {enc : α → Value} {val : K.RS → α} {T : TypeId} {most : Int} {g : K.RS → K.RS} {s : K.RS} {w : World} {v : Value} (h : listV T most g (fun s _ v => v = enc (val s)) s w v) (hl : (rest s).length ≤ 16777216) :
    ∃ a n c, v = .slice a n c ∧ Els (fun k => k < w.heap.size) w a n ((listVal most g val s).map enc) ∧ n = (listVal most g val s).length := by
  cases hp : cnt most (rest s) with
  | error e => unfold listV at h; rw [hp] at h; cases h
  | ok r =>
    obtain ⟨n, z⟩ := r
    obtain ⟨hpk, hnm, hzn⟩ := cnt_ok hp
    obtain ⟨a, c, vs, rfl, hels, hvs⟩ := listV_els h hp (by omega)
    have hval : listVal most g val s = valsOf g val n (s.go z) := by unfold listVal; rw [hp]
    have hvv : vs = (valsOf g val n (s.go z)).map enc := by
      apply List.ext_getElem?
      intro i
      have hn := hels.1
      rcases Nat.lt_or_ge i n with hi | hi
      · rw [List.getElem?_map, valsOf_at g val n _ i hi, List.getElem?_eq_getElem (show i < vs.length by omega)]
        have := hvs i _ (List.getElem?_eq_getElem (show i < vs.length by omega))
        rw [this]
        rfl
      · rw [List.getElem?_eq_none (by omega), List.getElem?_eq_none (by rw [List.length_map, valsOf_len]; exact hi)]
    rw [hval, ← hvv]
    exact ⟨a, n, c, rfl, hels, (valsOf_len _ _ _ _).symm⟩

theorem listV_rows {val : K.RS → Int} {Ti To : TypeId} {most m0 : Int} {g0 g1 : K.RS → K.RS} {s : K.RS} {w : World} {v : Value} (h : listV To most g1 (listV Ti m0 g0 (fun s _ v => v = Value.int .i64 (val s))) s w v) (hl : (rest s).length ≤ 16777216)
    (hG : ∀ i n z, cnt most (rest s) = .ok (n, z) → i < n → (rest (allR g1 i (s.go z))).length ≤ 16777216) :
    ∃ a n c, v = .slice a n c ∧ RowsAt (fun k => k < w.heap.size) w a n (listVal most g1 (listVal m0 g0 val) s) := by
  cases hp : cnt most (rest s) with
  | error e => unfold listV at h; rw [hp] at h; cases h
  | ok r =>
    obtain ⟨n, z⟩ := r
    obtain ⟨hpk, hnm, hzn⟩ := cnt_ok hp
    obtain ⟨a, c, vs, rfl, hels, hvs⟩ := listV_els h hp (by omega)
    have hval : listVal most g1 (listVal m0 g0 val) s = valsOf g1 (listVal m0 g0 val) n (s.go z) := by unfold listVal; rw [hp]
    rw [hval]
    refine ⟨a, n, c, rfl, vs, hels, valsOf_len _ _ _ _, fun i x y hx hy => ?_⟩
    have hin : i < n := by have := (List.getElem?_eq_some_iff.1 hx).1; have := hels.1; omega
    rw [valsOf_at _ _ _ _ _ hin] at hy
    injection hy with hy
    subst hy
    obtain ⟨a', n', c', rfl, he, hn'⟩ := listV_vals (hvs i x hx) (hG i n z hp hin)
    exact ⟨a', c', by rw [← hn'], by rw [← hn']; exact he⟩

end Go.Proofs.YtinhpanpjamjlaaGreat
