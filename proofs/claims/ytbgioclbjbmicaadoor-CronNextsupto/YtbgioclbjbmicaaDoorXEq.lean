/- Arrays compared as values. -/
import Derived.Test.YtbgioclbjbmicaaDoorXBase
namespace Go.Proofs.YtbgioclbjbmicaaDoor
open Go.RowKit

theorem run_all_loop {P : Program} (w : World) (g : Nat → Sem Bool) (f : Nat → Bool) : ∀ (l : List Nat), (∀ i ∈ l, (g i).run P w = .ok (f i) w) →
    ((do
      for i in l do
        if !(← g i) then return false
      pure true : Sem Bool)).run P w = .ok (l.all f) w := by
  intro l
  induction l with
  | nil => intro _; simp
  | cons a l ih =>
    intro h
    have h0 := h a (by simp)
    have ih' := ih (fun i hi => h i (by simp [hi]))
    simp only [List.forIn_cons, Sem.run_bind, h0, Result.andThen_ok] at ih' ⊢
    cases hf : f a
    · simp [hf]
    · simp [hf] at ih' ⊢
      exact ih'
theorem run_equalIn_arr {P : Program} (w : World) (d : Nat) (t elem : TypeId) (len n : Nat) (xs ys : Array Value) (f : Nat → Bool) (ht : P.underlying t = some (.array len elem)) (hn : (sizeOf elem).run P w = .ok n w)
    (hf : ∀ i, i < len → ∃ a b, (part elem xs (i * n)).run P w = .ok a w ∧ (part elem ys (i * n)).run P w = .ok b w ∧ (Op.equalIn d elem a b).run P w = .ok (f i) w) :
    (Op.equalIn (d + 1) t (.agg xs) (.agg ys)).run P w = .ok ((List.range len).all f) w := by
  have key := run_all_loop (P := P) w (fun i => do Op.equalIn d elem (← part elem xs (i * n)) (← part elem ys (i * n))) f (List.range len) (fun i hi => by
    obtain ⟨a, b, h1, h2, h3⟩ := hf i (by simpa using hi)
    simp [Sem.run_bind, h1, h2, h3])
  simp only [Op.equalIn, Sem.run_bind, run_underlying ht, Result.andThen_ok, hn, Std.Legacy.Range.forIn_eq_forIn_range', Std.Legacy.Range.size]
  simp only [Sem.run_bind] at key
  have hr : List.range' 0 ((len - 0 + 1 - 1) / 1) 1 = List.range len := by simp [List.range_eq_range']
  rw [hr]
  simpa [Sem.run_bind, bind_assoc] using key

theorem size_bool (w : World) : (sizeOf 4).run Tryd.prog w = .ok 1 w := by
  have h : (Tryd.prog.info? 4).map (·.size) = some 1 := by kernel_rfl
  cases hq : Tryd.prog.info? 4 with
  | none => simp [hq] at h
  | some i =>
    simp only [hq, Option.map_some, Option.some.injEq] at h
    simp [sizeOf, typeInfo, hq, h]
theorem eql_set (d : Nat) (w : World) (f g : Nat → Bool) : (Op.equalIn (d + 2) 57 (.agg (row60 f)) (.agg (row60 g))).run Tryd.prog w = .ok ((List.range 60).all fun v => f v == g v) w := by
  refine run_equalIn_arr w (d + 1) 57 4 60 1 _ _ _ Tryd.underlying57 (size_bool w) ?_
  intro i hi
  have ha : (isAgg 4).run Tryd.prog w = .ok false w := by simp [isAgg, Sem.run_bind, run_underlying Tryd.underlying4]
  refine ⟨.bool (f i), .bool (g i), ?_, ?_, ?_⟩
  · simp [part, Sem.run_bind, ha, row60_at f i hi]
  · simp [part, Sem.run_bind, ha, row60_at g i hi]
  · exact run_equalIn_bool w d 4 _ _ Tryd.underlying4
theorem guard_set : Tryd.prog.eqGuardType Tryd.prog.depth 57 = false := by kernel_rfl
end Go.Proofs.YtbgioclbjbmicaaDoor
