/- Arrays of bytes: compared as values; filled by copy. -/
import Derived.Test.YthfnpbkclmkkeaaJHead
namespace Go.Proofs.Ythfnpbkclmkkeaa
open Go.RowKit Go.Lib

theorem run_all_loop {P : Program} (w : World) (g : Nat → Sem Bool) (f : Nat → Bool) : ∀ (l : List Nat), (∀ i ∈ l, (g i).run P w = .ok (f i) w) →
    ((do
      for i in l do
        if !(← g i) then return false
      pure true : Sem Bool)).run P w = .ok (l.all f) w := by
  intro l
  induction l with
  | nil => intro _; simp
  | cons a l ih =>
    intro h
    have h0 := h a (by simp)
    have ih' := ih (fun i hi => h i (by simp [hi]))
    simp only [List.forIn_cons, Sem.run_bind, h0, Result.andThen_ok] at ih' ⊢
    cases hf : f a
    · simp [hf]
    · simp [hf] at ih' ⊢
      exact ih'
theorem run_equalIn_arr {P : Program} (w : World) (d : Nat) (t elem : TypeId) (len n : Nat) (xs ys : Array Value) (f : Nat → Bool) (ht : P.underlying t = some (.array len elem)) (hn : (sizeOf elem).run P w = .ok n w)
    (hf : ∀ i, i < len → ∃ a b, (part elem xs (i * n)).run P w = .ok a w ∧ (part elem ys (i * n)).run P w = .ok b w ∧ (Op.equalIn d elem a b).run P w = .ok (f i) w) :
    (Op.equalIn (d + 1) t (.agg xs) (.agg ys)).run P w = .ok ((List.range len).all f) w := by
  have key := run_all_loop (P := P) w (fun i => do Op.equalIn d elem (← part elem xs (i * n)) (← part elem ys (i * n))) f (List.range len) (fun i hi => by
    obtain ⟨a, b, h1, h2, h3⟩ := hf i (by simpa using hi)
    simp [Sem.run_bind, h1, h2, h3])
  simp only [Op.equalIn, Sem.run_bind, run_underlying ht, Result.andThen_ok, hn, Std.Legacy.Range.forIn_eq_forIn_range', Std.Legacy.Range.size]
  simp only [Sem.run_bind] at key
  have hr : List.range' 0 ((len - 0 + 1 - 1) / 1) 1 = List.range len := by simp [List.range_eq_range']
  rw [hr]
  simpa [Sem.run_bind, bind_assoc] using key

theorem sizeOf_u8 (w : World) : (sizeOf 5).run Try.prog w = .ok 1 w := by
  cases hq : Try.prog.info? 5 with
  | none => have := size_u8; simp [hq] at this
  | some i =>
    have h := size_u8
    simp only [hq, Option.map_some, Option.some.injEq] at h
    simp [sizeOf, typeInfo, hq, h]
theorem eql_bytes (d : Nat) (w : World) (t : TypeId) (len : Nat) (l m : List Nat) (ht : Try.prog.underlying t = some (.array len 5)) (hl : l.length = len) (hm : m.length = len) :
    (Op.equalIn (d + 2) t (.agg (B8 l).toArray) (.agg (B8 m).toArray)).run Try.prog w = .ok (decide (l = m)) w := by
  have h := run_equalIn_arr w (d + 1) t 5 len 1 (B8 l).toArray (B8 m).toArray (fun i => ((l.getD i 0 : Nat) : Int) == ((m.getD i 0 : Nat) : Int)) ht (sizeOf_u8 w) (by
    intro i hi
    have ha : (isAgg 5).run Try.prog w = .ok false w := by simp [isAgg, Sem.run_bind, run_underlying Try.underlying5]
    have e1 := B8_at l i (by omega)
    have e2 := B8_at m i (by omega)
    refine ⟨.int .u8 ((l.getD i 0 : Nat) : Int), .int .u8 ((m.getD i 0 : Nat) : Int), ?_, ?_, ?_⟩
    · simp [part, Sem.run_bind, ha, e1]
    · simp [part, Sem.run_bind, ha, e2]
    · exact run_equalIn_int w d 5 .u8 .u8 _ _ Try.underlying5)
  have hb : ((List.range len).all fun i => ((l.getD i 0 : Nat) : Int) == ((m.getD i 0 : Nat) : Int)) = decide (l = m) := by
    rw [Bool.eq_iff_iff]
    simp only [List.all_eq_true, List.mem_range, decide_eq_true_eq, beq_iff_eq]
    constructor
    · intro hh
      refine List.ext_getElem (by omega) fun i h1 h2 => ?_
      have := hh i (by omega)
      simp only [List.getD_eq_getElem?_getD, List.getElem?_eq_getElem h1, List.getElem?_eq_getElem h2, Option.getD_some] at this
      omega
    · rintro rfl i _
      rfl
  rw [h, hb]
theorem guard24 : Try.prog.eqGuardType Try.prog.depth 99 = false := by kernel_rfl
theorem guard17 : Try.prog.eqGuardType Try.prog.depth 97 = false := by kernel_rfl

/-- bytes copied over a whole array -/
theorem copy_whole (w : World) (g k dCap sCap n : Nat) (a : Option Addr) (l : List Nat) (cur : Array Value) (t : TypeId) (hg : w.heap[g]? = some (.cells cur t (0, 0))) (hc : cur.size = k) (hl : Rd w a n l) (hk : k ≤ n) (h0 : 0 < k) :
    ∃ w', (∀ ty, (Builtin.copy_ #[32, 32] ty #[.slice (some ⟨g, 0, none⟩) k dCap, .slice a n sCap]).run Try.prog w = .ok (goInt k) w') ∧ w'.heap[g]? = some (.cells (B8 (l.take k)).toArray t (0, 0)) ∧ Keep (fun i => i = g) w w' := by
  have hnl := hl.1
  have hlen : (B8 (l.take k)).length = k := by rw [B8_length, List.length_take]; omega
  obtain ⟨ad, rfl, hsrc⟩ := hl.src (by rw [B8_length]; omega)
  refine ⟨w.setRow g (B8 (l.take k)).toArray, fun ty => ?_, setRow_heap w g _ _ t _ hg, ⟨rfl, rfl, rfl, by simp [World.setRow], fun i _ hi => setRow_other w g i _ hi⟩⟩
  have := run_copy_row (P := Try.prog) w 32 32 ty 5 g 0 k dCap ad n sCap cur t (B8 (l.take k)) Try.underlying32 size_u8 hg (by rw [hlen]; show _ = min _ _; omega) (fun j v hj => hsrc j v (by
    have hj' : j < k := by
      rcases Nat.lt_or_ge j k with h | h
      · exact h
      · rw [List.getElem?_eq_none (by omega)] at hj; cases hj
    rw [show B8 (l.take k) = (B8 l).take k by simp [B8], List.getElem?_take, if_pos hj'] at hj
    exact hj)) (by omega) (B8_one _)
  rw [hlen, List.take_zero, List.nil_append, Nat.zero_add, List.drop_of_length_le (by rw [Array.length_toList]; omega), List.append_nil] at this
  exact this

end Go.Proofs.Ythfnpbkclmkkeaa
