/- Maps keyed by int, as functions of their keys: what is read, laid, struck, cleared. -/
import Derived.Test.YtilpidioengnbaaDBase
import Derived.Test.YtilpidioengnbaaDMod
import Derived.Maps.RangeWalk
import Derived.Maps.Ext
import Derived.WalkSpells
import Derived.OpenShut
import Derived.Deep.QuietTactic
import Derived.Deep.Draws
namespace Go.Proofs.Ytilpidioengnbaa
open Go.RowKit Go.Maps Go.MapKept Go.ChangeMaps

/-- an element as it stands -/
def rawE (v : Value) : Option (DataW Value × List MemPlace) := some (.held v, [])
theorem rawE_inv {v : Value} {d : DataW Value} {ps : List MemPlace} (h : rawE v = some (d, ps)) : d = .held v := by
  unfold rawE at h
  injection h with h
  injection h with h _
  exact h.symm

theorem kint : Keyed Try.prog 3 := int_keyed Try.underlying3

/-- what a datum holds, key by key -/
def Agr (D : DataW Value) (f : Int → Option Value) : Prop :=
  ∀ k : Int, (f k = none → Maps.has D (.int .i64 k) = false) ∧ ∀ v, f k = some v → Maps.has D (.int .i64 k) = true ∧ ∀ z, D.atKey (.int .i64 k) z = .held v

/-- block b is a map that holds f -/
def MapIs (w : World) (b : Nat) (f : Int → Option Value) : Prop := ∃ D, w.ownsMap Try.prog 3 rawE b (Maps.size D) D ∧ Agr D f

theorem wfk {k : Int} (h1 : -9223372036854775808 ≤ k) (h2 : k ≤ 9223372036854775807) : (Lit.int .i64 k).wf = true := WalkArith.wf_i64 (by omega)

theorem keyi {k : Int} (h1 : -9223372036854775808 ≤ k) (h2 : k ≤ 9223372036854775807) : keyOf Try.prog 3 (.int .i64 k) = some (.int .i64 k) := keyOf_int_mk Try.underlying3 (wfk h1 h2)

theorem MapIs.lt {w : World} {b : Nat} {f : Int → Option Value} (h : MapIs w b f) : b < w.heap.size := by obtain ⟨D, h, _⟩ := h; exact h.lt

theorem MapIs.blk {w : World} {b : Nat} {f : Int → Option Value} (h : MapIs w b f) : ∃ es c, w.heap[b]? = some (.map es c) := by obtain ⟨D, ⟨es, c, h, _⟩, _⟩ := h; exact ⟨es, c, h⟩

theorem MapIs.of_blk {w w' : World} {b : Nat} {f : Int → Option Value} (h : MapIs w b f) (hb : w'.heap[b]? = w.heap[b]?) : MapIs w' b f := by
  obtain ⟨D, ⟨es, c, h1, h2⟩, h3⟩ := h
  exact ⟨D, ⟨es, c, hb.trans h1, h2⟩, h3⟩

theorem MapIs.keep {w w' : World} {b : Nat} {f : Int → Option Value} (h : MapIs w b f) {S : Nat → Prop} (hk : Keep S w w') (hb : ¬ S b) : MapIs w' b f := h.of_blk (hk.block b h.lt hb)

theorem ownsMap_exact {w : World} {b n : Nat} {D : DataW Value} (h : w.ownsMap Try.prog 3 rawE b n D) : w.ownsMap Try.prog 3 rawE b (Maps.size D) D := by
  obtain ⟨es, c, h1, h2, _, h4⟩ := h
  exact ⟨es, c, h1, h2, by rw [h4]; simp [Maps.size, length_sorted], h4⟩

theorem mapIs_made (w : World) : MapIs (w.alloc (.map #[] 0)) w.heap.size (fun _ => none) :=
  ⟨.map [], World.ownsMap_made w _ _ _, fun k => ⟨fun _ => rfl, fun v h => by cases h⟩⟩

/-- a key that the map holds is a number -/
theorem MapIs.wf {w : World} {b : Nat} {f : Int → Option Value} (h : MapIs w b f) {k : Int} (hk : f k ≠ none) : -9223372036854775808 ≤ k ∧ k ≤ 9223372036854775807 := by
  obtain ⟨D, ⟨es, c, h1, F, h3, rfl⟩, h2⟩ := h
  cases hf : f k with
  | none => exact absurd hf hk
  | some v =>
    obtain ⟨hh, _⟩ := (h2 k).2 v hf
    obtain ⟨p, hp, hs⟩ := List.any_eq_true.1 hh
    obtain ⟨x, hx, rfl⟩ := List.mem_map.1 (mem_sorted.1 hp)
    obtain ⟨y, hy⟩ := F.reads x hx
    rw [WideElems.rg_of hy] at hs
    have hkey := WideElems.rd_key hy
    obtain ⟨x', _, h5, h6⟩ := keyOf_int_inv Try.underlying3 hkey
    have e := WideAt.sameKey_eq hs
    rw [h5] at e
    injection e with _ e
    subst e
    have := bounds_i64 h6
    omega

/-- how many keys lie in a span -/
theorem nodup_below : ∀ (n : Nat) (l : List Nat), l.Nodup → (∀ x ∈ l, x < n) → l.length ≤ n
  | 0, l, _, h => by
    cases l with
    | nil => exact Nat.le_refl _
    | cons a r => exact absurd (h a (by simp)) (by omega)
  | n + 1, l, hn, h => by
    by_cases hm : n ∈ l
    · have h1 := nodup_below n (l.erase n) (hn.erase n) (fun x hx => by
        have h2 := h x (List.mem_of_mem_erase hx)
        have h3 : x ≠ n := fun e => by subst e; exact (List.Nodup.not_mem_erase hn) hx
        omega)
      have h4 := List.length_erase_of_mem hm
      omega
    · have := nodup_below n l hn (fun x hx => by
        have h2 := h x hx
        have h3 : x ≠ n := fun e => hm (e ▸ hx)
        omega)
      omega
theorem keys_bound {l : List Int} (hn : l.Nodup) {M : Nat} (h : ∀ x ∈ l, 1 ≤ x ∧ x ≤ (M : Int)) : l.length ≤ M := by
  have h1 : (l.map fun x => (x - 1).toNat).Nodup := by
    unfold List.Nodup at hn ⊢
    rw [List.pairwise_map]
    refine List.Pairwise.imp_of_mem (fun {a b} ha hb hab => ?_) hn
    have := h a ha; have := h b hb
    omega
  have := nodup_below M _ h1 (fun y hy => by
    obtain ⟨x, hx, rfl⟩ := List.mem_map.1 hy
    have := h x hx
    omega)
  simpa using this

/-- the keys of a map, in some order -/
theorem MapIs.keys {w : World} {b : Nat} {f : Int → Option Value} {D : DataW Value} (h : w.ownsMap Try.prog 3 rawE b (Maps.size D) D) (ha : Agr D f) :
    ∃ l : List Int, l.Nodup ∧ l.length = Maps.size D ∧ ∀ k, k ∈ l ↔ f k ≠ none := by
  obtain ⟨es, rfl, hp, hkl⟩ := h.entries kint
  have hint : ∀ p ∈ es, ∃ x : Int, p.1 = .int .i64 x := by
    obtain ⟨es0, c, h1, F, h3, h4⟩ := h
    injection h4 with h4
    intro p hpe
    rw [h4] at hpe
    obtain ⟨x, hx, rfl⟩ := List.mem_map.1 (mem_sorted.1 hpe)
    obtain ⟨y, hy⟩ := F.reads x hx
    obtain ⟨x', _, h5, h6⟩ := keyOf_int_inv Try.underlying3 (WideElems.rd_key hy)
    rw [WideElems.rg_of hy]
    exact ⟨x', h5⟩
  refine ⟨es.map fun p => (match p.1 with | .int _ x => x | _ => 0), ?_, by simp [Maps.size], fun k => ?_⟩
  · unfold List.Nodup
    rw [List.pairwise_map]
    refine List.Pairwise.imp_of_mem (fun {a b} ha hb hab => ?_) hp
    obtain ⟨x, hx⟩ := hint a ha
    obtain ⟨y, hy⟩ := hint b hb
    rw [hx, hy] at hab ⊢
    intro e
    exact hab (by simp at e; rw [e])
  · constructor
    · intro hk e
      obtain ⟨p, hpe, hpk⟩ := List.mem_map.1 hk
      obtain ⟨x, hx⟩ := hint p hpe
      rw [hx] at hpk
      simp at hpk
      subst hpk
      have h0 := (ha x).1 e
      have h1 : Maps.has (DataW.map es) (.int .i64 x) = true := List.any_eq_true.2 ⟨p, hpe, by rw [hx]; exact WideAt.sameKey_self (by rw [← hx]; exact hkl p hpe)⟩
      rw [h1] at h0
      cases h0
    · intro hk
      cases hf : f k with
      | none => exact absurd hf hk
      | some v =>
        obtain ⟨hh, _⟩ := (ha k).2 v hf
        obtain ⟨p, hpe, hs⟩ := List.any_eq_true.1 hh
        refine List.mem_map.2 ⟨p, hpe, ?_⟩
        rw [WideAt.sameKey_eq hs]

/-- a map whose keys are segments' numbers has room -/
def Segs (f : Int → Option Value) : Prop := ∀ k, f k ≠ none → 1 ≤ k ∧ k ≤ 1099511627776
theorem MapIs.room {w : World} {b : Nat} {f : Int → Option Value} {D : DataW Value} (h : w.ownsMap Try.prog 3 rawE b (Maps.size D) D) (ha : Agr D f) (hs : Segs f) : Maps.size D ≤ 1099511627776 := by
  obtain ⟨l, h1, h2, h3⟩ := MapIs.keys h ha
  rw [← h2]
  exact keys_bound h1 (M := 1099511627776) fun x hx => by have := hs x ((h3 x).1 hx); omega

/-- 'm[k]' -/
theorem MapIs.look {w : World} {b : Nat} {f : Int → Option Value} (h : MapIs w b f) {t e : TypeId} (ht : Try.prog.underlying t = some (.map 3 e)) {z : Value} (hz : ∀ w, (zeroValue e).run Try.prog w = .ok z w) {k : Int} (h1 : -9223372036854775808 ≤ k) (h2 : k ≤ 9223372036854775807) :
    ∀ j, (Instr.lookup t (.map (some b)) (.int .i64 k) true).run Try.prog (w.drewN j) = .ok (.tuple #[(f k).getD z, .bool (f k).isSome]) (w.drewN j) ∧ (Instr.lookup t (.map (some b)) (.int .i64 k) false).run Try.prog (w.drewN j) = .ok ((f k).getD z) (w.drewN j) := by
  intro j
  have h' : MapIs (w.drewN j) b f := h.of_blk rfl
  obtain ⟨D, hD, ha⟩ := h'
  obtain ⟨v, ps, hr, hv⟩ := hD.look_ok kint ht (hz _) (zd := .held z) (zp := []) rfl (keyi h1 h2)
  obtain ⟨v', ps', hr', hv'⟩ := hD.lookup kint ht (hz _) (zd := .held z) (zp := []) rfl (keyi h1 h2)
  have e1 := rawE_inv hv
  have e2 := rawE_inv hv'
  cases hf : f k with
  | none =>
    have h0 := (ha k).1 hf
    rw [atKey_of_not_has h0] at e1 e2
    injection e1 with e1; injection e2 with e2
    subst e1 e2
    rw [h0] at hr
    exact ⟨hr, hr'⟩
  | some u =>
    obtain ⟨h3, h4⟩ := (ha k).2 u hf
    rw [h4] at e1 e2
    injection e1 with e1; injection e2 with e2
    subst e1 e2
    rw [h3] at hr
    exact ⟨hr, hr'⟩

/-- 'm[k] = v' -/
theorem MapIs.store {w : World} {b : Nat} {f : Int → Option Value} (h : MapIs w b f) {t e : TypeId} (ht : Try.prog.underlying t = some (.map 3 e)) {k : Int} (h1 : -9223372036854775808 ≤ k) (h2 : k ≤ 9223372036854775807) (hs : Segs f) (v : Value) :
    ∃ w', (Instr.mapUpdate t (.map (some b)) (.int .i64 k) v).run Try.prog w = .ok () w' ∧ MapIs w' b (upd f k (some v)) ∧ Keep (fun i => i = b) w w' ∧ w'.heap.size = w.heap.size := by
  obtain ⟨D, hD, ha⟩ := h
  have hm := MapIs.room hD ha hs
  obtain ⟨w', hr, ho, ht'⟩ := hD.store kint ht (show Maps.size D < maxLen by have : (1099511627776 : Nat) < maxLen := (by decide); exact Nat.lt_of_le_of_lt hm this) (keyi h1 h2) (val := v) (d := .held v) (ps := []) rfl
  refine ⟨w', hr, ⟨_, ownsMap_exact ho, fun j => ?_⟩, Keep.grown ht'.grown (fun _ e => (Option.some.inj e).symm), ?_⟩
  · have hne : ∀ {j}, j ≠ k → (Lit.int .i64 j) ≠ .int .i64 k := fun hj e => hj (Lit.int.inj e).2
    by_cases hj : j = k
    · subst hj
      rw [upd_same]
      refine ⟨(fun e => by cases e), fun u e => ?_⟩
      injection e with e; subst e
      exact ⟨has_put_same hD.isMap (kint.key (keyi h1 h2)) _, fun z => atKey_put_same hD.isMap (kint.key (keyi h1 h2)) _ _⟩
    · rw [upd_other f _ hj, has_put_other (hne hj)]
      refine ⟨(ha j).1, fun u e => ⟨((ha j).2 u e).1, fun z => ?_⟩⟩
      rw [atKey_put_other (hne hj)]
      exact ((ha j).2 u e).2 z
  · obtain ⟨es, c, es', c', _, rfl⟩ := ht'
    simp [setBlock]

/-- 'delete(m, k)' -/
theorem MapIs.drop {w : World} {b : Nat} {f : Int → Option Value} (h : MapIs w b f) {t e : TypeId} (ht : Try.prog.underlying t = some (.map 3 e)) {k : Int} (h1 : -9223372036854775808 ≤ k) (h2 : k ≤ 9223372036854775807) (ty : TypeId) :
    ∃ w', (Builtin.delete_ #[t, 3] ty #[.map (some b), .int .i64 k]).run Try.prog w = .ok (.tuple #[]) w' ∧ MapIs w' b (upd f k none) ∧ Keep (fun i => i = b) w w' ∧ w'.heap.size = w.heap.size := by
  obtain ⟨D, hD, ha⟩ := h
  obtain ⟨w', hr, ho, ht'⟩ := hD.drop kint ht (keyi h1 h2) ty
  refine ⟨w', hr, ⟨_, ownsMap_exact ho, fun j => ?_⟩, Keep.grown ht'.grown (fun _ e => (Option.some.inj e).symm), ?_⟩
  · have hne : ∀ {j}, j ≠ k → (Lit.int .i64 j) ≠ .int .i64 k := fun hj e => hj (Lit.int.inj e).2
    by_cases hj : j = k
    · subst hj
      rw [upd_same]
      exact ⟨fun _ => has_del_same, fun u e => by cases e⟩
    · rw [upd_other f _ hj, has_del_other (hne hj)]
      refine ⟨(ha j).1, fun u e => ⟨((ha j).2 u e).1, fun z => ?_⟩⟩
      rw [atKey_del_other (hne hj)]
      exact ((ha j).2 u e).2 z
  · obtain ⟨es, c, es', c', _, rfl⟩ := ht'
    simp [setBlock]

/-- 'clear(m)' -/
theorem MapIs.clear {w : World} {b : Nat} {f : Int → Option Value} (h : MapIs w b f) {t e : TypeId} (ht : Try.prog.underlying t = some (.map 3 e)) (ty : TypeId) :
    ∃ w', (Builtin.clear_ #[t] ty #[.map (some b)]).run Try.prog w = .ok (.tuple #[]) w' ∧ MapIs w' b (fun _ => none) ∧ Keep (fun i => i = b) w w' ∧ w'.heap.size = w.heap.size := by
  obtain ⟨D, ⟨es, c, hb, F, hs, hD⟩, ha⟩ := h
  refine ⟨setBlock w b (.map #[] c), ?_, ⟨.map [], ⟨#[], c, heap_setBlock_same hb _, ⟨by simp, ?_, by simp⟩, Nat.le_refl _, rfl⟩, fun k => ⟨fun _ => rfl, fun v h => by cases h⟩⟩, ⟨rfl, rfl, rfl, by simp [setBlock], fun i _ hi => heap_setBlock_other hb _ hi⟩, by simp [setBlock]⟩
  · simp [Builtin.clear_, run_underlying ht, MapKept.run_getObj_map hb, MapKept.run_setObj_map _ hb, Result.andThen, setBlock]
  · exact stamped_empty c

section
variable {w : World} {ops : Array Oper} {rest : List Oper} {o : Oper} {a : Act} {Q : Exit → Act → World → Prop}
theorem wpList_store (hg : o.guard = none) (m x v : Operand) (t : TypeId) (hop : o.op = Op.mapUpdate t m x v) (e : TypeId) (ht : Try.prog.underlying t = some (.map 3 e)) (b : Nat) (f : Int → Option Value) (k : Int) (u : Value)
    (hm : a.eval m = .map (some b)) (hx : a.eval x = .int .i64 k) (hv : a.eval v = u) (h : MapIs w b f) (h1 : -9223372036854775808 ≤ k) (h2 : k ≤ 9223372036854775807) (hs : Segs f)
    (hK : ∀ w', MapIs w' b (upd f k (some u)) → Keep (fun i => i = b) w w' → w'.heap.size = w.heap.size → wpList Try.prog ops Q rest (a.put o.dst undef) w') : wpList Try.prog ops Q (o :: rest) a w := by
  refine wpList_plain hg fun K' hK' => ?_
  obtain ⟨w', hrun, r1, r2, r3⟩ := h.store ht h1 h2 hs u
  unfold Oper.wp
  simp [execOp, hop, hm, hx, hv, hrun, Result.andThen]
  exact hK' _ _ (hK w' r1 r2 r3)
theorem wpList_drop (hg : o.guard = none) (m x : Operand) (t : TypeId) (hop : o.op = Op.call { callee := Callee.builtin Builtin.delete, args := #[m, x], argTypes := #[t, 3] }) (e : TypeId) (ht : Try.prog.underlying t = some (.map 3 e)) (b : Nat) (f : Int → Option Value) (k : Int)
    (hm : a.eval m = .map (some b)) (hx : a.eval x = .int .i64 k) (h : MapIs w b f) (h1 : -9223372036854775808 ≤ k) (h2 : k ≤ 9223372036854775807)
    (hK : ∀ w', MapIs w' b (upd f k none) → Keep (fun i => i = b) w w' → w'.heap.size = w.heap.size → wpList Try.prog ops Q rest (a.put o.dst (.tuple #[])) w') : wpList Try.prog ops Q (o :: rest) a w := by
  refine wpList_plain hg fun K' hK' => ?_
  obtain ⟨w', hrun, r1, r2, r3⟩ := h.drop ht h1 h2 o.type
  unfold Oper.wp
  simp [execOp, hop, resolve, invoke, builtin, hm, hx, hrun, Result.andThen]
  exact hK' _ _ (hK w' r1 r2 r3)
theorem wpList_clear (hg : o.guard = none) (m : Operand) (t : TypeId) (hop : o.op = Op.call { callee := Callee.builtin Builtin.clear, args := #[m], argTypes := #[t] }) (e : TypeId) (ht : Try.prog.underlying t = some (.map 3 e)) (b : Nat) (f : Int → Option Value)
    (hm : a.eval m = .map (some b)) (h : MapIs w b f)
    (hK : ∀ w', MapIs w' b (fun _ => none) → Keep (fun i => i = b) w w' → w'.heap.size = w.heap.size → wpList Try.prog ops Q rest (a.put o.dst (.tuple #[])) w') : wpList Try.prog ops Q (o :: rest) a w := by
  refine wpList_plain hg fun K' hK' => ?_
  obtain ⟨w', hrun, r1, r2, r3⟩ := h.clear ht o.type
  unfold Oper.wp
  simp [execOp, hop, resolve, invoke, builtin, hm, hrun, Result.andThen]
  exact hK' _ _ (hK w' r1 r2 r3)
end

end Go.Proofs.Ytilpidioengnbaa
