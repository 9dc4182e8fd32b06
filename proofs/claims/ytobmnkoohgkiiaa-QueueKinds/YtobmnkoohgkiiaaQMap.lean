/- Maps whose keys are things of one kind and whose values are numbers, as functions of their keys: what is read, laid, struck. -/
import Derived.Test.YtobmnkoohgkiiaaWBase
import Derived.Maps.RangeWalk
import Derived.Maps.Ext
import Derived.WalkSpells
import Derived.OpenShut
import Derived.Deep.QuietTactic
import Derived.Deep.Draws
import Derived.StringKeys
import Derived.Maps.Views
namespace Go.Proofs.Ytobmnkoohgkiiaa
open Go.RowKit Go.Maps Go.MapKept Go.ChangeMaps
namespace Qu

/-- an element as it stands -/
def rawE (v : Value) : Option (DataW Value × List MemPlace) := some (.held v, [])
theorem rawE_inv {v : Value} {d : DataW Value} {ps : List MemPlace} (h : rawE v = some (d, ps)) : d = .held v := by
  unfold rawE at h
  injection h with h
  injection h with h _
  exact h.symm

/-- a kind of things: as a key, as cells, which may be -/
structure Kd (α : Type) where
  kt : TypeId
  enc : α → Value
  lit : α → Lit
  ok : α → Prop
  c : Nat
  cl : α → List Value
  zc : List Value
  tq : TypeId
  te : TypeId
  tl : TypeId
  tm : TypeId
structure KdOk {α : Type} (K : Kd α) : Prop where
  keyed : Keyed Try.prog K.kt
  key : ∀ a, K.ok a → keyOf Try.prog K.kt (K.enc a) = some (K.lit a)
  inj : ∀ a b, K.lit a = K.lit b → a = b
  cln : ∀ a, (K.cl a).length = K.c
  one : ∀ a, ∀ u ∈ K.cl a, u.oneCell' = true
  zln : K.zc.length = K.c + 1
  zne : ∀ u ∈ K.zc, u.oneCell' = true
  ul : Try.prog.underlying K.tl = some (.slice K.te)
  um : Try.prog.underlying K.tm = some (.map K.kt 3)
  inf : ∃ i, Try.prog.info? K.te = some i ∧ i.zero = some (.agg K.zc.toArray) ∧ i.size = K.c + 1 ∧ i.bytes ≤ 64
  ne : K.te ≠ K.tq

/-- a number as a value -/
def nv (n : Nat) : Value := .int .i64 (n : Int)

section
variable {α : Type} {K : Kd α}

/-- a function of things, changed at one -/
def updK [DecidableEq α] {β : Type} (f : α → β) (k : α) (v : β) : α → β := fun j => if j = k then v else f j
theorem updK_same [DecidableEq α] {β : Type} (f : α → β) (k : α) (v : β) : updK f k v k = v := by simp [updK]
theorem updK_other [DecidableEq α] {β : Type} (f : α → β) {k j : α} (v : β) (h : j ≠ k) : updK f k v j = f j := by simp [updK, h]

/-- what a datum holds, key by key -/
def AgrK (K : Kd α) (D : DataW Value) (f : α → Option Nat) : Prop :=
  ∀ k, K.ok k → (f k = none → Maps.has D (K.lit k) = false) ∧ ∀ n, f k = some n → Maps.has D (K.lit k) = true ∧ ∀ z, D.atKey (K.lit k) z = .held (nv n)

/-- block b is a map that holds f, of no more than N keys -/
def MapK (K : Kd α) (w : World) (b N : Nat) (f : α → Option Nat) : Prop := ∃ D, w.ownsMap Try.prog K.kt rawE b (Maps.size D) D ∧ Maps.size D ≤ N ∧ AgrK K D f

theorem MapK.lt {w : World} {b N : Nat} {f : α → Option Nat} (h : MapK K w b N f) : b < w.heap.size := by obtain ⟨D, h, _⟩ := h; exact h.lt
theorem MapK.blk {w : World} {b N : Nat} {f : α → Option Nat} (h : MapK K w b N f) : ∃ es c, w.heap[b]? = some (.map es c) := by obtain ⟨D, ⟨es, c, h, _⟩, _⟩ := h; exact ⟨es, c, h⟩
theorem MapK.of_blk {w w' : World} {b N : Nat} {f : α → Option Nat} (h : MapK K w b N f) (hb : w'.heap[b]? = w.heap[b]?) : MapK K w' b N f := by
  obtain ⟨D, ⟨es, c, h1, h2⟩, h3⟩ := h
  exact ⟨D, ⟨es, c, hb.trans h1, h2⟩, h3⟩
theorem MapK.keep {w w' : World} {b N : Nat} {f : α → Option Nat} (h : MapK K w b N f) {S : Nat → Prop} (hk : Keep S w w') (hb : ¬ S b) : MapK K w' b N f := h.of_blk (hk.block b h.lt hb)

theorem ownsMap_exact {w : World} {b n : Nat} {D : DataW Value} (h : w.ownsMap Try.prog K.kt rawE b n D) : w.ownsMap Try.prog K.kt rawE b (Maps.size D) D := by
  obtain ⟨es, c, h1, h2, _, h4⟩ := h
  exact ⟨es, c, h1, h2, by rw [h4]; simp [Maps.size, length_sorted], h4⟩

theorem mapK_made (K : Kd α) (w : World) : MapK K (w.alloc (.map #[] 0)) w.heap.size 0 (fun _ => none) :=
  ⟨.map [], World.ownsMap_made w _ _ _, Nat.le_refl _, fun k _ => ⟨fun _ => rfl, fun v h => by cases h⟩⟩

/-- 'm[k]' -/
theorem MapK.look {w : World} {b N : Nat} {f : α → Option Nat} (h : MapK K w b N f) (hK : KdOk K) {t e : TypeId} (ht : Try.prog.underlying t = some (.map K.kt e)) {z : Value} (hz : ∀ w, (zeroValue e).run Try.prog w = .ok z w) {k : α} (hk : K.ok k) :
    ∀ j, (Instr.lookup t (.map (some b)) (K.enc k) true).run Try.prog (w.drewN j) = .ok (.tuple #[((f k).map nv).getD z, .bool (f k).isSome]) (w.drewN j) := by
  intro j
  have h' : MapK K (w.drewN j) b N f := h.of_blk rfl
  obtain ⟨D, hD, _, ha⟩ := h'
  obtain ⟨v, ps, hr, hv⟩ := hD.look_ok hK.keyed ht (hz _) (zd := .held z) (zp := []) rfl (hK.key k hk)
  have e1 := rawE_inv hv
  cases hf : f k with
  | none =>
    have h0 := (ha k hk).1 hf
    rw [atKey_of_not_has h0] at e1
    have e2 := DataW.held.inj e1
    subst e2
    rw [h0] at hr
    simp only [Option.map_none, Option.getD_none, Option.isSome_none]
    exact hr
  | some u =>
    obtain ⟨h3, h4⟩ := (ha k hk).2 u hf
    rw [h4] at e1
    have e2 := DataW.held.inj e1
    subst e2
    rw [h3] at hr
    simp only [Option.map_some, Option.getD_some, Option.isSome_some]
    exact hr

/-- 'm[k] = n', k a new one -/
theorem MapK.store [DecidableEq α] {w : World} {b N : Nat} {f : α → Option Nat} (h : MapK K w b N f) (hK : KdOk K) {t e : TypeId} (ht : Try.prog.underlying t = some (.map K.kt e)) {k : α} (hk : K.ok k) (hN : N < 9007199254740992) (n : Nat) :
    ∃ w', (Instr.mapUpdate t (.map (some b)) (K.enc k) (nv n)).run Try.prog w = .ok () w' ∧ MapK K w' b (N + 1) (updK f k (some n)) ∧ Keep (fun i => i = b) w w' ∧ w'.heap.size = w.heap.size := by
  obtain ⟨D, hD, hs, ha⟩ := h
  obtain ⟨w', hr, ho, ht'⟩ := hD.store hK.keyed ht (show Maps.size D < maxLen by have : (9007199254740992 : Nat) < maxLen := (by decide); omega) (hK.key k hk) (val := nv n) (d := .held (nv n)) (ps := []) rfl
  refine ⟨w', hr, ⟨_, ownsMap_exact ho, ?_, fun j hj => ?_⟩, Keep.grown ht'.grown (fun _ e => (Option.some.inj e).symm), ?_⟩
  · obtain ⟨es, rfl, hp, hkl⟩ := hD.entries hK.keyed
    have h1 := Maps.size_put (k := K.lit k) (D := DataW.map es) ⟨es, rfl, hp⟩ (.held (nv n))
    split at h1 <;> omega
  · have hne : ∀ {j}, j ≠ k → K.lit j ≠ K.lit k := fun hj e => hj (hK.inj _ _ e)
    by_cases hc : j = k
    · subst hc
      rw [updK_same]
      refine ⟨(fun e => by cases e), fun u e => ?_⟩
      injection e with e; subst e
      exact ⟨has_put_same hD.isMap (hK.keyed.key (hK.key j hk)) _, fun z => atKey_put_same hD.isMap (hK.keyed.key (hK.key j hk)) _ _⟩
    · rw [updK_other f _ hc, has_put_other (hne hc)]
      refine ⟨(ha j hj).1, fun u e => ⟨((ha j hj).2 u e).1, fun z => ?_⟩⟩
      rw [atKey_put_other (hne hc)]
      exact ((ha j hj).2 u e).2 z
  · obtain ⟨es, c, es', c', _, rfl⟩ := ht'
    simp [setBlock]

/-- 'delete(m, k)' -/
theorem MapK.drop [DecidableEq α] {w : World} {b N : Nat} {f : α → Option Nat} (h : MapK K w b N f) (hK : KdOk K) {t e : TypeId} (ht : Try.prog.underlying t = some (.map K.kt e)) {k : α} (hk : K.ok k) (ty : TypeId) :
    ∃ w', (Builtin.delete_ #[t, K.kt] ty #[.map (some b), K.enc k]).run Try.prog w = .ok (.tuple #[]) w' ∧ MapK K w' b N (updK f k none) ∧ Keep (fun i => i = b) w w' ∧ w'.heap.size = w.heap.size := by
  obtain ⟨D, hD, hs, ha⟩ := h
  obtain ⟨w', hr, ho, ht'⟩ := hD.drop hK.keyed ht (hK.key k hk) ty
  refine ⟨w', hr, ⟨_, ownsMap_exact ho, ?_, fun j hj => ?_⟩, Keep.grown ht'.grown (fun _ e => (Option.some.inj e).symm), ?_⟩
  · obtain ⟨es, rfl, hp, hkl⟩ := hD.entries hK.keyed
    have h1 := Maps.size_del (k := K.lit k) (D := DataW.map es) ⟨es, rfl, hp⟩
    omega
  · have hne : ∀ {j}, j ≠ k → K.lit j ≠ K.lit k := fun hj e => hj (hK.inj _ _ e)
    by_cases hc : j = k
    · subst hc
      rw [updK_same]
      exact ⟨fun _ => has_del_same, fun u e => by cases e⟩
    · rw [updK_other f _ hc, has_del_other (hne hc)]
      refine ⟨(ha j hj).1, fun u e => ⟨((ha j hj).2 u e).1, fun z => ?_⟩⟩
      rw [atKey_del_other (hne hc)]
      exact ((ha j hj).2 u e).2 z
  · obtain ⟨es, c, es', c', _, rfl⟩ := ht'
    simp [setBlock]
end

end Qu
end Go.Proofs.Ytobmnkoohgkiiaa
