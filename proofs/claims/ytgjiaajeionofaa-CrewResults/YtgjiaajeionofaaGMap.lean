/- A map of names to numbers. -/
import Derived.Test.YtgjiaajeionofaaGFun
import Derived.Maps.RangeWalk
import Derived.Maps.Ext
import Derived.WalkSpells
import Derived.OpenShut
import Derived.Deep.QuietTactic
import Derived.Deep.Draws
import Derived.StringKeys
import Derived.Maps.Views
namespace Go.Proofs.Ytgjiaajeionofaa
namespace Gr
open Go.RowKit Go.Maps Go.MapKept Go.ChangeMaps

def rawE (v : Value) : Option (DataW Value × List MemPlace) := some (.held v, [])
theorem rawE_inv {v : Value} {d : DataW Value} {ps : List MemPlace} (h : rawE v = some (d, ps)) : d = .held v := by
  unfold rawE at h
  injection h with h
  injection h with h _
  exact h.symm
def nv (n : Nat) : Value := .int .i64 (n : Int)
def lit (k : ByteArray) : Lit := .string k.data.toList
theorem lit_inj {a b : ByteArray} (h : lit a = lit b) : a = b := by
  have := Lit.string.inj h
  cases a; cases b
  simp at this
  rw [this]
theorem keyed : Keyed Try.prog 9 := string_keyed Try.underlying9
theorem key {a : ByteArray} (h : a.size ≤ maxLen) : keyOf Try.prog 9 (.string a) = some (lit a) := Go.WideMaps.keyOf_string_mk Try.underlying9 h
/-- what a datum holds, key by key -/
def Agr (D : DataW Value) (f : ByteArray → Option Nat) : Prop :=
  ∀ k, k.size ≤ maxLen → (f k = none → Maps.has D (lit k) = false) ∧ ∀ n, f k = some n → Maps.has D (lit k) = true ∧ ∀ z, D.atKey (lit k) z = .held (nv n)
/-- block b is a map that holds f, of no more than N keys -/
def MapS (w : World) (b N : Nat) (f : ByteArray → Option Nat) : Prop := ∃ D, w.ownsMap Try.prog 9 rawE b (Maps.size D) D ∧ Maps.size D ≤ N ∧ Agr D f
theorem MapS.lt {w : World} {b N : Nat} {f : ByteArray → Option Nat} (h : MapS w b N f) : b < w.heap.size := by obtain ⟨D, h, _⟩ := h; exact h.lt
theorem MapS.of_blk {w w' : World} {b N : Nat} {f : ByteArray → Option Nat} (h : MapS w b N f) (hb : w'.heap[b]? = w.heap[b]?) : MapS w' b N f := by
  obtain ⟨D, ⟨es, c, h1, h2⟩, h3⟩ := h
  exact ⟨D, ⟨es, c, hb.trans h1, h2⟩, h3⟩
theorem MapS.keep {w w' : World} {b N : Nat} {f : ByteArray → Option Nat} (h : MapS w b N f) {S : Nat → Prop} (hk : Keep S w w') (hb : ¬ S b) : MapS w' b N f := h.of_blk (hk.block b h.lt hb)
theorem ownsMap_exact {w : World} {b n : Nat} {D : DataW Value} (h : w.ownsMap Try.prog 9 rawE b n D) : w.ownsMap Try.prog 9 rawE b (Maps.size D) D := by
  obtain ⟨es, c, h1, h2, _, h4⟩ := h
  exact ⟨es, c, h1, h2, by rw [h4]; simp [Maps.size, length_sorted], h4⟩
theorem mapS_made (w : World) : MapS (w.alloc (.map #[] 0)) w.heap.size 0 (fun _ => none) :=
  ⟨.map [], World.ownsMap_made w _ _ _, Nat.le_refl _, fun k _ => ⟨fun _ => rfl, fun v h => by cases h⟩⟩
theorem MapS.look {w : World} {b N : Nat} {f : ByteArray → Option Nat} (h : MapS w b N f) {t e : TypeId} (ht : Try.prog.underlying t = some (.map 9 e)) {z : Value} (hz : ∀ w, (zeroValue e).run Try.prog w = .ok z w) {k : ByteArray} (hk : k.size ≤ maxLen) :
    ∀ j, (Instr.lookup t (.map (some b)) (.string k) false).run Try.prog (w.drewN j) = .ok (((f k).map nv).getD z) (w.drewN j) := by
  intro j
  have h' : MapS (w.drewN j) b N f := h.of_blk rfl
  obtain ⟨D, hD, _, ha⟩ := h'
  obtain ⟨v, ps, hr, hv⟩ := hD.lookup keyed ht (hz _) (zd := .held z) (zp := []) rfl (key hk)
  have e1 := rawE_inv hv
  cases hf : f k with
  | none =>
    have h0 := (ha k hk).1 hf
    rw [atKey_of_not_has h0] at e1
    have e2 := DataW.held.inj e1
    subst e2
    exact hr
  | some u =>
    obtain ⟨h3, h4⟩ := (ha k hk).2 u hf
    rw [h4] at e1
    have e2 := DataW.held.inj e1
    subst e2
    exact hr
def updS {β : Type} (f : ByteArray → β) (k : ByteArray) (v : β) : ByteArray → β := fun j => if j = k then v else f j
theorem updS_same {β : Type} (f : ByteArray → β) (k : ByteArray) (v : β) : updS f k v k = v := by simp [updS]
theorem updS_other {β : Type} (f : ByteArray → β) {k j : ByteArray} (v : β) (h : j ≠ k) : updS f k v j = f j := by simp [updS, h]
theorem MapS.store {w : World} {b N : Nat} {f : ByteArray → Option Nat} (h : MapS w b N f) {t e : TypeId} (ht : Try.prog.underlying t = some (.map 9 e)) {k : ByteArray} (hk : k.size ≤ maxLen) (hN : N < 9007199254740992) (n : Nat) :
    ∃ w', (Instr.mapUpdate t (.map (some b)) (.string k) (nv n)).run Try.prog w = .ok () w' ∧ MapS w' b (N + 1) (updS f k (some n)) ∧ Keep (fun i => i = b) w w' ∧ w'.heap.size = w.heap.size := by
  obtain ⟨D, hD, hs, ha⟩ := h
  obtain ⟨w', hr, ho, ht'⟩ := hD.store keyed ht (show Maps.size D < maxLen by have : (9007199254740992 : Nat) < maxLen := (by decide); omega) (key hk) (val := nv n) (d := .held (nv n)) (ps := []) rfl
  refine ⟨w', hr, ⟨_, ownsMap_exact ho, ?_, fun j hj => ?_⟩, Keep.grown ht'.grown (fun _ e => (Option.some.inj e).symm), ?_⟩
  · obtain ⟨es, rfl, hp, hkl⟩ := hD.entries keyed
    have h1 := Maps.size_put (k := lit k) (D := DataW.map es) ⟨es, rfl, hp⟩ (.held (nv n))
    split at h1 <;> omega
  · have hne : ∀ {j}, j ≠ k → lit j ≠ lit k := fun hj e => hj (lit_inj e)
    by_cases hc : j = k
    · subst hc
      rw [updS_same]
      refine ⟨(fun e => by cases e), fun u e => ?_⟩
      injection e with e; subst e
      exact ⟨has_put_same hD.isMap (keyed.key (key hk)) _, fun z => atKey_put_same hD.isMap (keyed.key (key hk)) _ _⟩
    · rw [updS_other f _ hc, has_put_other (hne hc)]
      refine ⟨(ha j hj).1, fun u e => ⟨((ha j hj).2 u e).1, fun z => ?_⟩⟩
      rw [atKey_put_other (hne hc)]
      exact ((ha j hj).2 u e).2 z
  · obtain ⟨es, c, es', c', _, rfl⟩ := ht'
    simp [setBlock]
theorem run_makeMap_hint {t k e : TypeId} (ht : Try.prog.underlying t = some (.map k e)) (n : Int) (w : World) : (Instr.makeMap t (some (.int .i64 n))).run Try.prog w = .ok (.map (some w.heap.size)) (w.alloc (.map #[] 0)) := by
  simp [Instr.makeMap, run_underlying ht, asInt, asIntOf, Result.andThen]
end Gr
end Go.Proofs.Ytgjiaajeionofaa
