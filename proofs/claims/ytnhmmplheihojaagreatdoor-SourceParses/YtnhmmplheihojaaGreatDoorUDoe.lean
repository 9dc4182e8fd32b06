/- Package source: what a line does, by its first word. -/
import Derived.Test.YtnhmmplheihojaaGreatDoorUBeg
import Derived.Test.YtnhmmplheihojaaGreatDoorGMap
import Derived.Maps.RangeWalk
import Derived.Maps.Ext
import Derived.WalkSpells
import Derived.StringKeys
import Derived.Maps.Views
namespace Go.Proofs.YtnhmmplheihojaaGreatDoor
namespace U
open Go.RowKit Go.Maps Go.MapKept Go.ChangeMaps

/-- what a map holds, key by key -/
def AgrV (D : DataW Value) (f : ByteArray → Option Value) : Prop :=
  ∀ k, k.size ≤ maxLen → (f k = none → Maps.has D (Gr.lit k) = false) ∧ ∀ v, f k = some v → Maps.has D (Gr.lit k) = true ∧ ∀ z, D.atKey (Gr.lit k) z = .held v
def MapV (w : World) (b N : Nat) (f : ByteArray → Option Value) : Prop := ∃ D, w.ownsMap Tryz.prog 9 Gr.rawE b (Maps.size D) D ∧ Maps.size D ≤ N ∧ AgrV D f
theorem MapV.lt {w : World} {b N : Nat} {f : ByteArray → Option Value} (h : MapV w b N f) : b < w.heap.size := by obtain ⟨D, h, _⟩ := h; exact h.lt
theorem MapV.of_blk {w w' : World} {b N : Nat} {f : ByteArray → Option Value} (h : MapV w b N f) (hb : w'.heap[b]? = w.heap[b]?) : MapV w' b N f := by
  obtain ⟨D, ⟨es, c, h1, h2⟩, h3⟩ := h
  exact ⟨D, ⟨es, c, hb.trans h1, h2⟩, h3⟩
theorem MapV.fr {w w' : World} {b N B : Nat} {f : ByteArray → Option Value} (h : MapV w b N f) (k : Fr B w w') : MapV w' b N f := by
  refine h.of_blk (k.block b h.lt ?_)
  obtain ⟨D, ⟨es, c, h1, h2⟩, h3⟩ := h
  rintro ⟨_, cs, t, h', _⟩
  rw [h1] at h'
  cases h'
theorem mapV_made (w : World) : MapV (w.alloc (.map #[] 0)) w.heap.size 0 (fun _ => none) :=
  ⟨.map [], World.ownsMap_made w _ _ _, Nat.le_refl _, fun k _ => ⟨fun _ => rfl, fun v h => by cases h⟩⟩
theorem MapV.look {w : World} {b N : Nat} {f : ByteArray → Option Value} (h : MapV w b N f) {t e : TypeId} (ht : Tryz.prog.underlying t = some (.map 9 e)) {z : Value} (hz : ∀ w, (zeroValue e).run Tryz.prog w = .ok z w) {k : ByteArray} (hk : k.size ≤ maxLen) :
    (Instr.lookup t (.map (some b)) (.string k) false).run Tryz.prog w = .ok ((f k).getD z) w := by
  obtain ⟨D, hD, _, ha⟩ := h
  obtain ⟨v, ps, hr, hv⟩ := hD.lookup Gr.keyed ht (hz _) (zd := .held z) (zp := []) rfl (Gr.key hk)
  have e1 := Gr.rawE_inv hv
  cases hf : f k with
  | none =>
    have h0 := (ha k hk).1 hf
    rw [atKey_of_not_has h0] at e1
    have e2 := DataW.held.inj e1
    subst e2
    exact hr
  | some u =>
    obtain ⟨h3, h4⟩ := (ha k hk).2 u hf
    rw [h4] at e1
    have e2 := DataW.held.inj e1
    subst e2
    exact hr
theorem MapV.store {w : World} {b N : Nat} {f : ByteArray → Option Value} (h : MapV w b N f) {t e : TypeId} (ht : Tryz.prog.underlying t = some (.map 9 e)) {k : ByteArray} (hk : k.size ≤ maxLen) (hN : N < 9007199254740992) (u : Value) :
    ∃ w', (Instr.mapUpdate t (.map (some b)) (.string k) u).run Tryz.prog w = .ok () w' ∧ MapV w' b (N + 1) (Gr.updS f k (some u)) ∧ Keep (fun i => i = b) w w' ∧ w'.heap.size = w.heap.size := by
  obtain ⟨D, hD, hs, ha⟩ := h
  obtain ⟨w', hr, ho, ht'⟩ := hD.store Gr.keyed ht (show Maps.size D < maxLen by have : (9007199254740992 : Nat) < maxLen := (by decide); omega) (Gr.key hk) (val := u) (d := .held u) (ps := []) rfl
  refine ⟨w', hr, ⟨_, Gr.ownsMap_exact ho, ?_, fun j hj => ?_⟩, Keep.grown ht'.grown (fun _ e => (Option.some.inj e).symm), ?_⟩
  · obtain ⟨es, rfl, hp, hkl⟩ := hD.entries Gr.keyed
    have h1 := Maps.size_put (k := Gr.lit k) (D := DataW.map es) ⟨es, rfl, hp⟩ (.held u)
    split at h1 <;> omega
  · have hne : ∀ {j}, j ≠ k → Gr.lit j ≠ Gr.lit k := fun hj e => hj (Gr.lit_inj e)
    by_cases hc : j = k
    · subst hc
      rw [Gr.updS_same]
      refine ⟨(fun e => by cases e), fun u e => ?_⟩
      injection e with e; subst e
      exact ⟨has_put_same hD.isMap (Gr.keyed.key (Gr.key hk)) _, fun z => atKey_put_same hD.isMap (Gr.keyed.key (Gr.key hk)) _ _⟩
    · rw [Gr.updS_other f _ hc, has_put_other (hne hc)]
      refine ⟨(ha j hj).1, fun u e => ⟨((ha j hj).2 u e).1, fun z => ?_⟩⟩
      rw [atKey_put_other (hne hc)]
      exact ((ha j hj).2 u e).2 z
  · obtain ⟨es, c, es', c', _, rfl⟩ := ht'
    simp [setBlock]
/-- the functions by their words -/
def doers : ByteArray → Option Value :=
  Gr.updS (Gr.updS (Gr.updS (Gr.updS (fun _ => none) (ba kwPlan) (some (.func (.func 67) #[] #[]))) (ba kwNode) (some (.func (.func 68) #[] #[]))) (ba kwNeeds) (some (.func (.func 69) #[] #[]))) (ba kwAfter) (some (.func (.func 71) #[] #[]))
theorem kw_size : (ba kwPlan).size ≤ maxLen ∧ (ba kwNode).size ≤ maxLen ∧ (ba kwNeeds).size ≤ maxLen ∧ (ba kwAfter).size ≤ maxLen := by
  simp only [ba_size]
  unfold maxLen
  decide
set_option maxHeartbeats 1000000 in
theorem doers_any (w : World) :
    Calls Tryz.prog 42 #[] w fun e w' => ∃ b, e = .returned (.map (some b)) ∧ MapV w' b 4 doers ∧ Below w.heap.size w w' ∧ w.heap.size ≤ b := by
  obtain ⟨z1, z2, z3, z4⟩ := kw_size
  have m0 := mapV_made w
  obtain ⟨w1, s1, m1, k1, g1⟩ := m0.store Tryz.underlying98 z1 (by decide) (.func (.func 67) #[] #[])
  obtain ⟨w2, s2, m2, k2, g2⟩ := m1.store Tryz.underlying98 z2 (by decide) (.func (.func 68) #[] #[])
  obtain ⟨w3, s3, m3, k3, g3⟩ := m2.store Tryz.underlying98 z3 (by decide) (.func (.func 69) #[] #[])
  obtain ⟨w4, s4, m4, k4, g4⟩ := m3.store Tryz.underlying98 z4 (by decide) (.func (.func 71) #[] #[])
  have hm : ∀ W, (Instr.makeMap 98 none).run Tryz.prog W = .ok (.map (some W.heap.size)) (W.alloc (.map #[] 0)) := by
    intro W
    simp [Instr.makeMap]
  have M4 := hide m4
  have K := hide ((((Keep.alloc (fun i => i = w.heap.size) w (.map #[] 0)).more k1).more k2).more (k3.more k4))
  clear m0 m1 m2 m3 m4 k1 k2 k3 k4 g1 g2 g3 g4
  unfold ba kwPlan at s1
  unfold ba kwNode at s2
  unfold ba kwNeeds at s3
  unfold ba kwAfter at s4
  go_enter Tryz.func42, Tryz.ntmps42
  go_wp2_with fail
  go_ret
  exact ⟨_, rfl, M4.out, K.out.below (Nat.le_refl _) (fun i e => by omega), Nat.le_refl _⟩
end U
end Go.Proofs.YtnhmmplheihojaaGreatDoor
