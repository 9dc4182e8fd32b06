import Derived.Test.YtfoahfgehmghcaaGreatDoorUBeg
import Derived.Test.YtfoahfgehmghcaaGreatDoorGEdg
import Derived.Maps.RangeWalk
import Derived.Maps.Ext
import Derived.WalkSpells
import Derived.StringKeys
import Derived.Maps.Views
/- Package source: what a line does, by its first word. -/
namespace Go.Proofs.YtfoahfgehmghcaaGreatDoor
namespace U
open Go.RowKit Go.Maps Go.MapKept Go.ChangeMaps

/-- what a map holds, key by key -/
def AgrV (D : DataW Value) (f : ByteArray → Option Value) : Prop :=
  ∀ k, k.size ≤ maxLen → (f k = none → Maps.has D (Gr.lit k) = false) ∧ ∀ v, f k = some v → Maps.has D (Gr.lit k) = true ∧ ∀ z, D.atKey (Gr.lit k) z = .held v
def MapV (w : World) (b N : Nat) (f : ByteArray → Option Value) : Prop := ∃ D, w.ownsMap Tryz.prog 9 Gr.rawE b (Maps.size D) D ∧ Maps.size D ≤ N ∧ AgrV D f
theorem MapV.lt {w : World} {b N : Nat} {f : ByteArray → Option Value} (h : MapV w b N f) : b < w.heap.size := by obtain ⟨D, h, _⟩ := h; exact h.lt
theorem MapV.of_blk {w w' : World} {b N : Nat} {f : ByteArray → Option Value} (h : MapV w b N f) (hb : w'.heap[b]? = w.heap[b]?) : MapV w' b N f := by
  obtain ⟨D, ⟨es, c, h1, h2⟩, h3⟩ := h
  exact ⟨D, ⟨es, c, hb.trans h1, h2⟩, h3⟩
theorem MapV.fr {w w' : World} {b N B : Nat} {f : ByteArray → Option Value} (h : MapV w b N f) (k : Fr B w w') : MapV w' b N f := by
  refine h.of_blk (k.block b h.lt ?_)
  obtain ⟨D, ⟨es, c, h1, h2⟩, h3⟩ := h
  rintro ⟨_, cs, t, h', _⟩
  rw [h1] at h'
  cases h'
theorem mapV_made (w : World) : MapV (w.alloc (.map #[] 0)) w.heap.size 0 (fun _ => none) :=
  ⟨.map [], World.ownsMap_made w _ _ _, Nat.le_refl _, fun k _ => ⟨fun _ => rfl, fun v h => by cases h⟩⟩
theorem MapV.look {w : World} {b N : Nat} {f : ByteArray → Option Value} (h : MapV w b N f) {t e : TypeId} (ht : Tryz.prog.underlying t = some (.map 9 e)) {z : Value} (hz : ∀ w, (zeroValue e).run Tryz.prog w = .ok z w) {k : ByteArray} (hk : k.size ≤ maxLen) :
    (Instr.lookup t (.map (some b)) (.string k) false).run Tryz.prog w = .ok ((f k).getD z) w := by
  obtain ⟨D, hD, _, ha⟩ := h
  obtain ⟨v, ps, hr, hv⟩ := hD.lookup Gr.keyed ht (hz _) (zd := .held z) (zp := []) rfl (Gr.key hk)
  have e1 := Gr.rawE_inv hv
  cases hf : f k with
  | none =>
    have h0 := (ha k hk).1 hf
    rw [atKey_of_not_has h0] at e1
    have e2 := DataW.held.inj e1
    subst e2
    exact hr
  | some u =>
    obtain ⟨h3, h4⟩ := (ha k hk).2 u hf
    rw [h4] at e1
    have e2 := DataW.held.inj e1
    subst e2
    exact hr
theorem MapV.store {w : World} {b N : Nat} {f : ByteArray → Option Value} (h : MapV w b N f) {t e : TypeId} (ht : Tryz.prog.underlying t = some (.map 9 e)) {k : ByteArray} (hk : k.size ≤ maxLen) (hN : N < 9007199254740992) (u : Value) :
    ∃ w', (Instr.mapUpdate t (.map (some b)) (.string k) u).run Tryz.prog w = .ok () w' ∧ MapV w' b (N + 1) (Gr.updS f k (some u)) ∧ Keep (fun i => i = b) w w' ∧ w'.heap.size = w.heap.size := by
  obtain ⟨D, hD, hs, ha⟩ := h
  obtain ⟨w', hr, ho, ht'⟩ := hD.store Gr.keyed ht (show Maps.size D < maxLen by have : (9007199254740992 : Nat) < maxLen := (by decide); omega) (Gr.key hk) (val := u) (d := .held u) (ps := []) rfl
  refine ⟨w', hr, ⟨_, Gr.ownsMap_exact ho, ?_, fun j hj => ?_⟩, Keep.grown ht'.grown (fun _ e => (Option.some.inj e).symm), ?_⟩
  · obtain ⟨es, rfl, hp, hkl⟩ := hD.entries Gr.keyed
    have h1 := Maps.size_put (k := Gr.lit k) (D := DataW.map es) ⟨es, rfl, hp⟩ (.held u)
    split at h1 <;> omega
  · have hne : ∀ {j}, j ≠ k → Gr.lit j ≠ Gr.lit k := fun hj e => hj (Gr.lit_inj e)
    by_cases hc : j = k
    · subst hc
      rw [Gr.updS_same]
      refine ⟨(fun e => by cases e), fun u e => ?_⟩
      injection e with e; subst e
      exact ⟨has_put_same hD.isMap (Gr.keyed.key (Gr.key hk)) _, fun z => atKey_put_same hD.isMap (Gr.keyed.key (Gr.key hk)) _ _⟩
    · rw [Gr.updS_other f _ hc, has_put_other (hne hc)]
      refine ⟨(ha j hj).1, fun u e => ⟨((ha j hj).2 u e).1, fun z => ?_⟩⟩
      rw [atKey_put_other (hne hc)]
      exact ((ha j hj).2 u e).2 z
  · obtain ⟨es, c, es', c', _, rfl⟩ := ht'
    simp [setBlock]
/-- the functions by their words -/
def doers : ByteArray → Option Value :=
  Gr.updS (Gr.updS (Gr.updS (Gr.updS (fun _ => none) (ba kwPlan) (some (.func (.func 83) #[] #[]))) (ba kwNode) (some (.func (.func 84) #[] #[]))) (ba kwNeeds) (some (.func (.func 85) #[] #[]))) (ba kwAfter) (some (.func (.func 87) #[] #[]))
theorem kw_size : (ba kwPlan).size ≤ maxLen ∧ (ba kwNode).size ≤ maxLen ∧ (ba kwNeeds).size ≤ maxLen ∧ (ba kwAfter).size ≤ maxLen := by
  simp only [ba_size]
  unfold maxLen
  decide
set_option maxHeartbeats 1000000 in
theorem doers_any (w : World) :
    Calls Tryz.prog 64 #[] w fun e w' => ∃ b, e = .returned (.map (some b)) ∧ MapV w' b 4 doers ∧ Below w.heap.size w w' ∧ w.heap.size ≤ b := by
  obtain ⟨z1, z2, z3, z4⟩ := kw_size
  have m0 := mapV_made w
  obtain ⟨w1, s1, m1, k1, g1⟩ := m0.store Tryz.underlying121 z1 (by decide) (.func (.func 83) #[] #[])
  obtain ⟨w2, s2, m2, k2, g2⟩ := m1.store Tryz.underlying121 z2 (by decide) (.func (.func 84) #[] #[])
  obtain ⟨w3, s3, m3, k3, g3⟩ := m2.store Tryz.underlying121 z3 (by decide) (.func (.func 85) #[] #[])
  obtain ⟨w4, s4, m4, k4, g4⟩ := m3.store Tryz.underlying121 z4 (by decide) (.func (.func 87) #[] #[])
  have hm : ∀ W, (Instr.makeMap 121 none).run Tryz.prog W = .ok (.map (some W.heap.size)) (W.alloc (.map #[] 0)) := by
    intro W
    simp [Instr.makeMap]
  have M4 := hide m4
  have K := hide ((((Keep.alloc (fun i => i = w.heap.size) w (.map #[] 0)).more k1).more k2).more (k3.more k4))
  clear m0 m1 m2 m3 m4 k1 k2 k3 k4 g1 g2 g3 g4
  unfold ba kwPlan at s1
  unfold ba kwNode at s2
  unfold ba kwNeeds at s3
  unfold ba kwAfter at s4
  go_enter Tryz.func64, Tryz.ntmps64
  go_wp2_with fail
  go_ret
  exact ⟨_, rfl, M4.out, K.out.below (Nat.le_refl _) (fun i e => by omega), Nat.le_refl _⟩
end U
end Go.Proofs.YtfoahfgehmghcaaGreatDoor

/- Package source: a draft that grows by a node, a place, a mention. -/
namespace Go.Proofs.YtfoahfgehmghcaaGreatDoor
namespace U
open Go.RowKit

/-- what an append leaves, seen from the world ahead of it: t is the temporary block -/
theorem grown_keep {w w4 : World} {v : Value} (o : Obj) (g : (w.alloc o).drew.grownBy w4 v.ownBlock) : Keep (fun k => v.ownBlock = some k) w w4 :=
  (((Keep.alloc (fun k => v.ownBlock = some k) w o).more (Keep.drew _ _)).more (Keep.grown (S := fun k => v.ownBlock = some k) g fun _ e => e))
theorem Keep.stays {w w' : World} {B : Nat} {e t : TypeId} {s : Nat} {v : Value} {n : Nat} {xs : List Value} (h : w.ownsRow B e s v n xs) (k : Keep (fun k => v.ownBlock = some k) w w') {O : Nat} {cs : Array Value} (hO : w.heap[O]? = some (.cells cs t (0, 0))) (ht : t ≠ e) : w'.heap[O]? = some (.cells cs t (0, 0)) :=
  k.blk hO (own_far h hO ht)
theorem MsAt.stays {B : Nat} {w w' : World} {e : TypeId} {s : Nat} {v : Value} {n : Nat} {xs : List Value} (h : w.ownsRow B e s v n xs) (k : Keep (fun k => v.ownBlock = some k) w w') {vm : Value} {ms : List Mn} (hm : MsAt B w vm ms) (h1 : e ≠ 131) (h2 : e ≠ 9) : MsAt B w' vm ms := by
  refine hm.keep k (fun g hg hg' => ?_) (fun g hg => own_noStr h h2 hg)
  obtain ⟨l, _, ho, _⟩ := hm
  exact own_apart h ho h1 hg' hg
theorem own_put {w : World} {b : Nat} {e : TypeId} {s : Nat} {v : Value} {n : Nat} {xs : List Value} (h : w.ownsRow b e s v n xs) {D j : Nat} {u : Value} {cs : Array Value} {t : TypeId} (hD : w.heap[D]? = some (.cells cs t (0, 0))) (ht : t ≠ e) : (w.setCell ⟨D, j, none⟩ u).ownsRow b e s v n xs :=
  own_keep h (keep_cell w D j u) fun g hg e => by subst e; exact own_far h hD ht hg
theorem MsAt.put {B : Nat} {w : World} {vm : Value} {ms : List Mn} (h : MsAt B w vm ms) {D j : Nat} {u : Value} {cs : Array Value} {t : TypeId} (hD : w.heap[D]? = some (.cells cs t (0, 0))) (ht : t ≠ 131) (ht2 : t ≠ 9) : MsAt B (w.setCell ⟨D, j, none⟩ u) vm ms := by
  refine h.keep (keep_cell w D j u) (fun g hg e => ?_) (fun g e => ?_)
  · subst e
    obtain ⟨l, _, ho, _⟩ := h
    exact own_far ho hD ht hg
  · subst e; exact not_strB hD ht2
theorem own_tb {w : World} {b : Nat} {e : TypeId} {s : Nat} {v : Value} {n : Nat} {xs : List Value} (h : w.ownsRow b e s v n xs) (he : e = 32 ∨ e = 3 ∨ e = 131) {g : Nat} (hg : v.ownBlock = some g) : b ≤ g ∧ Tb w g := by
  obtain ⟨h1, _, cur, h3⟩ := own_blk h hg
  refine ⟨h1, cur, e, h3, ?_⟩
  rcases he with he | he | he
  · exact .inr (.inr (.inl he))
  · exact .inr (.inr (.inr (.inl he)))
  · exact .inr (.inr (.inr (.inr he)))

/-- a node more -/
theorem DrX.addNd {B : Nat} {w : World} {D : Nat} {d : Dr} {vn vp vm : Value} (X : DrX B w D d vn vp vm) (hl : d.nds.length < 1000000) (x : Pn) (c : Nat) (ty : TypeId) :
    ∃ v' w4, (Builtin.append_ #[22, 22] ty #[vn, .slice (some ⟨w.heap.size, 0, none⟩) 1 c]).run Tryz.prog (w.alloc (.cells (no x).q.row.toArray 32)).drew = .ok v' w4 ∧
      w4.heap[D]? = some (.cells (drow d vn vp vm).toArray 87 (0, 0)) ∧ DrX B (w4.setCell ⟨D, 2, none⟩ v') D { d with nds := d.nds ++ [x] } v' vp vm ∧ Fr B w (w4.setCell ⟨D, 2, none⟩ v') ∧
      (∀ (O : Nat) (cs : Array Value), w.heap[O]? = some (.cells cs 128 (0, 0)) → w4.heap[O]? = some (.cells cs 128 (0, 0)) ∧ (w4.setCell ⟨D, 2, none⟩ v').heap[O]? = some (.cells cs 128 (0, 0))) := by
  obtain ⟨h0, h1, h2, h3, h4⟩ := X
  have hB : B ≤ w.heap.size := by have := (Array.getElem?_eq_some_iff.1 h1).1; omega
  have ow := own_below h2 ((Below.refl w.heap.size w).alloc (Nat.le_refl _) (.cells (no x).q.row.toArray 32)).drew
  rw [show d.nds.length = (d.nds.map fun x => (no x).q).length by simp] at ow
  obtain ⟨v', w4, hap, own4, gr4⟩ := append_node ow (by simp; omega) (by simpa using hl) (no x).q (B := w.heap.size) (fun j u hu => by
    rw [Addr.add_mid, Nat.zero_add]
    exact cell_blk (heap_alloc_new w _) j (by simpa using hu)) c ty
  have k4 := grown_keep _ gr4
  have b4 := Keep.stays h2 k4 h1 (by decide)
  have kk := keep_cell w4 D 2 v'
  refine ⟨v', w4, hap, b4, ⟨h0, (set_blk b4 2 v').trans rfl, ?_, ?_, ?_⟩, ?_, ?_⟩
  · have e1 : (d.nds ++ [x]).length = (d.nds.map fun x => (no x).q).length + 1 := by simp
    simp only
    rw [e1, List.map_append]
    exact own_put own4 b4 (by decide)
  · exact own_put (own_keep h3 k4 fun g hg hg' => own_apart h2 h3 (by decide) hg' hg) b4 (by decide)
  · exact MsAt.put (MsAt.stays h2 k4 h4 (by decide) (by decide)) b4 (by decide) (by decide)
  · have f1 : Fr B w w4 := Fr.ofKeep k4 fun k e => own_tb h2 (.inl rfl) e
    exact f1.trans (Fr.ofKeep kk fun k e => by subst e; exact ⟨h0, _, _, b4, .inl rfl⟩)
  · intro O cs hO
    have h := Keep.stays h2 k4 hO (by decide)
    refine ⟨h, kk.blk h fun e => ?_⟩
    subst e
    rw [b4] at h
    injection h with h
    injection h with _ h
    exact absurd h (by decide)
/-- a place more -/
theorem DrX.addPl {B : Nat} {w : World} {D : Nat} {d : Dr} {vn vp vm : Value} (X : DrX B w D d vn vp vm) (hl : d.places.length < 1000000) (pl : Nat) (c : Nat) (ty : TypeId) :
    ∃ v' w4, (Builtin.append_ #[30, 30] ty #[vp, .slice (some ⟨w.heap.size, 0, none⟩) 1 c]).run Tryz.prog (w.alloc (.cells #[.int .i64 (pl : Int)] 3)).drew = .ok v' w4 ∧
      w4.heap[D]? = some (.cells (drow d vn vp vm).toArray 87 (0, 0)) ∧ DrX B (w4.setCell ⟨D, 4, none⟩ v') D { d with places := d.places ++ [pl] } vn v' vm ∧ Fr B w (w4.setCell ⟨D, 4, none⟩ v') ∧
      (∀ (O : Nat) (cs : Array Value), w.heap[O]? = some (.cells cs 128 (0, 0)) → w4.heap[O]? = some (.cells cs 128 (0, 0)) ∧ (w4.setCell ⟨D, 4, none⟩ v').heap[O]? = some (.cells cs 128 (0, 0))) := by
  obtain ⟨h0, h1, h2, h3, h4⟩ := X
  have hB : B ≤ w.heap.size := by have := (Array.getElem?_eq_some_iff.1 h1).1; omega
  have ow := own_below h3 ((Below.refl w.heap.size w).alloc (Nat.le_refl _) (.cells #[.int .i64 (pl : Int)] 3)).drew
  obtain ⟨v', w4, hap, own4, gr4⟩ := append_num ow (by simp; omega) hl pl (B := w.heap.size) (cell_blk (heap_alloc_new w _) 0 rfl) c ty
  have k4 := grown_keep _ gr4
  have b4 := Keep.stays h3 k4 h1 (by decide)
  have kk := keep_cell w4 D 4 v'
  refine ⟨v', w4, hap, b4, ⟨h0, (set_blk b4 4 v').trans rfl, ?_, ?_, ?_⟩, ?_, ?_⟩
  · exact own_put (own_keep h2 k4 fun g hg hg' => own_apart h3 h2 (by decide) hg' hg) b4 (by decide)
  · have e1 : (d.places ++ [pl]).length = d.places.length + 1 := by simp
    simp only
    rw [e1]
    exact own_put own4 b4 (by decide)
  · exact MsAt.put (MsAt.stays h3 k4 h4 (by decide) (by decide)) b4 (by decide) (by decide)
  · have f1 : Fr B w w4 := Fr.ofKeep k4 fun k e => own_tb h3 (.inr (.inl rfl)) e
    exact f1.trans (Fr.ofKeep kk fun k e => by subst e; exact ⟨h0, _, _, b4, .inl rfl⟩)
  · intro O cs hO
    have h := Keep.stays h3 k4 hO (by decide)
    refine ⟨h, kk.blk h fun e => ?_⟩
    subst e
    rw [b4] at h
    injection h with h
    injection h with _ h
    exact absurd h (by decide)
/-- a mention more -/
theorem DrX.addMs {B : Nat} {w : World} {D : Nat} {d : Dr} {vn vp vm : Value} (X : DrX B w D d vn vp vm) (hl : d.ms.length < 1000000) (m : Mn) (a : Option Addr) (ca : Nat) (hm : RdS w a m.names) (hc : m.names.length ≤ ca) (c : Nat) (ty : TypeId) :
    ∃ v' w4, (Builtin.append_ #[85, 85] ty #[vm, .slice (some ⟨w.heap.size, 0, none⟩) 1 c]).run Tryz.prog (w.alloc (.cells #[.int .i64 (m.place : Int), .int .i64 (m.node : Int), .int .i64 (m.kind : Int), .slice a m.names.length ca] 131)).drew = .ok v' w4 ∧
      w4.heap[D]? = some (.cells (drow d vn vp vm).toArray 87 (0, 0)) ∧ DrX B (w4.setCell ⟨D, 7, none⟩ v') D { d with ms := d.ms ++ [m] } vn vp v' ∧ Fr B w (w4.setCell ⟨D, 7, none⟩ v') ∧
      (∀ (O : Nat) (cs : Array Value), w.heap[O]? = some (.cells cs 128 (0, 0)) → w4.heap[O]? = some (.cells cs 128 (0, 0)) ∧ (w4.setCell ⟨D, 7, none⟩ v').heap[O]? = some (.cells cs 128 (0, 0))) := by
  obtain ⟨h0, h1, h2, h3, l, hle, h4, h5⟩ := X
  have hB : B ≤ w.heap.size := by have := (Array.getElem?_eq_some_iff.1 h1).1; omega
  have ow := own_below h4 ((Below.refl w.heap.size w).alloc (Nat.le_refl _) (.cells #[.int .i64 (m.place : Int), .int .i64 (m.node : Int), .int .i64 (m.kind : Int), .slice a m.names.length ca] 131)).drew
  have hll : l.length = d.ms.length := by rw [← hle]; simp
  obtain ⟨v', w4, hap, own4, gr4⟩ := append_men ow (by simp; omega) (by omega) (m, a, ca) (B := w.heap.size) (fun j u hu => by
    rw [Addr.add_mid, Nat.zero_add]
    exact cell_blk (heap_alloc_new w _) j (by simpa [mrow] using hu)) c ty
  have k4 := grown_keep _ gr4
  have b4 := Keep.stays h4 k4 h1 (by decide)
  have kk := keep_cell w4 D 7 v'
  have hns : ∀ g, vm.ownBlock = some g → ¬ StrB w g := fun g hg => own_noStr h4 (by decide) hg
  have hd4 : ∀ g, g = D → ¬ StrB w4 g := fun g e => by subst e; exact not_strB b4 (by decide)
  refine ⟨v', w4, hap, b4, ⟨h0, (set_blk b4 7 v').trans rfl, ?_, ?_, l ++ [(m, a, ca)], ?_, ?_, ?_⟩, ?_, ?_⟩
  · exact own_put (own_keep h2 k4 fun g hg hg' => own_apart h4 h2 (by decide) hg' hg) b4 (by decide)
  · exact own_put (own_keep h3 k4 fun g hg hg' => own_apart h4 h3 (by decide) hg' hg) b4 (by decide)
  · simp [hle]
  · rw [show (l ++ [(m, a, ca)]).length = l.length + 1 by simp]
    exact own_put own4 b4 (by decide)
  · intro y hy
    rcases List.mem_append.1 hy with hy | hy
    · exact ⟨((h5 y hy).1.keep k4 hns).keep kk hd4, (h5 y hy).2⟩
    · obtain rfl := List.mem_singleton.1 hy
      exact ⟨(hm.keep k4 hns).keep kk hd4, hc⟩
  · have f1 : Fr B w w4 := Fr.ofKeep k4 fun k e => own_tb h4 (.inr (.inr rfl)) e
    exact f1.trans (Fr.ofKeep kk fun k e => by subst e; exact ⟨h0, _, _, b4, .inl rfl⟩)
  · intro O cs hO
    have h := Keep.stays h4 k4 hO (by decide)
    refine ⟨h, kk.blk h fun e => ?_⟩
    subst e
    rw [b4] at h
    injection h with h
    injection h with _ h
    exact absurd h (by decide)
end U
end Go.Proofs.YtfoahfgehmghcaaGreatDoor
