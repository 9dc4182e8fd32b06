import Derived.Test.YtbjcckfhfbjchaaGreatGPrim
import Derived.Maps.RangeWalk
import Derived.Maps.Ext
import Derived.WalkSpells
import Derived.OpenShut
import Derived.Deep.QuietTactic
import Derived.Deep.Draws
import Derived.StringKeys
import Derived.Maps.Views
/- slices.IndexFunc and ContainsFunc, with a function that may turn memory. -/
namespace Go.Proofs.YtbjcckfhfbjchaaGreat
namespace Gr
open Go.RowKit

set_option maxHeartbeats 1000000 in
theorem indexFunc_any (F : FuncId) (caps : Array Value) (S : Nat → Prop) (J T : Nat → World → Prop) (s : Option Addr × Nat × Nat) (z : List Int) (B : Nat) (w : World) (hz : RdZ B w s z) (hS : ∀ i, S i → B ≤ i) (h0 : J 0 w) (hF : ∀ args w, (callFunc F args).run Tryz.prog w = .ok (.enter F args) w)
    (hstep : ∀ k x W, z[k]? = some x → J k W → Keep S w W → Calls Tryz.prog F (#[.int .i64 x] ++ caps) W fun e W' => ∃ r : Bool, e = .returned (.bool r) ∧ (r = false → J (k + 1) W') ∧ (r = true → T k W') ∧ Keep S W W') :
    Calls Tryz.prog 154 #[.slice s.1 s.2.1 s.2.2, .func (.func F) #[] caps] w fun e w' => ∃ i : Int, e = .returned (.int .i64 i) ∧ (i = -1 ∧ J z.length w' ∨ ∃ k : Nat, i = k ∧ k < z.length ∧ T k w') ∧ Keep S w w' := by
  obtain ⟨a, n, c⟩ := s
  have HN : Hid (n = z.length) := hz.1
  have hn2 : n ≤ 17592186044416 := hz.2.1
  have HZ := hide hz
  have HJ := hide h0
  have HS := hide hstep
  clear hz h0 hstep
  go_enter Tryz.func154, Tryz.ntmps154
  go_wp2_with fail
  go_loopw [8] (fun iv wr => ∃ i : Nat, iv = .int .i64 (i : Nat) ∧ i ≤ n ∧ Hid (J i wr ∧ Keep S w wr)) (fun iv _ => n - (intOf iv).toNat)
  case atStart => exact ⟨0, rfl, Nat.zero_le _, HJ.out, Keep.refl _ _⟩
  case round =>
    obtain ⟨i, rfl, hi, HD⟩ := hrel
    by_cases hlt : i < n
    · obtain ⟨g, off, x, rfl, hg, hx, hc⟩ := (HZ.out.keep HD.out.2 hS).at hlt
      have C := hide (HS.out i x wr hx HD.out.1 HD.out.2)
      have HX := hide hx
      clear hx HZ HS
      go_wp2_with fail
      refine C.out.mono ?_
      rintro e w2 ⟨r, rfl, r1, r2, k2⟩
      have R1 := hide r1
      have R2 := hide r2
      have K2 := hide (HD.out.2.more k2)
      clear r1 r2 k2
      cases r
      · go_wp2_with fail
        go_roundw
        · exact ⟨i + 1, rfl, by omega, R1.out (by trivial), K2.out⟩
        · show n - ((i : Int) + 1).toNat < n - (i : Int).toNat
          omega
      · go_wp2_with fail
        go_ret
        exact ⟨i, rfl, .inr ⟨i, rfl, by have := HN.out; omega, R2.out (by trivial)⟩, K2.out⟩
    · go_wp2_with fail
      go_ret
      obtain rfl : i = z.length := by have := HN.out; omega
      exact ⟨-1, rfl, .inl ⟨rfl, HD.out.1⟩, HD.out.2⟩

/-- a search that ends with nothing has met all, one that finds has stopped there -/
theorem containsFunc_any (F : FuncId) (caps : Array Value) (S : Nat → Prop) (J T : Nat → World → Prop) (s : Option Addr × Nat × Nat) (z : List Int) (B : Nat) (w : World) (hz : RdZ B w s z) (hS : ∀ i, S i → B ≤ i) (h0 : J 0 w) (hF : ∀ args w, (callFunc F args).run Tryz.prog w = .ok (.enter F args) w)
    (hstep : ∀ k x W, z[k]? = some x → J k W → Keep S w W → Calls Tryz.prog F (#[.int .i64 x] ++ caps) W fun e W' => ∃ r : Bool, e = .returned (.bool r) ∧ (r = false → J (k + 1) W') ∧ (r = true → T k W') ∧ Keep S W W') :
    Calls Tryz.prog 111 #[.slice s.1 s.2.1 s.2.2, .func (.func F) #[] caps] w fun e w' => ∃ r : Bool, e = .returned (.bool r) ∧ (r = false → J z.length w') ∧ (r = true → ∃ k : Nat, k < z.length ∧ T k w') ∧ Keep S w w' := by
  have I := hide (indexFunc_any F caps S J T s z B w hz hS h0 hF hstep)
  clear hstep hF hz h0
  go_enter Tryz.func111, Tryz.ntmps111
  go_wp2_with fail
  go_at_call 154
  refine I.out.mono ?_
  rintro e w1 ⟨i, rfl, h1, k1⟩
  have H1 := hide h1
  clear h1
  go_wp2_with fail
  go_ret
  refine ⟨_, rfl, fun h => ?_, fun h => ?_, k1⟩
  · rcases H1.out with ⟨rfl, hj⟩ | ⟨k, rfl, hk, ht⟩
    · exact hj
    · simp at h
  · rcases H1.out with ⟨rfl, hj⟩ | ⟨k, rfl, hk, ht⟩
    · simp at h
    · exact ⟨k, hk, ht⟩
theorem enter_e1 : ∀ args w, (callFunc 151 args).run Tryz.prog w = .ok (.enter 151 args) w := by
  intro args w
  simp [go_sem]
end Gr
end Go.Proofs.YtbjcckfhfbjchaaGreat

/- A map of names to numbers. -/
namespace Go.Proofs.YtbjcckfhfbjchaaGreat
namespace Gr
open Go.RowKit Go.Maps Go.MapKept Go.ChangeMaps

def rawE (v : Value) : Option (DataW Value × List MemPlace) := some (.held v, [])
theorem rawE_inv {v : Value} {d : DataW Value} {ps : List MemPlace} (h : rawE v = some (d, ps)) : d = .held v := by
  unfold rawE at h
  injection h with h
  injection h with h _
  exact h.symm
def nv (n : Nat) : Value := .int .i64 (n : Int)
def lit (k : ByteArray) : Lit := .string k.data.toList
theorem lit_inj {a b : ByteArray} (h : lit a = lit b) : a = b := by
  have := Lit.string.inj h
  cases a; cases b
  simp at this
  rw [this]
theorem keyed : Keyed Tryz.prog 9 := string_keyed Tryz.underlying9
theorem key {a : ByteArray} (h : a.size ≤ maxLen) : keyOf Tryz.prog 9 (.string a) = some (lit a) := Go.WideMaps.keyOf_string_mk Tryz.underlying9 h
/-- what a datum holds, key by key -/
def Agr (D : DataW Value) (f : ByteArray → Option Nat) : Prop :=
  ∀ k, k.size ≤ maxLen → (f k = none → Maps.has D (lit k) = false) ∧ ∀ n, f k = some n → Maps.has D (lit k) = true ∧ ∀ z, D.atKey (lit k) z = .held (nv n)
/-- block b is a map that holds f, of no more than N keys -/
def MapS (w : World) (b N : Nat) (f : ByteArray → Option Nat) : Prop := ∃ D, w.ownsMap Tryz.prog 9 rawE b (Maps.size D) D ∧ Maps.size D ≤ N ∧ Agr D f
theorem MapS.lt {w : World} {b N : Nat} {f : ByteArray → Option Nat} (h : MapS w b N f) : b < w.heap.size := by obtain ⟨D, h, _⟩ := h; exact h.lt
theorem MapS.of_blk {w w' : World} {b N : Nat} {f : ByteArray → Option Nat} (h : MapS w b N f) (hb : w'.heap[b]? = w.heap[b]?) : MapS w' b N f := by
  obtain ⟨D, ⟨es, c, h1, h2⟩, h3⟩ := h
  exact ⟨D, ⟨es, c, hb.trans h1, h2⟩, h3⟩
theorem MapS.keep {w w' : World} {b N : Nat} {f : ByteArray → Option Nat} (h : MapS w b N f) {S : Nat → Prop} (hk : Keep S w w') (hb : ¬ S b) : MapS w' b N f := h.of_blk (hk.block b h.lt hb)
theorem ownsMap_exact {w : World} {b n : Nat} {D : DataW Value} (h : w.ownsMap Tryz.prog 9 rawE b n D) : w.ownsMap Tryz.prog 9 rawE b (Maps.size D) D := by
  obtain ⟨es, c, h1, h2, _, h4⟩ := h
  exact ⟨es, c, h1, h2, by rw [h4]; simp [Maps.size, length_sorted], h4⟩
theorem mapS_made (w : World) : MapS (w.alloc (.map #[] 0)) w.heap.size 0 (fun _ => none) :=
  ⟨.map [], World.ownsMap_made w _ _ _, Nat.le_refl _, fun k _ => ⟨fun _ => rfl, fun v h => by cases h⟩⟩
theorem MapS.look {w : World} {b N : Nat} {f : ByteArray → Option Nat} (h : MapS w b N f) {t e : TypeId} (ht : Tryz.prog.underlying t = some (.map 9 e)) {z : Value} (hz : ∀ w, (zeroValue e).run Tryz.prog w = .ok z w) {k : ByteArray} (hk : k.size ≤ maxLen) :
    ∀ j, (Instr.lookup t (.map (some b)) (.string k) false).run Tryz.prog (w.drewN j) = .ok (((f k).map nv).getD z) (w.drewN j) := by
  intro j
  have h' : MapS (w.drewN j) b N f := h.of_blk rfl
  obtain ⟨D, hD, _, ha⟩ := h'
  obtain ⟨v, ps, hr, hv⟩ := hD.lookup keyed ht (hz _) (zd := .held z) (zp := []) rfl (key hk)
  have e1 := rawE_inv hv
  cases hf : f k with
  | none =>
    have h0 := (ha k hk).1 hf
    rw [atKey_of_not_has h0] at e1
    have e2 := DataW.held.inj e1
    subst e2
    exact hr
  | some u =>
    obtain ⟨h3, h4⟩ := (ha k hk).2 u hf
    rw [h4] at e1
    have e2 := DataW.held.inj e1
    subst e2
    exact hr
def updS {β : Type} (f : ByteArray → β) (k : ByteArray) (v : β) : ByteArray → β := fun j => if j = k then v else f j
theorem updS_same {β : Type} (f : ByteArray → β) (k : ByteArray) (v : β) : updS f k v k = v := by simp [updS]
theorem updS_other {β : Type} (f : ByteArray → β) {k j : ByteArray} (v : β) (h : j ≠ k) : updS f k v j = f j := by simp [updS, h]
theorem MapS.store {w : World} {b N : Nat} {f : ByteArray → Option Nat} (h : MapS w b N f) {t e : TypeId} (ht : Tryz.prog.underlying t = some (.map 9 e)) {k : ByteArray} (hk : k.size ≤ maxLen) (hN : N < 9007199254740992) (n : Nat) :
    ∃ w', (Instr.mapUpdate t (.map (some b)) (.string k) (nv n)).run Tryz.prog w = .ok () w' ∧ MapS w' b (N + 1) (updS f k (some n)) ∧ Keep (fun i => i = b) w w' ∧ w'.heap.size = w.heap.size := by
  obtain ⟨D, hD, hs, ha⟩ := h
  obtain ⟨w', hr, ho, ht'⟩ := hD.store keyed ht (show Maps.size D < maxLen by have : (9007199254740992 : Nat) < maxLen := (by decide); omega) (key hk) (val := nv n) (d := .held (nv n)) (ps := []) rfl
  refine ⟨w', hr, ⟨_, ownsMap_exact ho, ?_, fun j hj => ?_⟩, Keep.grown ht'.grown (fun _ e => (Option.some.inj e).symm), ?_⟩
  · obtain ⟨es, rfl, hp, hkl⟩ := hD.entries keyed
    have h1 := Maps.size_put (k := lit k) (D := DataW.map es) ⟨es, rfl, hp⟩ (.held (nv n))
    split at h1 <;> omega
  · have hne : ∀ {j}, j ≠ k → lit j ≠ lit k := fun hj e => hj (lit_inj e)
    by_cases hc : j = k
    · subst hc
      rw [updS_same]
      refine ⟨(fun e => by cases e), fun u e => ?_⟩
      injection e with e; subst e
      exact ⟨has_put_same hD.isMap (keyed.key (key hk)) _, fun z => atKey_put_same hD.isMap (keyed.key (key hk)) _ _⟩
    · rw [updS_other f _ hc, has_put_other (hne hc)]
      refine ⟨(ha j hj).1, fun u e => ⟨((ha j hj).2 u e).1, fun z => ?_⟩⟩
      rw [atKey_put_other (hne hc)]
      exact ((ha j hj).2 u e).2 z
  · obtain ⟨es, c, es', c', _, rfl⟩ := ht'
    simp [setBlock]
theorem run_makeMap_hint {t k e : TypeId} (ht : Tryz.prog.underlying t = some (.map k e)) (n : Int) (w : World) : (Instr.makeMap t (some (.int .i64 n))).run Tryz.prog w = .ok (.map (some w.heap.size)) (w.alloc (.map #[] 0)) := by
  simp [Instr.makeMap, run_underlying ht, asInt, asIntOf, Result.andThen]
end Gr
end Go.Proofs.YtbjcckfhfbjchaaGreat

/- Contracts of countEdges, edgesHold. -/
namespace Go.Proofs.YtbjcckfhfbjchaaGreat
namespace Gr
open Go.RowKit

theorem edgesHold1_any (P : Nat) (ne : Option Addr × Nat × Nat) (z : List Int) (x : Int) (B : Nat) (w : World) (hc : w.cell? ⟨P, 8, none⟩ = some (.slice ne.1 ne.2.1 ne.2.2)) (hz : RdZ B w ne z) :
    Calls Tryz.prog 151 #[.int .i64 x, .pointer (some ⟨P, 0, none⟩)] w fun e w' => e = .returned (.bool (z.contains x)) ∧ w' = w := by
  have C := hide (contains_any ne z x B w hz)
  clear hz
  generalize z.contains x = r at *
  go_enter Tryz.func151, Tryz.ntmps151
  go_wp2_with fail
  go_at_call 152
  refine C.out.mono ?_
  rintro e w1 ⟨rfl, rfl⟩
  go_wp2_with fail
  go_ret
  exact ⟨rfl, rfl⟩

set_option maxHeartbeats 2000000 in
theorem edgesHold_any (x : No) (own cnt : Int) (B : Nat) (w : World) (hn : RdZ B w x.q.ne x.nl) (ha : RdZ B w x.q.af x.al) :
    Calls Tryz.prog 108 #[.agg x.q.row.toArray, .int .i64 own, .int .i64 cnt] w fun e w' => e = .returned (.bool (eOk x own cnt)) ∧ Keep (fun _ => False) w w' := by
  obtain ⟨q, nl, al⟩ := x
  have KW := hide (Keep.alloc (fun _ => False) w (.cells q.row.toArray 57))
  have L1 := hide (listHolds_any _ _ own cnt _ _ (hn.new KW.out))
  have L2 := hide (listHolds_any _ _ own cnt _ _ (ha.new KW.out))
  have hN := (NodeAt.new w q 57)
  have L3 := hide (containsFunc_any 151 #[.pointer (some ⟨w.heap.size, 0, none⟩)] (fun _ => False) (fun k W => ∀ j y, j < k → al[j]? = some y → nl.contains y = false) (fun k W => ∃ y, al[k]? = some y ∧ nl.contains y = true) _ _ _ _ (ha.new KW.out) (fun _ f => f.elim) (fun j y h => by omega) enter_e1 (by
    intro k y W hy hJ hk
    refine (edgesHold1_any w.heap.size q.ne nl y B W (hk.cell hN.all.2.2.2.2.2.2.2.2.1 (fun f => f)) (hn.new (KW.out.more hk))).mono ?_
    rintro e W' ⟨rfl, rfl⟩
    refine ⟨_, rfl, fun hr j u hj hu => ?_, fun hr => ⟨y, hy, hr⟩, Keep.refl _ _⟩
    by_cases e : j = k
    · subst e; rw [hy] at hu; injection hu with hu; subst hu; exact hr
    · exact hJ j u (by omega) hu))
  obtain ⟨n0, n1, n2, n3, n4, n5, n6, n7, n8, n9⟩ := hN.all
  clear hn ha hN
  simp only [Nat.zero_add] at n0 n1 n2 n3 n4 n5 n6 n7 n8 n9
  have HE : Hid (eOk ⟨q, nl, al⟩ own cnt = (lOk (-1) nl own cnt && lOk (-1) al own cnt && !(al.any fun e => nl.contains e))) := rfl
  generalize eOk ⟨q, nl, al⟩ own cnt = r at *
  obtain ⟨nm, la, bu, cl, be, ba, ca, ji, ⟨ne1, ne2, ne3⟩, ⟨af1, af2, af3⟩⟩ := q
  simp only [Nd.row] at *
  generalize lOk (-1) nl own cnt = b1 at *
  generalize lOk (-1) al own cnt = b2 at *
  go_enter Tryz.func108, Tryz.ntmps108
  go_wp2_with fail
  go_at_call 153
  refine L1.out.mono ?_
  rintro e w1 ⟨rfl, rfl⟩
  cases b1
  · obtain rfl : r = false := by rw [HE.out]; rfl
    go_wp2_with fail
    go_ret
    exact ⟨rfl, KW.out⟩
  go_wp2_with fail
  go_at_call 153
  refine L2.out.mono ?_
  rintro e w1 ⟨rfl, rfl⟩
  cases b2
  · obtain rfl : r = false := by rw [HE.out]; rfl
    go_wp2_with fail
    go_ret
    exact ⟨rfl, KW.out⟩
  go_wp2_with fail
  go_at_call 111
  refine L3.out.mono ?_
  rintro e w1 ⟨b, rfl, r1, r2, k1⟩
  have R1 := hide r1
  have R2 := hide r2
  clear r1 r2
  go_wp2_with fail
  go_ret
  refine ⟨?_, KW.out.more k1⟩
  rw [HE.out]
  cases b
  · have h := R1.out rfl
    have : (al.any fun e => nl.contains e) = false := by
      rw [List.any_eq_false]
      intro y hy
      obtain ⟨k, hk, e⟩ := List.mem_iff_getElem.1 hy
      have := h k y hk (by rw [List.getElem?_eq_getElem hk, e])
      simpa using this
    rw [this]; rfl
  · obtain ⟨k, hk, y, hy, hc⟩ := R2.out rfl
    have : (al.any fun e => nl.contains e) = true := List.any_eq_true.2 ⟨y, List.mem_of_getElem? hy, hc⟩
    rw [this]; rfl

set_option maxHeartbeats 2000000 in
theorem countEdges_any (s : Option Addr × Nat × Nat) (xs : List No) (B : Nat) (w : World) (hP : RdP B w s xs) (hl : s.2.1 ≤ 64) :
    Calls Tryz.prog 106 #[.slice s.1 s.2.1 s.2.2] w fun e w' => e = .returned (.int .i64 (edges xs : Nat)) ∧ Keep (fun _ => False) w w' := by
  obtain ⟨a, n, c⟩ := s
  have HP := hide hP
  have HN : Hid (n = xs.length) := hP.1
  clear hP
  go_enter Tryz.func106, Tryz.ntmps106
  go_wp2_with fail
  go_loopw [3, 8] (fun cv iv wr => ∃ (i m : Nat), cv = .int .i64 (m : Nat) ∧ iv = .int .i64 (i : Nat) ∧ i ≤ n ∧ m ≤ i * 35184372088832 ∧ Hid (m = edges (xs.take i) ∧ Keep (fun _ => False) w wr)) (fun _ iv _ => n - (intOf iv).toNat)
  case atStart => exact ⟨0, 0, rfl, rfl, Nat.zero_le _, by omega, rfl, Keep.refl _ _⟩
  case round =>
    obtain ⟨i, m, rfl, rfl, hi, hm, HD⟩ := hrel
    by_cases hlt : i < n
    · obtain ⟨g, off, x, rfl, hg, hx, hN, hz1, hz2⟩ := (HP.out.new HD.out.2).at hlt
      have HX := hide hx
      have L1 : Hid (x.q.ne.2.1 = x.nl.length) := hz1.1
      have L2 : Hid (x.q.af.2.1 = x.al.length) := hz2.1
      have l1 : x.q.ne.2.1 ≤ 17592186044416 := hz1.2.1
      have l2 : x.q.af.2.1 ≤ 17592186044416 := hz2.2.1
      obtain ⟨⟨nm, la, bu, cl, be, ba, ca, ji, ⟨ne1, ne2, ne3⟩, ⟨af1, af2, af3⟩⟩, nl, al⟩ := x
      obtain ⟨n0, n1, n2, n3, n4, n5, n6, n7, n8, n9⟩ := hN.all
      have KA := hide (HD.out.2.more (Keep.alloc (fun _ => False) wr (.cells #[.string nm, .int .i64 la, .int .i64 bu, .int .i64 cl, .int .i64 be, .int .i64 ba, .int .i64 ca, .int .i64 ji, .slice ne1 ne2 ne3, .slice af1 af2 af3] 57)))
      clear hx hN hz1 hz2
      simp only at *
      go_wp2_with fail
      go_roundw
      · refine ⟨i + 1, m + (ne2 + af2), rfl, by go_num, by omega, by omega, ?_, KA.out⟩
        rw [take_snoc _ _ _ HX.out, HD.out.1, L1.out, L2.out]
        simp [edges]
      · show n - ((i : Int) + 1).toNat < n - (i : Int).toNat
        omega
    · obtain rfl : i = n := by omega
      go_wp2_with fail
      go_ret
      refine ⟨?_, HD.out.2⟩
      rw [HD.out.1, HN.out, List.take_length]
      rfl
end Gr
end Go.Proofs.YtbjcckfhfbjchaaGreat
