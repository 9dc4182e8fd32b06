/- Package source: who bears a name first. -/
import Derived.Test.YtmadgickfdmibaaGreatDoorUOwn
import Derived.Test.YtmadgickfdmibaaGreatDoorGMap
import Derived.Maps.OwnSet
namespace Go.Proofs.YtmadgickfdmibaaGreatDoor
namespace U
open Go.RowKit Go.Maps Go.MapKept Go.ChangeMaps

/-- 'v, ok := m[k]' -/
theorem look2 {w : World} {b N : Nat} {f : ByteArray → Option Nat} (h : Gr.MapS w b N f) {t e : TypeId} (ht : Tryz.prog.underlying t = some (.map 9 e)) {z : Value} (hz : ∀ w, (zeroValue e).run Tryz.prog w = .ok z w) {k : ByteArray} (hk : k.size ≤ maxLen) :
    (Instr.lookup t (.map (some b)) (.string k) true).run Tryz.prog w = .ok (.tuple #[((f k).map Gr.nv).getD z, .bool (f k).isSome]) w := by
  obtain ⟨D, hD, _, ha⟩ := h
  obtain ⟨v, ps, hr, hv⟩ := hD.look_ok Gr.keyed ht (hz _) (zd := .held z) (zp := []) rfl (Gr.key hk)
  have e1 := Gr.rawE_inv hv
  cases hf : f k with
  | none =>
    have h0 := (ha k hk).1 hf
    rw [atKey_of_not_has h0] at e1
    have e2 := DataW.held.inj e1
    subst e2
    rw [h0] at hr
    simp only [Option.map_none, Option.getD_none, Option.isSome_none]
    exact hr
  | some u =>
    obtain ⟨h3, h4⟩ := (ha k hk).2 u hf
    rw [h4] at e1
    have e2 := DataW.held.inj e1
    subst e2
    rw [h3] at hr
    simp only [Option.map_some, Option.getD_some, Option.isSome_some]
    exact hr
theorem zero_int : ∀ w, (zeroValue 3).run Tryz.prog w = .ok (.int .i64 0) w := by intro w; simp [go_sem]

/-- the first that bears a name -/
def idxB (xs : List Gr.No) (k : ByteArray) : Option Nat := xs.findIdx? fun x => decide (x.q.nm = k)
theorem idxB_snoc (xs : List Gr.No) (x : Gr.No) (k : ByteArray) : idxB (xs ++ [x]) k = match idxB xs k with | some j => some j | none => if x.q.nm = k then some xs.length else none := by
  unfold idxB
  rw [List.findIdx?_append]
  cases List.findIdx? (fun x => decide (x.q.nm = k)) xs with
  | some j => rfl
  | none =>
    by_cases h : x.q.nm = k
    · simp [List.findIdx?_cons, h]
    · simp [List.findIdx?_cons, h]
theorem idxB_upd {xs : List Gr.No} {x : Gr.No} (h : idxB xs x.q.nm = none) : idxB (xs ++ [x]) = Gr.updS (idxB xs) x.q.nm (some xs.length) := by
  funext k
  rw [idxB_snoc]
  unfold Gr.updS
  by_cases e : k = x.q.nm
  · subst e; rw [h]
  · rw [if_neg e]
    cases idxB xs k with
    | some j => rfl
    | none => simp only; rw [if_neg (fun h => e h.symm)]
theorem idxB_same {xs : List Gr.No} {x : Gr.No} {j : Nat} (h : idxB xs x.q.nm = some j) : idxB (xs ++ [x]) = idxB xs := by
  funext k
  rw [idxB_snoc]
  cases hk : idxB xs k with
  | some j => rfl
  | none =>
    simp only
    rw [if_neg]
    intro e
    rw [e, hk] at h
    cases h

set_option maxRecDepth 100000 in
set_option maxHeartbeats 2000000 in
theorem bearers_any (s : Option Addr × Nat × Nat) (xs : List Gr.No) (B : Nat) (w : World) (hP : Gr.RdP B w s xs) (hn : s.2.1 ≤ 1000000) (hz : ∀ x ∈ xs, x.q.nm.size ≤ maxLen) :
    Calls Tryz.prog 62 #[.slice s.1 s.2.1 s.2.2] w fun e w' => ∃ b, e = .returned (.map (some b)) ∧ Gr.MapS w' b s.2.1 (idxB xs) ∧ Below w.heap.size w w' ∧ w.heap.size ≤ b := by
  obtain ⟨a, n, c⟩ := s
  simp only at *
  have HN : Hid (n = xs.length) := hP.1
  have HP := hide hP
  have HZ := hide hz
  clear hP hz
  have mk := fun W => Gr.run_makeMap_hint Tryz.underlying119 (n : Int) W
  go_enter Tryz.func62, Tryz.ntmps62
  go_wp2_with fail
  go_loopw [13] (fun iv wr => ∃ i : Nat, iv = .int .i64 (i : Nat) ∧ i ≤ n ∧ Hid (Gr.MapS wr w.heap.size i (idxB (xs.take i)) ∧ Below w.heap.size w wr)) (fun iv _ => n - (intOf iv).toNat)
  case atStart => exact ⟨0, rfl, Nat.zero_le _, Gr.mapS_made w, (Below.refl _ w).alloc (Nat.le_refl _) _⟩
  case round =>
    clear mk
    obtain ⟨i, rfl, hi, HI⟩ := hrel
    by_cases hlt : i < n
    · obtain ⟨g, off, x, hg0, hg, hx, hN, _, _⟩ := (HP.out.keep (S := fun k => w.heap.size ≤ k ∧ False) ⟨HI.out.2.os, HI.out.2.tape, HI.out.2.output, HI.out.2.size, fun k hk _ => HI.out.2.block k hk⟩ (fun i h => h.2.elim)).at hlt
      simp only at hg0
      subst hg0
      obtain ⟨n0, n1, n2, n3, n4, n5, n6, n7, n8, n9⟩ := hN.all
      have hsz := HZ.out x (List.mem_of_getElem? hx)
      have htk := Gr.take_snoc xs i x hx
      have hll : (xs.take i).length = i := by have := HN.out; simp; omega
      have M1 : Hid (Gr.MapS (wr.alloc (.cells x.q.row.toArray 39)) w.heap.size i (idxB (xs.take i))) := HI.out.1.of_blk (Below.heap_alloc _ _ _ HI.out.1.lt)
      have lk := look2 M1.out Tryz.underlying119 zero_int (k := x.q.nm) hsz
      have B1 := hide (HI.out.2.alloc HI.out.2.size (.cells x.q.row.toArray 39))
      have HU := hide (fun h => idxB_upd (xs := xs.take i) (x := x) h)
      have HSm := hide (fun j h => idxB_same (xs := xs.take i) (x := x) (j := j) h)
      rw [← htk, hll] at HU
      rw [← htk] at HSm
      generalize hf2 : idxB (xs.take (i + 1)) = f2 at *
      have HF2 := hide hf2
      clear hf2
      generalize idxB (xs.take i) = f1 at *
      obtain ⟨⟨nm, la, bu, cl, be, ba, ca, ji, ⟨ne1, ne2, ne3⟩, ⟨af1, af2, af3⟩⟩, nl, al⟩ := x
      simp only [Gr.Nd.row] at *
      have HX := hide hx
      have nn0 := cell_blk (heap_alloc_new wr (.cells #[.string nm, .int .i64 la, .int .i64 bu, .int .i64 cl, .int .i64 be, .int .i64 ba, .int .i64 ca, .int .i64 ji, .slice ne1 ne2 ne3, .slice af1 af2 af3] 39)) 0 (v := .string nm) rfl
      clear hx htk hN HP
      cases hf : f1 nm with
      | some j =>
        have e := HSm.out j hf
        subst e
        rw [hf] at lk
        simp only [Option.map_some, Option.getD_some, Option.isSome_some] at lk
        have HF := hide hf
        clear hf HU HSm
        go_wp2_with fail
        go_roundw
        · refine ⟨i + 1, by go_num, by omega, ?_, B1.out⟩
          obtain ⟨D, h1, h2, h3⟩ := M1.out
          rw [HF2.out]
          exact ⟨D, h1, by omega, h3⟩
        · show n - ((i : Int) + 1).toNat < n - (i : Int).toNat
          omega
      | none =>
        have e := HU.out hf
        subst e
        rw [hf] at lk
        simp only [Option.map_none, Option.getD_none, Option.isSome_none] at lk
        obtain ⟨w5, hst, m5, k5, s5⟩ := M1.out.store Tryz.underlying119 (k := nm) hsz (by omega) i
        have M5 := hide m5
        have K5 := hide k5
        unfold Gr.nv at hst
        clear hf HU HSm m5 k5 s5
        go_wp2_with fail
        go_roundw
        · exact ⟨i + 1, by go_num, by omega, by rw [HF2.out]; exact M5.out, B1.out.trans (K5.out.below (B := w.heap.size) B1.out.size (fun i e => by omega))⟩
        · show n - ((i : Int) + 1).toNat < n - (i : Int).toNat
          omega
    · go_wp2_with fail
      go_ret
      refine ⟨w.heap.size, rfl, ?_, HI.out.2, Nat.le_refl _⟩
      have h := HI.out.1
      rw [List.take_of_length_le (by have := HN.out; omega)] at h
      obtain ⟨D, h1, h2, h3⟩ := h
      exact ⟨D, h1, by omega, h3⟩
end U
end Go.Proofs.YtmadgickfdmibaaGreatDoor
