import Derived.Test.YtnhmmplheihojaaGreatDoorUOwn
import Derived.Test.YtnhmmplheihojaaGreatDoorGMap
import Derived.Maps.OwnSet
import Derived.Test.YtnhmmplheihojaaGreatDoorUSrt
import Derived.Sort.OwnSortedInts
import Derived.Laws.MakeOwn
import Derived.Laws.AppendOwn
/- Package source: who bears a name first. -/
namespace Go.Proofs.YtnhmmplheihojaaGreatDoor
namespace U
open Go.RowKit Go.Maps Go.MapKept Go.ChangeMaps

/-- 'v, ok := m[k]' -/
theorem look2 {w : World} {b N : Nat} {f : ByteArray → Option Nat} (h : Gr.MapS w b N f) {t e : TypeId} (ht : Tryz.prog.underlying t = some (.map 9 e)) {z : Value} (hz : ∀ w, (zeroValue e).run Tryz.prog w = .ok z w) {k : ByteArray} (hk : k.size ≤ maxLen) :
    (Instr.lookup t (.map (some b)) (.string k) true).run Tryz.prog w = .ok (.tuple #[((f k).map Gr.nv).getD z, .bool (f k).isSome]) w := by
  obtain ⟨D, hD, _, ha⟩ := h
  obtain ⟨v, ps, hr, hv⟩ := hD.look_ok Gr.keyed ht (hz _) (zd := .held z) (zp := []) rfl (Gr.key hk)
  have e1 := Gr.rawE_inv hv
  cases hf : f k with
  | none =>
    have h0 := (ha k hk).1 hf
    rw [atKey_of_not_has h0] at e1
    have e2 := DataW.held.inj e1
    subst e2
    rw [h0] at hr
    simp only [Option.map_none, Option.getD_none, Option.isSome_none]
    exact hr
  | some u =>
    obtain ⟨h3, h4⟩ := (ha k hk).2 u hf
    rw [h4] at e1
    have e2 := DataW.held.inj e1
    subst e2
    rw [h3] at hr
    simp only [Option.map_some, Option.getD_some, Option.isSome_some]
    exact hr
theorem zero_int : ∀ w, (zeroValue 3).run Tryz.prog w = .ok (.int .i64 0) w := by intro w; simp [go_sem]

/-- the first that bears a name -/
def idxB (xs : List Gr.No) (k : ByteArray) : Option Nat := xs.findIdx? fun x => decide (x.q.nm = k)
theorem idxB_snoc (xs : List Gr.No) (x : Gr.No) (k : ByteArray) : idxB (xs ++ [x]) k = match idxB xs k with | some j => some j | none => if x.q.nm = k then some xs.length else none := by
  unfold idxB
  rw [List.findIdx?_append]
  cases List.findIdx? (fun x => decide (x.q.nm = k)) xs with
  | some j => rfl
  | none =>
    by_cases h : x.q.nm = k
    · simp [List.findIdx?_cons, h]
    · simp [List.findIdx?_cons, h]
theorem idxB_upd {xs : List Gr.No} {x : Gr.No} (h : idxB xs x.q.nm = none) : idxB (xs ++ [x]) = Gr.updS (idxB xs) x.q.nm (some xs.length) := by
  funext k
  rw [idxB_snoc]
  unfold Gr.updS
  by_cases e : k = x.q.nm
  · subst e; rw [h]
  · rw [if_neg e]
    cases idxB xs k with
    | some j => rfl
    | none => simp only; rw [if_neg (fun h => e h.symm)]
theorem idxB_same {xs : List Gr.No} {x : Gr.No} {j : Nat} (h : idxB xs x.q.nm = some j) : idxB (xs ++ [x]) = idxB xs := by
  funext k
  rw [idxB_snoc]
  cases hk : idxB xs k with
  | some j => rfl
  | none =>
    simp only
    rw [if_neg]
    intro e
    rw [e, hk] at h
    cases h

set_option maxRecDepth 100000 in
set_option maxHeartbeats 2000000 in
theorem bearers_any (s : Option Addr × Nat × Nat) (xs : List Gr.No) (B : Nat) (w : World) (hP : Gr.RdP B w s xs) (hn : s.2.1 ≤ 1000000) (hz : ∀ x ∈ xs, x.q.nm.size ≤ maxLen) :
    Calls Tryz.prog 46 #[.slice s.1 s.2.1 s.2.2] w fun e w' => ∃ b, e = .returned (.map (some b)) ∧ Gr.MapS w' b s.2.1 (idxB xs) ∧ Below w.heap.size w w' ∧ w.heap.size ≤ b := by
  obtain ⟨a, n, c⟩ := s
  simp only at *
  have HN : Hid (n = xs.length) := hP.1
  have HP := hide hP
  have HZ := hide hz
  clear hP hz
  have mk := fun W => Gr.run_makeMap_hint Tryz.underlying106 (n : Int) W
  go_enter Tryz.func46, Tryz.ntmps46
  go_wp2_with fail
  go_loopw [13] (fun iv wr => ∃ i : Nat, iv = .int .i64 (i : Nat) ∧ i ≤ n ∧ Hid (Gr.MapS wr w.heap.size i (idxB (xs.take i)) ∧ Below w.heap.size w wr)) (fun iv _ => n - (intOf iv).toNat)
  case atStart => exact ⟨0, rfl, Nat.zero_le _, Gr.mapS_made w, (Below.refl _ w).alloc (Nat.le_refl _) _⟩
  case round =>
    clear mk
    obtain ⟨i, rfl, hi, HI⟩ := hrel
    by_cases hlt : i < n
    · obtain ⟨g, off, x, hg0, hg, hx, hN, _, _⟩ := (HP.out.keep (S := fun k => w.heap.size ≤ k ∧ False) ⟨HI.out.2.os, HI.out.2.tape, HI.out.2.output, HI.out.2.size, fun k hk _ => HI.out.2.block k hk⟩ (fun i h => h.2.elim)).at hlt
      simp only at hg0
      subst hg0
      obtain ⟨n0, n1, n2, n3, n4, n5, n6, n7, n8, n9⟩ := hN.all
      have hsz := HZ.out x (List.mem_of_getElem? hx)
      have htk := Gr.take_snoc xs i x hx
      have hll : (xs.take i).length = i := by have := HN.out; simp; omega
      have M1 : Hid (Gr.MapS (wr.alloc (.cells x.q.row.toArray 35)) w.heap.size i (idxB (xs.take i))) := HI.out.1.of_blk (Below.heap_alloc _ _ _ HI.out.1.lt)
      have lk := look2 M1.out Tryz.underlying106 zero_int (k := x.q.nm) hsz
      have B1 := hide (HI.out.2.alloc HI.out.2.size (.cells x.q.row.toArray 35))
      have HU := hide (fun h => idxB_upd (xs := xs.take i) (x := x) h)
      have HSm := hide (fun j h => idxB_same (xs := xs.take i) (x := x) (j := j) h)
      rw [← htk, hll] at HU
      rw [← htk] at HSm
      generalize hf2 : idxB (xs.take (i + 1)) = f2 at *
      have HF2 := hide hf2
      clear hf2
      generalize idxB (xs.take i) = f1 at *
      obtain ⟨⟨nm, la, bu, cl, be, ba, ca, ji, ⟨ne1, ne2, ne3⟩, ⟨af1, af2, af3⟩⟩, nl, al⟩ := x
      simp only [Gr.Nd.row] at *
      have HX := hide hx
      have nn0 := cell_blk (heap_alloc_new wr (.cells #[.string nm, .int .i64 la, .int .i64 bu, .int .i64 cl, .int .i64 be, .int .i64 ba, .int .i64 ca, .int .i64 ji, .slice ne1 ne2 ne3, .slice af1 af2 af3] 35)) 0 (v := .string nm) rfl
      clear hx htk hN HP
      cases hf : f1 nm with
      | some j =>
        have e := HSm.out j hf
        subst e
        rw [hf] at lk
        simp only [Option.map_some, Option.getD_some, Option.isSome_some] at lk
        have HF := hide hf
        clear hf HU HSm
        go_wp2_with fail
        go_roundw
        · refine ⟨i + 1, by go_num, by omega, ?_, B1.out⟩
          obtain ⟨D, h1, h2, h3⟩ := M1.out
          rw [HF2.out]
          exact ⟨D, h1, by omega, h3⟩
        · show n - ((i : Int) + 1).toNat < n - (i : Int).toNat
          omega
      | none =>
        have e := HU.out hf
        subst e
        rw [hf] at lk
        simp only [Option.map_none, Option.getD_none, Option.isSome_none] at lk
        obtain ⟨w5, hst, m5, k5, s5⟩ := M1.out.store Tryz.underlying106 (k := nm) hsz (by omega) i
        have M5 := hide m5
        have K5 := hide k5
        unfold Gr.nv at hst
        clear hf HU HSm m5 k5 s5
        go_wp2_with fail
        go_roundw
        · exact ⟨i + 1, by go_num, by omega, by rw [HF2.out]; exact M5.out, B1.out.trans (K5.out.below (B := w.heap.size) B1.out.size (fun i e => by omega))⟩
        · show n - ((i : Int) + 1).toNat < n - (i : Int).toNat
          omega
    · go_wp2_with fail
      go_ret
      refine ⟨w.heap.size, rfl, ?_, HI.out.2, Nat.le_refl _⟩
      have h := HI.out.1
      rw [List.take_of_length_le (by have := HN.out; omega)] at h
      obtain ⟨D, h1, h2, h3⟩ := h
      exact ⟨D, h1, by omega, h3⟩
end U
end Go.Proofs.YtnhmmplheihojaaGreatDoor

/- Package source: the numbers that names mean. -/
namespace Go.Proofs.YtnhmmplheihojaaGreatDoor
namespace U
open Go.RowKit Go.Sort

theorem info_parts_int : ∃ i, Tryz.prog.info? 3 = some i ∧ i.zero = some (.int .i64 0) ∧ i.size = 1 ∧ i.bytes = 8 := info_parts info_int
/-- the numbers that names mean, rising, each once -/
def risen (f : ByteArray → Option Nat) (ns : List (List UInt8)) : List Int := Lib.compact (((ns.filterMap fun n => f (ba n)).map fun (i : Nat) => (i : Int)).mergeSort fun x y => decide (x ≤ y))
theorem ivs_int (z : List Nat) : ivs z = (z.map fun (i : Nat) => (i : Int)).map (Value.int .i64) := by simp [ivs]
theorem own_less {w : World} {b g cap n m : Nat} {xs ys : List Value} {e : TypeId} (h : w.ownsRow b e 1 (.slice (some ⟨g, 0, none⟩) n cap) n xs) (hm : m ≤ n) (hy : ys = xs.take m) : w.ownsRow b e 1 (.slice (some ⟨g, 0, none⟩) m cap) m ys := by
  have hl := h.1
  rcases h.2 with ⟨h0, _⟩ | ⟨g', cap', cur, hv, h1, h2, h3, h4, h5, h6⟩
  · cases h0
  · cases hv
    refine ⟨by rw [hy]; simp [hl]; omega, .inr ⟨g, cap, cur, rfl, h1, h2, by omega, h4, h5, ?_⟩⟩
    rw [hy, ← h6, List.take_take]
    congr 1
    omega
theorem compact_len (zs : List Int) : (Lib.compact zs).length ≤ zs.length := by
  unfold Lib.compact Lib.compactUpTo
  rw [List.length_map]
  exact Nat.le_trans (List.length_filter_le _ _) (by simp)
set_option maxRecDepth 100000 in
set_option maxHeartbeats 2000000 in
theorem numbersOf_any (a : Option Addr) (ns : List (List UInt8)) (c b N : Nat) (f : ByteArray → Option Nat) (w : World) (hr : RdS w a ns) (hne : ns ≠ []) (hl : ns.length ≤ 1000000) (hsz : ∀ n ∈ ns, n.length ≤ 65536) (hm : Gr.MapS w b N f) :
    Calls Tryz.prog 47 #[.slice a ns.length c, .map (some b)] w fun e w' => Below w.heap.size w w' ∧ ((ns.all (fun n => (f (ba n)).isSome) = false ∧ e = .returned (.tuple #[.slice none 0 0, .bool false])) ∨
      (ns.all (fun n => (f (ba n)).isSome) = true ∧ ∃ g cap, e = .returned (.tuple #[.slice (some ⟨g, 0, none⟩) (risen f ns).length cap, .bool true]) ∧ w'.ownsRow w.heap.size 3 1 (.slice (some ⟨g, 0, none⟩) (risen f ns).length cap) (risen f ns).length ((risen f ns).map (Value.int .i64)))) := by
  obtain ⟨i0, hi, hz0, hz1, hz2⟩ := info_parts_int
  obtain ⟨W0, hmk, hown0, hg0⟩ := run_make_own (P := Tryz.prog) w w.heap.size 33 3 i0 _ 1 Tryz.underlying33 hi hz0 hz1 .i64 .i64 ns.length (by rw [hz2]; omega) (by unfold maxLen; omega) (Nat.le_refl _)
  have HR := hide hr
  have HM := hide hm
  have HSZ := hide hsz
  have HO0 := hide hown0
  have HB0 : Hid (Below w.heap.size w W0) := ⟨hg0.os, hg0.tape, hg0.output, hg0.size, fun k hk => hg0.block k hk (by simp)⟩
  generalize hn : ns.length = n at *
  have HN := hide hn
  have HNE : Hid (n ≠ 0) := fun e => hne (List.eq_nil_of_length_eq_zero (by omega))
  clear hr hm hsz hown0 hg0 hn hne
  go_enter Tryz.func47, Tryz.ntmps47
  go_wp2_with fail
  go_loopw [6, 16] (fun v iv wr => ∃ (i : Nat) (z : List Nat), iv = .int .i64 (i : Nat) ∧ i ≤ n ∧ Hid (z.length = i) ∧ wr.ownsRow w.heap.size 3 1 v z.length (ivs z) ∧ Hid (Below w.heap.size w wr ∧ (ns.take i).filterMap (fun n => f (ba n)) = z ∧ (ns.take i).all (fun n => (f (ba n)).isSome) = true)) (fun _ iv _ => n - (intOf iv).toNat)
  case atStart => exact ⟨0, [], rfl, Nat.zero_le _, rfl, HO0.out, HB0.out, by simp, by simp⟩
  case round =>
    clear hmk HO0 HB0
    obtain ⟨i, z, rfl, hi', HZL, hown, HI⟩ := hrel
    have hzb : z.length ≤ 1000000 := by have := HZL.out; omega
    obtain ⟨va, vc, rfl⟩ := own_shape hown
    by_cases hlt : i < n
    · obtain ⟨x, hx⟩ : ∃ x, ns[i]? = some x := ⟨_, List.getElem?_eq_getElem (by have := HN.out; omega)⟩
      obtain ⟨g, off, rfl, hg, hc⟩ := (HR.out.below HI.out.1).resolve_left (by intro e; have := HN.out; rw [e] at this; simp at this; have := HNE.out; omega)
      have ci := hc i x hx
      have MW : Hid (Gr.MapS wr b N f) := HM.out.of_blk (HI.out.1.block b HM.out.lt)
      have hxs := HSZ.out x (List.mem_of_getElem? hx)
      have lk := look2 MW.out Tryz.underlying106 zero_int (k := ba x) (by rw [ba_size]; unfold maxLen; omega)
      have htk := Gr.take_snoc ns i x hx
      have HX := hide hx
      have HFM : Hid ((ns.take (i + 1)).filterMap (fun n => f (ba n)) = z ++ (f (ba x)).toList) := by
        show _ = _
        rw [htk, List.filterMap_append, HI.out.2.1]
        simp [List.filterMap_cons]
        cases f (ba x) <;> rfl
      have HAL : Hid ((ns.take (i + 1)).all (fun n => (f (ba n)).isSome) = (f (ba x)).isSome) := by
        show _ = _
        rw [htk, List.all_append, HI.out.2.2]
        simp
      clear hx hc hg HR htk MW
      cases hf : f (ba x) with
      | none =>
        rw [hf] at lk HAL HFM
        simp only [Option.map_none, Option.getD_none, Option.isSome_none] at lk HAL
        have HF : Hid (ns.all (fun n => (f (ba n)).isSome) = false) := by
          show _ = _
          rw [Bool.eq_false_iff]
          intro h
          have := List.all_eq_true.1 h x (List.mem_of_getElem? HX.out)
          rw [hf] at this
          simp at this
        clear hf
        generalize ba x = y at *
        go_wp2_with fail
        go_ret2
        exact ⟨HI.out.1, .inl ⟨HF.out, rfl⟩⟩
      | some u =>
        rw [hf] at lk HAL HFM
        simp only [Option.map_some, Option.getD_some, Option.isSome_some, Gr.nv] at lk HAL
        clear hf
        generalize ba x = y at *
        have HOW := hide hown
        clear hown
        have hbz := HI.out.1.size
        go_wp2_with (first
          | (at_builtin; refine wpList_append_own _ rfl _ _ 33 rfl w.heap.size 3 i0 (.int .i64 0) 1 8 Tryz.underlying33 hi hz0 hz1 hz2 rfl (by decide) _ _ _ rfl (HOW.out.alloc _) ⟨wr.heap.size, 0, none⟩ 1 1 [.int .i64 (u : Int)] rfl rfl (fun j u' hj => by
               match j, hj with
               | 0, hj => simp at hj; subst hj; simp [Addr.add]
               | j + 1, hj => simp at hj) (fun u' hx => by simp at hx; subst hx; rfl) (by unfold maxLen; omega) (by omega) (by simp; omega) ?_; intro v' w3 hown' hgrow3 hnil3
             have HA3 : Aside (w3.ownsRow w.heap.size 3 1 v' (z.length + 1) (ivs z ++ [.int .i64 (u : Int)]) ∧ Below w.heap.size w w3) := ⟨hown', Below.grown (HI.out.1.alloc hbz _) hgrow3 (by simp; omega) (fun j hj => (HOW.out.lt _ hj).1)⟩
             clear hown' hgrow3 hnil3))
        go_roundw
        · refine ⟨i + 1, z ++ [u], by go_num, by omega, by have := HZL.out; show (z ++ [u]).length = i + 1; simp [this], ?_, HA3.out.2, by rw [HFM.out]; rfl, HAL.out⟩
          have := HA3.out.1
          rw [show ivs (z ++ [u]) = ivs z ++ [.int .i64 (u : Int)] by simp [ivs], List.length_append, List.length_singleton]
          exact this
        · show n - ((i : Int) + 1).toNat < n - (i : Int).toNat
          omega
    · have hin : i = n := by omega
      subst hin
      have e1 := HI.out.2.1
      have e2 := HI.out.2.2
      rw [List.take_of_length_le (by have := HN.out; omega)] at e1 e2
      have HRI : Hid (risen f ns = Lib.compact ((z.map fun (i : Nat) => (i : Int)).mergeSort fun x y => decide (x ≤ y))) := by show _ = _; rw [risen, e1]
      have HAL := hide e2
      clear e1 e2
      generalize hrs0 : risen f ns = rs at *
      have HRS := hide hrs0
      clear hrs0
      obtain ⟨zi, hzi⟩ : ∃ zi, zi = z.map fun (i : Nat) => (i : Int) := ⟨_, rfl⟩
      have hzil : zi.length = z.length := by rw [hzi]; simp
      rw [ivs_int, ← hzi, ← hzil] at hown
      rw [← hzi] at HRI
      rw [← hzil]
      rcases hown.2 with ⟨e1, e2⟩ | ⟨g, cap, cur, e1, h1, h2, h3, h4, h5, h6⟩
      · exfalso; have := HNE.out; have := HZL.out; omega
      · cases e1
        have hH : Holds (Value.int .i64) wr g 0 zi.toArray := holds_of_blockI h2 (by simpa using h6)
        have hgl : g < wr.heap.size := (Array.getElem?_eq_some_iff.1 h2).1
        have SO := hide (Tryz.slices_Sort_int g 0 vc zi wr hH hgl (by omega))
        obtain ⟨zs, hzs⟩ : ∃ zs, zs = zi.mergeSort fun x y => decide (x ≤ y) := ⟨_, rfl⟩
        rw [← hzs] at SO HRI
        have hzsl : zs.length = zi.length := by rw [hzs]; exact List.length_mergeSort zi
        have HO2 : Hid (∀ nn os, (grow (putRow (Value.int .i64) (Sort.ahead wr nn) g 0 zs.toArray) os).heap[g]? = some (.cells (putCells (Value.int .i64) 0 zs.toArray cur) 3 (0, 0)) ∧ Below w.heap.size w (grow (putRow (Value.int .i64) (Sort.ahead wr nn) g 0 zs.toArray) os)) :=
          fun nn os => ⟨heap_sortedI _ h2, HI.out.1.grown (grownBy_sortedI (w := wr) (g := g) (n := nn) (os := os) zs.toArray) HI.out.1.size (fun k hk => by cases hk; exact h1)⟩
        clear hown hH h6 hzi
        have HZZ := hide hzil
        have HZS := hide hzsl
        clear hzil hzsl hzs hzb
        go_wp2_with fail
        go_at_call 77
        refine SO.out.mono ?_
        rintro e w2 ⟨rfl, nn, os, hw2⟩
        have hzil := HZZ.out
        have hzsl := HZS.out
        have hh := HO2.out nn os
        rw [← hw2] at hh
        obtain ⟨hb2, bel2⟩ := hh
        have hH2 : Holds (Value.int .i64) w2 g 0 zs.toArray := holds_of_blockI hb2 (take_putCellsI cur zs (by omega))
        have CO := hide (Tryz.slices_Compact_int g 0 vc zs w2 hH2 (by have := HZL.out; omega) (by omega))
        have hcl := compact_len zs
        have hrs := HRI.out
        rw [← hrs] at CO hcl
        have HFIN : Hid (∀ q, (putRow (Value.int .i64) (Sort.ahead w2 q) g 0 (rs ++ List.replicate (zs.length - rs.length) 0).toArray).ownsRow w.heap.size 3 1 (.slice (some ⟨g, 0, none⟩) rs.length vc) rs.length (rs.map (Value.int .i64)) ∧ Below w.heap.size w (putRow (Value.int .i64) (Sort.ahead w2 q) g 0 (rs ++ List.replicate (zs.length - rs.length) 0).toArray)) := by
          intro q
          have hll : (rs ++ List.replicate (zs.length - rs.length) (0 : Int)).length = zs.length := by simp; omega
          have o1 := ownsRow_sortedI (w := w2) (base := w.heap.size) (g := g) (cap := vc) (n := q) (os := #[]) (ss := zs) (ts := rs ++ List.replicate (zs.length - rs.length) (0 : Int)) hll h1 hb2 (by omega) h4 (by simp [putCells]; omega)
          have o2 := grownBy_sortedI (w := w2) (g := g) (n := q) (os := #[]) (rs ++ List.replicate (zs.length - rs.length) (0 : Int)).toArray
          rw [grow_empty] at o1 o2
          exact ⟨own_less o1 hcl (by simp), bel2.grown o2 bel2.size (fun k hk => by cases hk; exact h1)⟩
        clear hw2 hb2 bel2 hH2 HO2 SO h2 hcl hrs
        rw [← hzsl]
        clear hzil hzsl
        go_wp2_with fail
        go_at_call 78
        refine CO.out.mono ?_
        rintro e w3 ⟨rfl, q, rfl⟩
        have hh := HFIN.out q
        go_wp2_with fail
        go_ret2
        rw [HRS.out]
        exact ⟨hh.2, .inr ⟨HAL.out, g, vc, rfl, hh.1⟩⟩
end U
end Go.Proofs.YtnhmmplheihojaaGreatDoor
