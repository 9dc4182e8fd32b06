import Derived.Test.YtfoahfgehmghcaaGreatDoorUMod
import Derived.Lib.SlicesCompact
import Derived.Test.YtfoahfgehmghcaaGreatDoorUBea
import Derived.Sort.OwnSortedInts
import Derived.Laws.MakeOwn
import Derived.Laws.AppendOwn
/- Package source: names' numbers, rising, each once: the mathematics. -/
namespace Go.Proofs.YtfoahfgehmghcaaGreatDoor
namespace U

/-- rising lists of the same numbers are one -/
theorem rising_eq : ∀ {a b : List Int}, a.Pairwise (· < ·) → b.Pairwise (· < ·) → (∀ x, x ∈ a ↔ x ∈ b) → a = b
  | [], [], _, _, _ => rfl
  | [], y :: b, _, _, h => by have := (h y).2 (by simp); cases this
  | x :: a, [], _, _, h => by have := (h x).1 (by simp); cases this
  | x :: a, y :: b, ha, hb, h => by
    obtain ⟨h1, ha'⟩ := List.pairwise_cons.1 ha
    obtain ⟨h2, hb'⟩ := List.pairwise_cons.1 hb
    have hxy : x = y := by
      rcases List.mem_cons.1 ((h x).1 (by simp)) with e | e
      · exact e
      · rcases List.mem_cons.1 ((h y).2 (by simp)) with e' | e'
        · exact e'.symm
        · have := h1 y e'; have := h2 x e; omega
    subst hxy
    congr 1
    refine rising_eq ha' hb' fun z => ⟨fun hz => ?_, fun hz => ?_⟩
    · rcases List.mem_cons.1 ((h z).1 (by simp [hz])) with e | e
      · have := h1 z hz; omega
      · exact e
    · rcases List.mem_cons.1 ((h z).2 (by simp [hz])) with e | e
      · have := h2 z hz; omega
      · exact e
theorem compact_rising (zs : List Int) (hs : zs.Pairwise (· ≤ ·)) : (Lib.compact zs).Pairwise (· < ·) ∧ ∀ x, x ∈ Lib.compact zs ↔ x ∈ zs := by
  have hget : ∀ j, (hj : j < zs.length) → zs.toArray[j]! = zs[j] := fun j hj => by simp [hj]
  have key : ∀ m, m ≤ zs.length → (Lib.compactUpTo zs.toArray m).Pairwise (· < ·) ∧ ∀ x, x ∈ Lib.compactUpTo zs.toArray m ↔ x ∈ zs.take m := by
    intro m
    induction m with
    | zero => intro _; simp [Lib.compactUpTo]
    | succ m ih =>
      intro hm
      obtain ⟨i1, i2⟩ := ih (by omega)
      rw [Lib.compactUpTo_succ, Gr.take_snoc zs m zs[m] (List.getElem?_eq_getElem (by omega))]
      have hle : ∀ y ∈ zs.take m, y ≤ zs[m] := by
        intro y hy
        obtain ⟨j, hj, rfl⟩ := List.mem_iff_getElem.1 hy
        simp only [List.length_take] at hj
        simp only [List.getElem_take]
        exact List.pairwise_iff_getElem.1 hs j m (by omega) (by omega) (by omega)
      cases hk : Lib.keeps zs.toArray m with
      | true =>
        simp only [if_true]
        rw [hget m (by omega)]
        refine ⟨?_, fun x => ?_⟩
        · rw [List.pairwise_append]
          refine ⟨i1, by simp, fun a ha b hb => ?_⟩
          obtain rfl := List.mem_singleton.1 hb
          have h1 := hle a ((i2 a).1 ha)
          rcases Int.lt_or_le a zs[m] with h | h
          · exact h
          · exfalso
            have hm0 : m ≠ 0 := fun e => by subst e; simp [Lib.compactUpTo] at ha
            unfold Lib.keeps at hk
            have hk' := of_decide_eq_true hk
            rcases hk' with e | e
            · exact hm0 e
            · rw [hget m (by omega), hget (m - 1) (by omega)] at e
              have h2 : zs[m - 1] ≤ zs[m] := List.pairwise_iff_getElem.1 hs (m - 1) m (by omega) (by omega) (by omega)
              obtain ⟨j, hj, rfl⟩ := List.mem_iff_getElem.1 ((i2 a).1 ha)
              simp only [List.length_take] at hj
              simp only [List.getElem_take] at h h1
              have h3 : zs[j] ≤ zs[m - 1] := by
                rcases Nat.lt_or_ge j (m - 1) with h' | h'
                · exact List.pairwise_iff_getElem.1 hs j (m - 1) (by omega) (by omega) h'
                · have : j = m - 1 := by omega
                  subst this; omega
              omega
        · simp only [List.mem_append, i2]
      | false =>
        simp only [Bool.false_eq_true, if_false, List.append_nil]
        refine ⟨i1, fun x => ?_⟩
        rw [i2]
        simp only [List.mem_append, List.mem_singleton]
        refine ⟨.inl, ?_⟩
        rintro (h | rfl)
        · exact h
        · unfold Lib.keeps at hk
          have hk' := of_decide_eq_false hk
          have hm0 : m ≠ 0 := fun e => hk' (.inl e)
          have e : zs.toArray[m]! = zs.toArray[m - 1]! := Classical.byContradiction fun e => hk' (.inr e)
          rw [hget m (by omega), hget (m - 1) (by omega)] at e
          rw [e]
          exact List.mem_iff_getElem.2 ⟨m - 1, by simp; omega, by simp⟩
  obtain ⟨k1, k2⟩ := key zs.length (Nat.le_refl _)
  refine ⟨k1, fun x => ?_⟩
  have := k2 x
  rw [List.take_of_length_le (Nat.le_refl _)] at this
  exact this

/-- the numbers of names, as they are met -/
def nums (nds : List Pn) (names : List (List UInt8)) : List Nat := names.filterMap (idx nds)
theorem idx_lt {nds : List Pn} {n : List UInt8} {i : Nat} (h : idx nds n = some i) : i < nds.length := by
  unfold idx at h
  obtain ⟨h1, _⟩ := List.findIdx?_eq_some_iff_getElem.1 h
  exact h1
theorem edg_sort (nds : List Pn) (names : List (List UInt8)) (zs : List Int) (hz : zs = ((nums nds names).map fun (i : Nat) => (i : Int)).mergeSort fun x y => decide (x ≤ y)) :
    Lib.compact zs = ((List.range nds.length).filter fun i => names.any fun n => idx nds n == some i).map fun (i : Nat) => (i : Int) := by
  have hs : zs.Pairwise (· ≤ ·) := by
    rw [hz]
    have := List.pairwise_mergeSort (le := fun (x y : Int) => decide (x ≤ y)) (fun a b c h1 h2 => by simp at *; omega) (fun a b => by simp; omega) ((nums nds names).map fun (i : Nat) => (i : Int))
    exact this.imp (fun h => by simpa using h)
  obtain ⟨c1, c2⟩ := compact_rising zs hs
  refine rising_eq c1 ?_ fun x => ?_
  · rw [List.pairwise_map]
    have h1 : (List.range nds.length).Pairwise (· < ·) := List.pairwise_lt_range
    exact (h1.sublist List.filter_sublist).imp (fun h => by omega)
  · rw [c2, hz, List.mem_mergeSort]
    simp only [List.mem_map, List.mem_filter, List.mem_range, List.any_eq_true, beq_iff_eq, nums, List.mem_filterMap]
    constructor
    · rintro ⟨i, ⟨n, hn, hi⟩, rfl⟩
      exact ⟨i, ⟨idx_lt hi, n, hn, hi⟩, rfl⟩
    · rintro ⟨i, ⟨_, n, hn, hi⟩, rfl⟩
      exact ⟨i, ⟨n, hn, hi⟩, rfl⟩
end U
end Go.Proofs.YtfoahfgehmghcaaGreatDoor

/- Package source: the numbers that names mean. -/
namespace Go.Proofs.YtfoahfgehmghcaaGreatDoor
namespace U
open Go.RowKit Go.Sort

theorem info_parts_int : ∃ i, Tryz.prog.info? 3 = some i ∧ i.zero = some (.int .i64 0) ∧ i.size = 1 ∧ i.bytes = 8 := info_parts info_int
/-- the numbers that names mean, rising, each once -/
def risen (f : ByteArray → Option Nat) (ns : List (List UInt8)) : List Int := Lib.compact (((ns.filterMap fun n => f (ba n)).map fun (i : Nat) => (i : Int)).mergeSort fun x y => decide (x ≤ y))
theorem ivs_int (z : List Nat) : ivs z = (z.map fun (i : Nat) => (i : Int)).map (Value.int .i64) := by simp [ivs]
theorem own_less {w : World} {b g cap n m : Nat} {xs ys : List Value} {e : TypeId} (h : w.ownsRow b e 1 (.slice (some ⟨g, 0, none⟩) n cap) n xs) (hm : m ≤ n) (hy : ys = xs.take m) : w.ownsRow b e 1 (.slice (some ⟨g, 0, none⟩) m cap) m ys := by
  have hl := h.1
  rcases h.2 with ⟨h0, _⟩ | ⟨g', cap', cur, hv, h1, h2, h3, h4, h5, h6⟩
  · cases h0
  · cases hv
    refine ⟨by rw [hy]; simp [hl]; omega, .inr ⟨g, cap, cur, rfl, h1, h2, by omega, h4, h5, ?_⟩⟩
    rw [hy, ← h6, List.take_take]
    congr 1
    omega
theorem compact_len (zs : List Int) : (Lib.compact zs).length ≤ zs.length := by
  unfold Lib.compact Lib.compactUpTo
  rw [List.length_map]
  exact Nat.le_trans (List.length_filter_le _ _) (by simp)
set_option maxRecDepth 100000 in
set_option maxHeartbeats 2000000 in
theorem numbersOf_any (a : Option Addr) (ns : List (List UInt8)) (c b N : Nat) (f : ByteArray → Option Nat) (w : World) (hr : RdS w a ns) (hne : ns ≠ []) (hl : ns.length ≤ 1000000) (hsz : ∀ n ∈ ns, n.length ≤ 65536) (hm : Gr.MapS w b N f) :
    Calls Tryz.prog 69 #[.slice a ns.length c, .map (some b)] w fun e w' => Below w.heap.size w w' ∧ ((ns.all (fun n => (f (ba n)).isSome) = false ∧ e = .returned (.tuple #[.slice none 0 0, .bool false])) ∨
      (ns.all (fun n => (f (ba n)).isSome) = true ∧ ∃ g cap, e = .returned (.tuple #[.slice (some ⟨g, 0, none⟩) (risen f ns).length cap, .bool true]) ∧ w'.ownsRow w.heap.size 3 1 (.slice (some ⟨g, 0, none⟩) (risen f ns).length cap) (risen f ns).length ((risen f ns).map (Value.int .i64)))) := by
  obtain ⟨i0, hi, hz0, hz1, hz2⟩ := info_parts_int
  obtain ⟨W0, hmk, hown0, hg0⟩ := run_make_own (P := Tryz.prog) w w.heap.size 30 3 i0 _ 1 Tryz.underlying30 hi hz0 hz1 .i64 .i64 ns.length (by rw [hz2]; omega) (by unfold maxLen; omega) (Nat.le_refl _)
  have HR := hide hr
  have HM := hide hm
  have HSZ := hide hsz
  have HO0 := hide hown0
  have HB0 : Hid (Below w.heap.size w W0) := ⟨hg0.os, hg0.tape, hg0.output, hg0.size, fun k hk => hg0.block k hk (by simp)⟩
  generalize hn : ns.length = n at *
  have HN := hide hn
  have HNE : Hid (n ≠ 0) := fun e => hne (List.eq_nil_of_length_eq_zero (by omega))
  clear hr hm hsz hown0 hg0 hn hne
  go_enter Tryz.func69, Tryz.ntmps69
  go_wp2_with fail
  go_loopw [6, 16] (fun v iv wr => ∃ (i : Nat) (z : List Nat), iv = .int .i64 (i : Nat) ∧ i ≤ n ∧ Hid (z.length = i) ∧ wr.ownsRow w.heap.size 3 1 v z.length (ivs z) ∧ Hid (Below w.heap.size w wr ∧ (ns.take i).filterMap (fun n => f (ba n)) = z ∧ (ns.take i).all (fun n => (f (ba n)).isSome) = true)) (fun _ iv _ => n - (intOf iv).toNat)
  case atStart => exact ⟨0, [], rfl, Nat.zero_le _, rfl, HO0.out, HB0.out, by simp, by simp⟩
  case round =>
    clear hmk HO0 HB0
    obtain ⟨i, z, rfl, hi', HZL, hown, HI⟩ := hrel
    have hzb : z.length ≤ 1000000 := by have := HZL.out; omega
    obtain ⟨va, vc, rfl⟩ := own_shape hown
    by_cases hlt : i < n
    · obtain ⟨x, hx⟩ : ∃ x, ns[i]? = some x := ⟨_, List.getElem?_eq_getElem (by have := HN.out; omega)⟩
      obtain ⟨g, off, rfl, hg, hc⟩ := (HR.out.below HI.out.1).resolve_left (by intro e; have := HN.out; rw [e] at this; simp at this; have := HNE.out; omega)
      have ci := hc i x hx
      have MW : Hid (Gr.MapS wr b N f) := HM.out.of_blk (HI.out.1.block b HM.out.lt)
      have hxs := HSZ.out x (List.mem_of_getElem? hx)
      have lk := look2 MW.out Tryz.underlying108 zero_int (k := ba x) (by rw [ba_size]; unfold maxLen; omega)
      have htk := Gr.take_snoc ns i x hx
      have HX := hide hx
      have HFM : Hid ((ns.take (i + 1)).filterMap (fun n => f (ba n)) = z ++ (f (ba x)).toList) := by
        show _ = _
        rw [htk, List.filterMap_append, HI.out.2.1]
        simp [List.filterMap_cons]
        cases f (ba x) <;> rfl
      have HAL : Hid ((ns.take (i + 1)).all (fun n => (f (ba n)).isSome) = (f (ba x)).isSome) := by
        show _ = _
        rw [htk, List.all_append, HI.out.2.2]
        simp
      clear hx hc hg HR htk MW
      cases hf : f (ba x) with
      | none =>
        rw [hf] at lk HAL HFM
        simp only [Option.map_none, Option.getD_none, Option.isSome_none] at lk HAL
        have HF : Hid (ns.all (fun n => (f (ba n)).isSome) = false) := by
          show _ = _
          rw [Bool.eq_false_iff]
          intro h
          have := List.all_eq_true.1 h x (List.mem_of_getElem? HX.out)
          rw [hf] at this
          simp at this
        clear hf
        generalize ba x = y at *
        go_wp2_with fail
        go_ret2
        exact ⟨HI.out.1, .inl ⟨HF.out, rfl⟩⟩
      | some u =>
        rw [hf] at lk HAL HFM
        simp only [Option.map_some, Option.getD_some, Option.isSome_some, Gr.nv] at lk HAL
        clear hf
        generalize ba x = y at *
        have HOW := hide hown
        clear hown
        have hbz := HI.out.1.size
        go_wp2_with (first
          | (at_builtin; refine wpList_append_own _ rfl _ _ 30 rfl w.heap.size 3 i0 (.int .i64 0) 1 8 Tryz.underlying30 hi hz0 hz1 hz2 rfl (by decide) _ _ _ rfl (HOW.out.alloc _) ⟨wr.heap.size, 0, none⟩ 1 1 [.int .i64 (u : Int)] rfl rfl (fun j u' hj => by
               match j, hj with
               | 0, hj => simp at hj; subst hj; simp [Addr.add]
               | j + 1, hj => simp at hj) (fun u' hx => by simp at hx; subst hx; rfl) (by unfold maxLen; omega) (by omega) (by simp; omega) ?_; intro v' w3 hown' hgrow3 hnil3
             have HA3 : Aside (w3.ownsRow w.heap.size 3 1 v' (z.length + 1) (ivs z ++ [.int .i64 (u : Int)]) ∧ Below w.heap.size w w3) := ⟨hown', Below.grown (HI.out.1.alloc hbz _) hgrow3 (by simp; omega) (fun j hj => (HOW.out.lt _ hj).1)⟩
             clear hown' hgrow3 hnil3))
        go_roundw
        · refine ⟨i + 1, z ++ [u], by go_num, by omega, by have := HZL.out; show (z ++ [u]).length = i + 1; simp [this], ?_, HA3.out.2, by rw [HFM.out]; rfl, HAL.out⟩
          have := HA3.out.1
          rw [show ivs (z ++ [u]) = ivs z ++ [.int .i64 (u : Int)] by simp [ivs], List.length_append, List.length_singleton]
          exact this
        · show n - ((i : Int) + 1).toNat < n - (i : Int).toNat
          omega
    · have hin : i = n := by omega
      subst hin
      have e1 := HI.out.2.1
      have e2 := HI.out.2.2
      rw [List.take_of_length_le (by have := HN.out; omega)] at e1 e2
      have HRI : Hid (risen f ns = Lib.compact ((z.map fun (i : Nat) => (i : Int)).mergeSort fun x y => decide (x ≤ y))) := by show _ = _; rw [risen, e1]
      have HAL := hide e2
      clear e1 e2
      generalize hrs0 : risen f ns = rs at *
      have HRS := hide hrs0
      clear hrs0
      obtain ⟨zi, hzi⟩ : ∃ zi, zi = z.map fun (i : Nat) => (i : Int) := ⟨_, rfl⟩
      have hzil : zi.length = z.length := by rw [hzi]; simp
      rw [ivs_int, ← hzi, ← hzil] at hown
      rw [← hzi] at HRI
      rw [← hzil]
      rcases hown.2 with ⟨e1, e2⟩ | ⟨g, cap, cur, e1, h1, h2, h3, h4, h5, h6⟩
      · exfalso; have := HNE.out; have := HZL.out; omega
      · cases e1
        have hH : Holds (Value.int .i64) wr g 0 zi.toArray := holds_of_blockI h2 (by simpa using h6)
        have hgl : g < wr.heap.size := (Array.getElem?_eq_some_iff.1 h2).1
        have SO := hide (Tryz.slices_Sort_int g 0 vc zi wr hH hgl (by omega))
        obtain ⟨zs, hzs⟩ : ∃ zs, zs = zi.mergeSort fun x y => decide (x ≤ y) := ⟨_, rfl⟩
        rw [← hzs] at SO HRI
        have hzsl : zs.length = zi.length := by rw [hzs]; exact List.length_mergeSort zi
        have HO2 : Hid (∀ nn os, (grow (putRow (Value.int .i64) (Sort.ahead wr nn) g 0 zs.toArray) os).heap[g]? = some (.cells (putCells (Value.int .i64) 0 zs.toArray cur) 3 (0, 0)) ∧ Below w.heap.size w (grow (putRow (Value.int .i64) (Sort.ahead wr nn) g 0 zs.toArray) os)) :=
          fun nn os => ⟨heap_sortedI _ h2, HI.out.1.grown (grownBy_sortedI (w := wr) (g := g) (n := nn) (os := os) zs.toArray) HI.out.1.size (fun k hk => by cases hk; exact h1)⟩
        clear hown hH h6 hzi
        have HZZ := hide hzil
        have HZS := hide hzsl
        clear hzil hzsl hzs hzb
        go_wp2_with fail
        go_at_call 93
        refine SO.out.mono ?_
        rintro e w2 ⟨rfl, nn, os, hw2⟩
        have hzil := HZZ.out
        have hzsl := HZS.out
        have hh := HO2.out nn os
        rw [← hw2] at hh
        obtain ⟨hb2, bel2⟩ := hh
        have hH2 : Holds (Value.int .i64) w2 g 0 zs.toArray := holds_of_blockI hb2 (take_putCellsI cur zs (by omega))
        have CO := hide (Tryz.slices_Compact_int g 0 vc zs w2 hH2 (by have := HZL.out; omega) (by omega))
        have hcl := compact_len zs
        have hrs := HRI.out
        rw [← hrs] at CO hcl
        have HFIN : Hid (∀ q, (putRow (Value.int .i64) (Sort.ahead w2 q) g 0 (rs ++ List.replicate (zs.length - rs.length) 0).toArray).ownsRow w.heap.size 3 1 (.slice (some ⟨g, 0, none⟩) rs.length vc) rs.length (rs.map (Value.int .i64)) ∧ Below w.heap.size w (putRow (Value.int .i64) (Sort.ahead w2 q) g 0 (rs ++ List.replicate (zs.length - rs.length) 0).toArray)) := by
          intro q
          have hll : (rs ++ List.replicate (zs.length - rs.length) (0 : Int)).length = zs.length := by simp; omega
          have o1 := ownsRow_sortedI (w := w2) (base := w.heap.size) (g := g) (cap := vc) (n := q) (os := #[]) (ss := zs) (ts := rs ++ List.replicate (zs.length - rs.length) (0 : Int)) hll h1 hb2 (by omega) h4 (by simp [putCells]; omega)
          have o2 := grownBy_sortedI (w := w2) (g := g) (n := q) (os := #[]) (rs ++ List.replicate (zs.length - rs.length) (0 : Int)).toArray
          rw [grow_empty] at o1 o2
          exact ⟨own_less o1 hcl (by simp), bel2.grown o2 bel2.size (fun k hk => by cases hk; exact h1)⟩
        clear hw2 hb2 bel2 hH2 HO2 SO h2 hcl hrs
        rw [← hzsl]
        clear hzil hzsl
        go_wp2_with fail
        go_at_call 94
        refine CO.out.mono ?_
        rintro e w3 ⟨rfl, q, rfl⟩
        have hh := HFIN.out q
        go_wp2_with fail
        go_ret2
        rw [HRS.out]
        exact ⟨hh.2, .inr ⟨HAL.out, g, vc, rfl, hh.1⟩⟩
end U
end Go.Proofs.YtfoahfgehmghcaaGreatDoor
