/- owned: three lists that came out are their owner's alone. -/
import Derived.Test.YtpblmleodcaamaaGOwM
import Derived.Deep.Cut
namespace Go.Proofs.Ytpblmleodcaamaa
namespace Gr
open Go.RowKit

theorem G4.done {W W' : World} {P i b : Nat} {o u : Nat → Value} {n : Nat → Nat} {gv v gv' : Value} (h : G4 W P o n i gv u 70 v b) (hi : i < 3) (ho : W'.ownsRow (P + 1) 34 1 gv' (i + 1) ((List.range i).map u ++ [v])) (k : Keep (fun j => gv.ownBlock = some j) W W') : G3 W' P o n (i + 1) gv' (fun j => if j = i then v else u j) := by
  have ints : ∀ {r : Value} {m : Nat} {xs : List Value}, W.ownsRow 0 3 1 r m xs → W'.ownsRow 0 3 1 r m xs := fun h1 => ownsRow_keep h1 k fun g hg => typ_ne h.g3.gs h1 (by decide) hg
  refine ⟨⟨fun j hj => ints (h.g3.o3.own j hj), ownsRow_keep h.g3.o3.row k fun g hg hg2 => ?_⟩, ?_, fun j hj => ?_, fun j m g hj hm hne hg => ?_, by have := k.size; have := h.g3.p; omega⟩
  · have h1 := ownsRow_from h.g3.gs hg
    have h2 : P = g := by simpa [Value.ownBlock] using hg2
    omega
  · have e : (List.range (i + 1)).map (fun j => if j = i then v else u j) = (List.range i).map u ++ [v] := by
      rw [List.range_succ, List.map_append]
      congr 1
      · refine List.map_congr_left fun j hj => ?_
        rw [if_neg (by have := List.mem_range.1 hj; omega)]
      · simp
    rw [e]; exact ho
  · by_cases e : j = i
    · subst e
      simp only [if_true]
      exact ints h.vo
    · simp only [if_neg e]
      exact ints (h.g3.us j (by omega))
  · by_cases e : j = i
    · subst e
      simp only [if_true] at hg
      exact (h.vn g hg).1 m hm hne
    · simp only [if_neg e] at hg
      exact h.g3.ne j m g (by omega) hm hne hg
def Sb (o : Nat → Value) (k : Nat) : Prop := ∃ j, j < 3 ∧ (o j).ownBlock = some k
def F1 (w : World) (P : Nat) (o : Nat → Value) (n : Nat → Nat) (i k : Nat) (wr : World) : Prop := ∃ X, O3 wr P o n X ∧ (∀ j, j < i → X j = List.replicate (n j) (xv j)) ∧ (∀ t, t < k → (X i)[t]? = some (xv i)) ∧ Keep (Sb o) w wr
theorem F1.next {w wr : World} {P i : Nat} {o : Nat → Value} {n : Nat → Nat} (h : F1 w P o n i (n i) wr) (hi : i < 3) : F1 w P o n (i + 1) 0 wr := by
  obtain ⟨X, h1, h2, h3, h4⟩ := h
  refine ⟨X, h1, fun j hj => ?_, fun t ht => absurd ht (Nat.not_lt_zero _), h4⟩
  by_cases e : j = i
  · subst e
    have hl : (X j).length = n j := by have := (h1.own j hi).1; omega
    apply List.ext_getElem?
    intro t
    rw [List.getElem?_replicate]
    split
    · rename_i ht
      exact h3 t ht
    · rename_i ht
      exact List.getElem?_eq_none (by omega)
  · exact h2 j (by omega)
def F3 (w : World) (P : Nat) (o : Nat → Value) (n : Nat → Nat) (i : Nat) (gv : Value) (wr : World) : Prop := ∃ u, G3 wr P o n i gv u ∧ Keep (Sb o) w wr

set_option maxRecDepth 100000 in
set_option maxHeartbeats 20000000 in
theorem owned_any (A : Nat → Option Addr) (n C : Nat → Nat) (X : Nat → List Value) (w : World) (ho : ∀ j, j < 3 → w.ownsRow 0 3 1 (.slice (A j) (n j) (C j)) (n j) (X j)) (ha : Apart (fun j => .slice (A j) (n j) (C j))) (hn : ∀ j, j < 3 → n j ≤ 1000) :
    Calls Try.prog 17 #[.slice (A 0) (n 0) (C 0), .slice (A 1) (n 1) (C 1), .slice (A 2) (n 2) (C 2)] w fun e w' => e = .returned (.bool true) ∧ Keep (Sb fun j => .slice (A j) (n j) (C j)) w w' := by
  have kA := Keep.alloc (fun _ => False) w (.cells #[.slice (A 0) (n 0) (C 0), .slice (A 1) (n 1) (C 1), .slice (A 2) (n 2) (C 2)] 34)
  have I0 : Hid (F1 w w.heap.size (fun j => .slice (A j) (n j) (C j)) n 0 0 (w.alloc (.cells #[.slice (A 0) (n 0) (C 0), .slice (A 1) (n 1) (C 1), .slice (A 2) (n 2) (C 2)] 34))) :=
    ⟨X, ⟨fun j hj => ownsRow_new (ho j hj) kA, World.ownsRow_lit w #[.slice (A 0) (n 0) (C 0), .slice (A 1) (n 1) (C 1), .slice (A 2) (n 2) (C 2)] 3 (Nat.le_refl _) (by decide) rfl⟩, fun j hj => absurd hj (Nat.not_lt_zero _), fun j hj => absurd hj (Nat.not_lt_zero _), kA.mono fun _ f => f.elim⟩
  have hPs : Hid (w.heap.size < (w.alloc (.cells #[.slice (A 0) (n 0) (C 0), .slice (A 1) (n 1) (C 1), .slice (A 2) (n 2) (C 2)] 34)).heap.size) := by show _ < _; simp
  have HA := hide ha
  have HNN := hide hn
  clear ho ha hn kA
  go_enter Try.func17, Try.ntmps17
  go_upto_region 2 with fail
  generalize w.alloc (.cells #[.slice (A 0) (n 0) (C 0), .slice (A 1) (n 1) (C 1), .slice (A 2) (n 2) (C 2)] 34) = w2 at *
  obtain ⟨P, hP⟩ : ∃ P, P = w.heap.size := ⟨_, rfl⟩
  rw [← hP] at I0 hPs
  rw [← hP]
  have HP := hide hP
  clear hP
  go_wp2_with fail
  go_loopw [9] (fun iv wr => ∃ i : Nat, iv = .int .i64 (i : Nat) ∧ i ≤ 3 ∧ Hid (F1 w P (fun j => .slice (A j) (n j) (C j)) n i 0 wr ∧ P < wr.heap.size)) (fun iv _ => 3 - (intOf iv).toNat)
  case atStart => exact ⟨0, rfl, by omega, I0.out, hPs.out⟩
  case round => as_aux_lemma =>
    clear I0 hPs
    obtain ⟨i, rfl, hi, HD⟩ := hrel
    by_cases hlt : i < 3
    · as_aux_lemma =>
      have hlt' : (i : Int) < 3 := by omega
      have hni : n i ≤ 1000 := HNN.out i hlt
      go_wp2_with fail
      go_loopw [10] (fun kv wr => ∃ k : Nat, kv = .int .i64 (k : Nat) ∧ k ≤ n i ∧ Hid (F1 w P (fun j => .slice (A j) (n j) (C j)) n i k wr ∧ P < wr.heap.size)) (fun kv _ => n i - (intOf kv).toNat)
      case atStart => exact ⟨0, rfl, Nat.zero_le _, HD.out⟩
      case round => as_aux_lemma =>
        clear HD
        obtain ⟨k, rfl, hk, HD⟩ := hrel
        obtain ⟨⟨X, h1, h2, h3, h4⟩, hps⟩ := HD.out
        have cP := h1.cell hlt
        try simp only at cP
        by_cases hkn : k < n i
        · have hkn' : (k : Int) < (n i : Int) := by omega
          obtain ⟨g, cap, e⟩ := own_form (h1.own i hlt) (by omega)
          injection e with eA _ eC
          have hOi := h1.own i hlt
          try simp only at hOi
          rw [eA] at hOi cP
          obtain ⟨y, hy⟩ : ∃ y, (X i)[k]? = some y := ⟨_, List.getElem?_eq_getElem (by have := hOi.1; omega)⟩
          have cc := hOi.cellAt k (by omega)
          rw [hy] at cc
          have fz := hOi.frozenAt k
          have hw : IntKind.i64.wrap (-100 - (i : Int)) = -100 - (i : Int) := by rw [IntKind.wrap_i64]; omega
          have N1 : Hid (F1 w P (fun j => .slice (A j) (n j) (C j)) n i (k + 1) (wr.setCell ⟨g, k, none⟩ (.int .i64 (-100 - (i : Int)))) ∧ P < (wr.setCell ⟨g, k, none⟩ (.int .i64 (-100 - (i : Int)))).heap.size) := by
            refine ⟨⟨_, h1.set HA.out hlt (g := g) (c := C i) (by show Value.slice (A i) (n i) (C i) = _; rw [eA]) (.int .i64 (-100 - (i : Int))) (k := k), fun j hj => ?_, fun t ht => ?_, h4.trans (keep_cell wr g k _) fun q e => .inl ⟨i, hlt, by show (Value.slice (A i) (n i) (C i)).ownBlock = _; rw [eA, e]; rfl⟩⟩, by simpa [World.setCell] using hps⟩
            · simp only [if_neg (show ¬ j = i by omega)]
              exact h2 j hj
            · simp only [if_true]
              rw [List.getElem?_set]
              split
              · rename_i e
                subst e
                rw [if_pos (List.getElem?_eq_some_iff.1 hy).1]
                rfl
              · exact h3 t (by omega)
          clear h1 h2 h3 h4 hps hOi hy HD
          go_wp2_with fail
          go_roundw
          · exact ⟨k + 1, rfl, by omega, N1.out⟩
          · show n i - ((k : Int) + 1).toNat < n i - (k : Int).toNat
            omega
        · obtain rfl : k = n i := by omega
          have hkn' : ¬ ((n i : Int) < (n i : Int)) := by omega
          have N1 : Hid (F1 w P (fun j => .slice (A j) (n j) (C j)) n (i + 1) 0 wr ∧ P < wr.heap.size) := ⟨HD.out.1.next hlt, HD.out.2⟩
          clear HD h1 h2 h3 h4 hps
          go_wp2_with fail
          go_roundw
          · exact ⟨i + 1, rfl, by omega, N1.out⟩
          · show 3 - ((i : Int) + 1).toNat < 3 - (i : Int).toNat
            omega
    · as_aux_lemma =>
      have hi3 : i = 3 := by omega
      have hge : ¬ ((i : Int) < 3) := by omega
      have J0 : Hid (F3 w P (fun j => .slice (A j) (n j) (C j)) n 0 (.slice none 0 0) wr) := by
        obtain ⟨⟨X, h1, h2, h3, h4⟩, hps⟩ := HD.out
        refine ⟨fun _ => .slice none 0 0, ⟨⟨fun j hj => ?_, h1.row⟩, World.ownsRow_nil _ _ _ _, fun j hj => absurd hj (Nat.not_lt_zero _), fun j _ _ hj => absurd hj (Nat.not_lt_zero _), hps⟩, h4⟩
        have := h1.own j hj
        rw [h2 j (by omega)] at this
        exact this
      clear HD hlt hi
      go_wp2_with fail
      go_loopw [8, 11] (fun gvv iv wr => ∃ (i : Nat) (ga : Option Addr) (gc : Nat), gvv = .slice ga i gc ∧ iv = .int .i64 (i : Nat) ∧ i ≤ 3 ∧ Hid (F3 w P (fun j => .slice (A j) (n j) (C j)) n i (.slice ga i gc) wr)) (fun _ iv _ => 3 - (intOf iv).toNat)
      case atStart => exact ⟨0, none, 0, rfl, rfl, by omega, J0.out⟩
      case round => as_aux_lemma =>
        clear J0
        obtain ⟨i, ga, gc, rfl, rfl, hi, HD⟩ := hrel
        by_cases hlt : i < 3
        · as_aux_lemma =>
          have hlt' : (i : Int) < 3 := by omega
          have hni : n i ≤ 1000 := HNN.out i hlt
          obtain ⟨u, h1, h2⟩ := HD.out
          have cP := h1.o3.cell hlt
          try simp only at cP
          have J1 : Hid (G4 wr P (fun j => .slice (A j) (n j) (C j)) n i (.slice ga i gc) u 0 (.slice (A i) (n i) (C i)) w.heap.size ∧ Keep (Sb fun j => .slice (A j) (n j) (C j)) w wr) := ⟨h1.begin HA.out hlt _, h2⟩
          clear HD h1 h2
          go_wp2_with fail
          clear cP
          go_loopw [12, 13] (fun vv kv wr => ∃ (m : Nat) (av : Option Addr) (cv : Nat), vv = .slice av (n i + m) cv ∧ kv = .int .i64 (m : Nat) ∧ m ≤ 70 ∧ Hid (G4 wr P (fun j => .slice (A j) (n j) (C j)) n i (.slice ga i gc) u m (.slice av (n i + m) cv) w.heap.size ∧ Keep (Sb fun j => .slice (A j) (n j) (C j)) w wr)) (fun _ kv _ => 70 - (intOf kv).toNat)
          case atStart => exact ⟨0, _, _, rfl, rfl, by omega, J1.out⟩
          case round => as_aux_lemma =>
            clear J1
            obtain ⟨m, av, cv, rfl, rfl, hm, HD⟩ := hrel
            by_cases hm70 : m < 70
            · have hm' : (m : Int) < 70 := by omega
              have hw : IntKind.i64.wrap (-100 - (i : Int)) = -100 - (i : Int) := by rw [IntKind.wrap_i64]; omega
              have kA := Keep.alloc (fun _ => False) wr (.cells #[.int .i64 (-100 - (i : Int))] 3)
              have GA := hide (HD.out.1.new kA)
              have KA := hide (HD.out.2.more (kA.mono fun _ f => f.elim))
              have CA := hide (cell_one wr (.int .i64 (-100 - (i : Int))) 3)
              have VA := hide GA.out.vo
              have hn1 : n i + m + 1 ≤ 17592186044416 := by omega
              have hsA : Hid (w.heap.size ≤ (wr.alloc (.cells #[.int .i64 (-100 - (i : Int))] 3)).heap.size) := KA.out.size
              clear HD kA
              go_wp2_with (at_builtin; go_must (refine wp_append1M rfl _ _ rfl (.slice av (n i + m) cv) (n i + m) (List.replicate (n i + m) (xv i)) rfl VA.out ⟨wr.heap.size, 0, none⟩ _ rfl CA.out hn1 ?_); intro v' w4 ap; obtain ⟨u4, u6, hv4⟩ := ownsRow_shape ap.own; subst hv4; have AP := hide ap; clear ap)
              go_roundw
              · refine ⟨m + 1, u4, u6, rfl, rfl, by omega, GA.out.app hlt hsA.out AP.out, KA.out.trans AP.out.keep fun q hq => ?_⟩
                rcases GA.out.vf q hq with h | h
                · exact .inl ⟨i, hlt, h⟩
                · exact .inr h
              · show 70 - ((m : Int) + 1).toNat < 70 - (m : Int).toNat
                omega
            · obtain rfl : m = 70 := by omega
              have kA := Keep.alloc (fun _ => False) wr (.cells #[.slice av (n i + 70) cv] 34)
              have GA := hide (HD.out.1.new kA)
              have KA := hide (HD.out.2.more (kA.mono fun _ f => f.elim))
              have CA := hide (cell_one wr (.slice av (n i + 70) cv) 34)
              have VA := hide GA.out.g3.gs
              have hbs : P + 1 ≤ (wr.alloc (.cells #[.slice av (n i + 70) cv] 34)).heap.size := GA.out.g3.p
              clear HD kA
              go_wp2_with (at_builtin; go_must (refine wp_appendL rfl _ _ rfl (P + 1) (.slice ga i gc) i ((List.range i).map u) rfl VA.out ⟨wr.heap.size, 0, none⟩ _ _ _ rfl CA.out (by omega) hbs ?_); intro v' w4 o4 k4 b4; obtain ⟨u4, u6, hv4⟩ := ownsRow_shape o4; subst hv4; have O4 := hide o4; have K4 := hide k4; clear o4 k4 b4)
              go_roundw
              · refine ⟨i + 1, u4, u6, rfl, rfl, by omega, _, GA.out.done hlt O4.out K4.out, KA.out.trans K4.out fun q hq => .inr ?_⟩
                have := ownsRow_from VA.out hq
                have := HP.out
                omega
              · show 3 - ((i : Int) + 1).toNat < 3 - (i : Int).toNat
                omega
        · as_aux_lemma =>
          obtain rfl : i = 3 := by omega
          obtain ⟨u, h1, h2⟩ := HD.out
          have HG := hide h1
          have HK := hide h2
          obtain ⟨gg, gcap, eg⟩ := own_form h1.gs (by omega)
          injection eg with e1 _ e2
          subst e1
          subst e2
          have HCG : Hid (∀ i, i < 3 → wr.cell? ⟨gg, i, none⟩ = some (u i)) := fun i hi => by
            rw [h1.gs.cellAt i (by omega), List.getElem?_map, List.getElem?_range hi]
            rfl
          clear HD h1 h2
          go_wp2_with fail
          go_loopw [14] (fun iv wx => ∃ i : Nat, iv = .int .i64 (i : Nat) ∧ i ≤ 3 ∧ wx = wr) (fun iv _ => 3 - (intOf iv).toNat)
          case atStart => exact ⟨0, rfl, by omega, rfl⟩
          case round => as_aux_lemma =>
            obtain ⟨i, rfl, hi, hwx⟩ := hrel
            subst hwx
            by_cases hlt : i < 3
            · have hlt' : (i : Int) < 3 := by omega
              have hni : n i ≤ 1000 := HNN.out i hlt
              have hw : IntKind.i64.wrap (-100 - (i : Int)) = -100 - (i : Int) := by rw [IntKind.wrap_i64]; omega
              have hui := HG.out.us i hlt
              obtain ⟨hg, hcap, eu⟩ := own_form hui (by omega)
              have cG := HCG.out i hlt
              rw [eu] at cG hui
              have HUI : Hid (∀ t, t < n i + 70 → wr.cell? ⟨hg, t, none⟩ = some (.int .i64 (-100 - (i : Int)))) := fun t ht => by
                rw [hui.cellAt t (by omega), List.getElem?_replicate, if_pos ht]
                rfl
              clear hui eu
              go_wp2_with fail
              go_loopw [15] (fun kv wx => ∃ k : Nat, kv = .int .i64 (k : Nat) ∧ k ≤ n i + 70 ∧ wx = wr) (fun kv _ => n i + 70 - (intOf kv).toNat)
              case atStart => exact ⟨0, rfl, by omega, rfl⟩
              case round => as_aux_lemma =>
                obtain ⟨k, rfl, hk, hwx⟩ := hrel
                subst hwx
                by_cases hkn : k < n i + 70
                · have hkn' : (k : Int) < (n i : Int) + 70 := by omega
                  have cc := HUI.out k hkn
                  go_wp2_with fail
                  go_roundw
                  · exact ⟨k + 1, rfl, by omega, by trivial⟩
                  · show n i + 70 - ((k : Int) + 1).toNat < n i + 70 - (k : Int).toNat
                    omega
                · have hkn' : ¬ ((k : Int) < (n i : Int) + 70) := by omega
                  have cP := HG.out.o3.cell hlt
                  try simp only at cP
                  have HOI : Hid (∀ t, t < n i → ∃ g, A i = some ⟨g, 0, none⟩ ∧ ∀ s, s < n i → wr.cell? ⟨g, s, none⟩ = some (.int .i64 (-100 - (i : Int)))) := fun t ht => by
                    have ho := HG.out.o3.own i hlt
                    obtain ⟨g, cap, e⟩ := own_form ho (by omega)
                    injection e with eA _ eC
                    try simp only at ho
                    rw [eA] at ho
                    refine ⟨g, eA, fun s hs => ?_⟩
                    rw [ho.cellAt s (by omega), List.getElem?_replicate, if_pos hs]
                    rfl
                  clear HUI
                  go_wp2_with fail
                  go_loopw [16] (fun kv wx => ∃ k : Nat, kv = .int .i64 (k : Nat) ∧ k ≤ n i ∧ wx = wr) (fun kv _ => n i - (intOf kv).toNat)
                  case atStart => exact ⟨0, rfl, by omega, rfl⟩
                  case round => as_aux_lemma =>
                    obtain ⟨k', rfl, hk', hwx⟩ := hrel
                    subst hwx
                    by_cases hkn2 : k' < n i
                    · have hkn2' : (k' : Int) < (n i : Int) := by omega
                      obtain ⟨g, eA, hcells⟩ := HOI.out k' hkn2
                      have cc := hcells k' hkn2
                      rw [eA] at cP
                      clear hcells HOI
                      go_wp2_with fail
                      go_roundw
                      · exact ⟨k' + 1, rfl, by omega, by trivial⟩
                      · show n i - ((k' : Int) + 1).toNat < n i - (k' : Int).toNat
                        omega
                    · have hkn2' : ¬ ((k' : Int) < (n i : Int)) := by omega
                      clear HOI
                      go_wp2_with fail
                      go_roundw
                      · exact ⟨i + 1, rfl, by omega, by trivial⟩
                      · show 3 - ((i : Int) + 1).toNat < 3 - (i : Int).toNat
                        omega
            · obtain rfl : i = 3 := by omega
              go_wp2_with fail
              go_ret
              exact ⟨rfl, HK.out⟩
end Gr
end Go.Proofs.Ytpblmleodcaamaa
