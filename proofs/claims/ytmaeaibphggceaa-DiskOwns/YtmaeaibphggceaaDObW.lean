/- bytesOwn of chapter 5's laws (own_gen.py). -/
import Derived.Test.YtmaeaibphggceaaDObM
import Derived.Deep.DeepMust
import Derived.Deep.WholeRow
namespace Go.Proofs.Ytmaeaibphggceaa
namespace Ob
open Go.RowKit

set_option maxRecDepth 100000 in
set_option maxHeartbeats 20000000 in
theorem own_N (N : Nat) (hpos : 0 < N) (hN : N ≤ 4398046511104) (g0 rc : Nat) (A : Nat → Option Addr) (n C : Nat → Nat) (X : Nat → List Value) (P : Nat) (w : World) (ho : O3 w N P (.slice (some ⟨g0, 0, none⟩) N rc) (fun j => .slice (A j) (n j) (C j)) n X) (ha : Apart N (fun j => .slice (A j) (n j) (C j))) (hn : ∀ j, j < N → n j ≤ 1099511627776) :
    Calls Try.prog 15 #[.slice (some ⟨g0, 0, none⟩) N rc] w fun e w' => e = .returned (.bool true) ∧ Keep (Sb N fun j => .slice (A j) (n j) (C j)) w w' := by
  have I0 : Hid (F1 w N P (.slice (some ⟨g0, 0, none⟩) N rc) (fun j => .slice (A j) (n j) (C j)) n 0 w) := ⟨X, ho, fun j hj => absurd hj (Nat.not_lt_zero _), Keep.refl _ _⟩
  have HA := hide ha
  have HNN := hide hn
  have HP : Hid (∀ g, (Value.slice (some ⟨g0, 0, none⟩) N rc).ownBlock = some g → g < w.heap.size) := fun g e => (ho.row.lt g e).2
  clear ho ha hn
  go_enter Try.func15, Try.ntmps15
  go_wp2_with fail
  go_loopw [3] (fun iv wr => ∃ i : Nat, iv = .int .i64 (i : Nat) ∧ i ≤ N ∧ Hid (F1 w N P (.slice (some ⟨g0, 0, none⟩) N rc) (fun j => .slice (A j) (n j) (C j)) n i wr)) (fun iv _ => N - (intOf iv).toNat)
  case atStart => exact ⟨0, rfl, by omega, I0.out⟩
  case round => as_aux_lemma =>
    clear I0
    obtain ⟨i, rfl, hi, HD⟩ := hrel
    by_cases hlt : i < N
    · as_aux_lemma =>
      have hlt' : (i : Int) < (N : Int) := by omega
      have hni : n i ≤ 1099511627776 := HNN.out i hlt
      obtain ⟨d, hd⟩ : ∃ d : Nat, d = (2 * i + 1) % 256 := ⟨_, rfl⟩
      have HDD := hide hd
      have hm1 : (2 * (i : Int) + 1) % 256 = (d : Int) := by omega
      clear hd
      have I1 : Hid (F2 w N P (.slice (some ⟨g0, 0, none⟩) N rc) (fun j => .slice (A j) (n j) (C j)) n i 0 wr) := by
        obtain ⟨Y, h1, h2, h3⟩ := HD.out
        exact ⟨Y, h1, h2, fun t ht => absurd ht (Nat.not_lt_zero _), h3⟩
      clear HD
      go_wp2_with fail
      go_loopw [4] (fun kv wr => ∃ k : Nat, kv = .int .i64 (k : Nat) ∧ k ≤ n i ∧ Hid (F2 w N P (.slice (some ⟨g0, 0, none⟩) N rc) (fun j => .slice (A j) (n j) (C j)) n i k wr)) (fun kv _ => n i - (intOf kv).toNat)
      case atStart => exact ⟨0, rfl, Nat.zero_le _, I1.out⟩
      case round => as_aux_lemma =>
        clear I1
        obtain ⟨k, rfl, hk, HD⟩ := hrel
        by_cases hkn : k < n i
        · have hkn' : (k : Int) < (n i : Int) := by omega
          obtain ⟨Y, h1, h2, h3, h4⟩ := HD.out
          have cP := h1.cell hlt
          try simp only at cP
          have ho := h1.own i hlt
          obtain ⟨g, cap, e⟩ := own_form ho (by omega)
          injection e with eA _ eC
          try simp only at ho
          rw [eA] at ho cP
          obtain ⟨y, hy⟩ : ∃ y, (Y i)[k]? = some y := ⟨_, List.getElem?_eq_getElem (by have := ho.1; omega)⟩
          have cc := ho.cellAt k (by omega)
          rw [hy] at cc
          have fz := ho.frozenAt k
          have N1 : Hid (F2 w N P (.slice (some ⟨g0, 0, none⟩) N rc) (fun j => .slice (A j) (n j) (C j)) n i (k + 1) (wr.setCell ⟨g, k, none⟩ (.int .u8 (d : Int)))) := by
            have kk : Keep (fun q => (Value.slice (A i) (n i) (C i)).ownBlock = some q) wr (wr.setCell ⟨g, k, none⟩ (.int .u8 (d : Int))) := by
              rw [eA]
              exact Keep.setCell (S := fun q => (Value.slice (some ⟨g, 0, none⟩) (n i) (C i)).ownBlock = some q) wr (p := ⟨g, k, none⟩) rfl _
            refine ⟨_, h1.fill HA.out hlt kk (by show World.ownsRow _ _ _ _ (.slice (A i) (n i) (C i)) _ _; rw [eA]; exact (ho.stored k (.int .u8 (d : Int))).1), fun j hj => ?_, fun t ht => ?_, h4.trans kk fun q hq => .inl ⟨i, hlt, hq⟩⟩
            · simp only [if_neg (show ¬ j = i by omega)]
              exact h2 j hj
            · simp only [if_true]
              rw [List.getElem?_set]
              split
              · rename_i e
                subst e
                rw [if_pos (List.getElem?_eq_some_iff.1 hy).1, HDD.out]
                rfl
              · exact h3 t (by omega)
          clear h1 h2 h3 h4 ho hy HD
          go_wp2_with fail
          go_roundw
          · exact ⟨k + 1, rfl, by omega, N1.out⟩
          · show n i - ((k : Int) + 1).toNat < n i - (k : Int).toNat
            omega
        · have hkn' : ¬ ((k : Int) < (n i : Int)) := by omega
          obtain ⟨Y, h1, h2, h3, h4⟩ := HD.out
          have cP := h1.cell hlt
          try simp only at cP
          have N1 : Hid (F1 w N P (.slice (some ⟨g0, 0, none⟩) N rc) (fun j => .slice (A j) (n j) (C j)) n (i + 1) wr) := by
            refine ⟨Y, h1, fun j hj => ?_, h4⟩
            by_cases e : j = i
            · subst e
              apply List.ext_getElem?
              intro t
              rw [List.getElem?_replicate]
              split
              · rename_i ht
                exact h3 t (by omega)
              · rename_i ht
                exact List.getElem?_eq_none (by have := (h1.own j hlt).1; omega)
            · exact h2 j (by omega)
          clear h1 h2 h3 h4 HD
          go_wp2_with fail
          clear cP
          go_roundw
          · exact ⟨i + 1, rfl, by omega, N1.out⟩
          · show N - ((i : Int) + 1).toNat < N - (i : Int).toNat
            omega
    · as_aux_lemma =>
      obtain rfl : N = i := by omega
      have hge : ¬ ((N : Int) < (N : Int)) := by omega
      have J0 : Hid (F3 w N P w.heap.size (.slice (some ⟨g0, 0, none⟩) N rc) (fun j => .slice (A j) (n j) (C j)) n 0 (.slice none 0 0) wr) := by
        obtain ⟨Y, h1, h2, h4⟩ := HD.out
        refine ⟨fun _ => .slice none 0 0, ⟨⟨fun j hj => ?_, h1.row⟩, World.ownsRow_nil _ _ _ _, fun j hj => absurd hj (Nat.not_lt_zero _), fun j _ _ hj => absurd hj (Nat.not_lt_zero _), HP.out, h4.size⟩, h4⟩
        have := h1.own j hj
        rw [h2 j (by omega)] at this
        exact this
      clear HD hlt hi
      go_wp2_with fail
      go_loopw [5, 6] (fun gvv iv wr => ∃ (i : Nat) (ga : Option Addr) (gc : Nat), gvv = .slice ga i gc ∧ iv = .int .i64 (i : Nat) ∧ i ≤ N ∧ Hid (F3 w N P w.heap.size (.slice (some ⟨g0, 0, none⟩) N rc) (fun j => .slice (A j) (n j) (C j)) n i (.slice ga i gc) wr)) (fun _ iv _ => N - (intOf iv).toNat)
      case atStart => exact ⟨0, none, 0, rfl, rfl, by omega, J0.out⟩
      case round => as_aux_lemma =>
        clear J0
        obtain ⟨i, ga, gc, rfl, rfl, hi, HD⟩ := hrel
        by_cases hlt : i < N
        · as_aux_lemma =>
          have hlt' : (i : Int) < (N : Int) := by omega
          have hni : n i ≤ 1099511627776 := HNN.out i hlt
          obtain ⟨u, h1, h2⟩ := HD.out
          have cP := h1.o3.cell hlt
          try simp only at cP
          have J1 : Hid (G4 wr N P w.heap.size (.slice (some ⟨g0, 0, none⟩) N rc) (fun j => .slice (A j) (n j) (C j)) n i (.slice ga i gc) u 0 (.slice (A i) (n i) (C i)) ∧ Keep (Sb N fun j => .slice (A j) (n j) (C j)) w wr) := ⟨h1.begin HA.out hlt, h2⟩
          clear HD h1 h2
          go_wp2_with fail
          clear cP
          go_loopw [7, 8] (fun vv kv wr => ∃ (m : Nat) (av : Option Addr) (cv : Nat), vv = .slice av (n i + m) cv ∧ kv = .int .i64 (m : Nat) ∧ m ≤ 40 ∧ Hid (G4 wr N P w.heap.size (.slice (some ⟨g0, 0, none⟩) N rc) (fun j => .slice (A j) (n j) (C j)) n i (.slice ga i gc) u m (.slice av (n i + m) cv) ∧ Keep (Sb N fun j => .slice (A j) (n j) (C j)) w wr)) (fun _ kv _ => 40 - (intOf kv).toNat)
          case atStart => exact ⟨0, _, _, rfl, rfl, by omega, J1.out⟩
          case round => as_aux_lemma =>
            clear J1
            obtain ⟨m, av, cv, rfl, rfl, hm, HD⟩ := hrel
            by_cases hm40 : m < 40
            · have hm' : (m : Int) < 40 := by omega
              obtain ⟨d, hd⟩ : ∃ d : Nat, d = (2 * i + 2) % 256 := ⟨_, rfl⟩
              have HDD := hide hd
              have hm2 : (2 * (i : Int) + 2) % 256 = (d : Int) := by omega
              clear hd
              have kA := Keep.alloc (fun _ => False) wr (.cells #[.int .u8 (d : Int)] 5)
              have GA := hide (HD.out.1.new kA)
              have KA := hide (HD.out.2.more (kA.mono fun _ f => f.elim))
              have CA := hide (cell_one wr (.int .u8 (d : Int)) 5)
              have VA := hide GA.out.vo
              have hn1 : n i + m + 1 ≤ 140737488355328 := by omega
              clear HD kA
              go_wp2_with (at_builtin; go_must (refine wp_append1M rfl _ _ rfl (.slice av (n i + m) cv) (n i + m) (gl (n i) m i) rfl VA.out ⟨wr.heap.size, 0, none⟩ _ rfl CA.out hn1 ?_); intro v' w4 ap; obtain ⟨u4, u6, hv4⟩ := ownsRow_shape ap.own; subst hv4; have AP := hide ap; clear ap)
              go_roundw
              · refine ⟨m + 1, u4, u6, rfl, rfl, by omega, GA.out.app hlt (by rw [HDD.out]) AP.out, KA.out.trans AP.out.keep fun q hq => ?_⟩
                rcases GA.out.vf q hq with h | h
                · exact .inl ⟨i, hlt, h⟩
                · exact .inr h
              · show 40 - ((m : Int) + 1).toNat < 40 - (m : Int).toNat
                omega
            · obtain rfl : m = 40 := by omega
              have kA := Keep.alloc (fun _ => False) wr (.cells #[.slice av (n i + 40) cv] 26)
              have GA := hide (HD.out.1.new kA)
              have KA := hide (HD.out.2.more (kA.mono fun _ f => f.elim))
              have CA := hide (cell_one wr (.slice av (n i + 40) cv) 26)
              have VA := hide GA.out.g3.gs
              have hbs := hide GA.out.g3.q
              clear HD kA
              go_wp2_with (at_builtin; go_must (refine wp_appendL rfl _ _ rfl w.heap.size (.slice ga i gc) i ((List.range i).map u) rfl VA.out ⟨wr.heap.size, 0, none⟩ _ _ _ rfl CA.out (by omega) hbs.out ?_); intro v' w4 o4 k4 b4; obtain ⟨u4, u6, hv4⟩ := ownsRow_shape o4; subst hv4; have O4 := hide o4; have K4 := hide k4; clear o4 k4 b4)
              go_roundw
              · refine ⟨i + 1, u4, u6, rfl, rfl, by omega, _, GA.out.done hlt O4.out K4.out, KA.out.trans K4.out fun q hq => .inr ?_⟩
                exact (VA.out.lt q hq).1
              · show N - ((i : Int) + 1).toNat < N - (i : Int).toNat
                omega
        · as_aux_lemma =>
          obtain rfl : N = i := by omega
          obtain ⟨u, h1, h2⟩ := HD.out
          have HG := hide h1
          have HK := hide h2
          obtain ⟨gg, gcap, eg⟩ := own_form h1.gs (by omega)
          injection eg with e1 _ e2
          subst e1
          subst e2
          have HCG : Hid (∀ i, i < N → wr.cell? ⟨gg, i, none⟩ = some (u i)) := fun i hi => by
            rw [h1.gs.cellAt i (by omega), List.getElem?_map, List.getElem?_range hi]
            rfl
          clear HD h1 h2
          go_wp2_with fail
          go_loopw [9] (fun iv wx => ∃ i : Nat, iv = .int .i64 (i : Nat) ∧ i ≤ N ∧ wx = wr) (fun iv _ => N - (intOf iv).toNat)
          case atStart => exact ⟨0, rfl, by omega, rfl⟩
          case round => as_aux_lemma =>
            obtain ⟨i, rfl, hi, hwx⟩ := hrel
            subst hwx
            by_cases hlt : i < N
            · have hlt' : (i : Int) < (N : Int) := by omega
              have hni : n i ≤ 1099511627776 := HNN.out i hlt
              obtain ⟨d1, hd1⟩ : ∃ d : Nat, (2 * i + 1) % 256 = d := ⟨_, rfl⟩
              obtain ⟨d2, hd2⟩ : ∃ d : Nat, (2 * i + 2) % 256 = d := ⟨_, rfl⟩
              have hm1 : (2 * (i : Int) + 1) % 256 = (d1 : Int) := by omega
              have hm2 : (2 * (i : Int) + 2) % 256 = (d2 : Int) := by omega
              have HD1 := hide hd1
              have HD2 := hide hd2
              clear hd1 hd2
              have hui := HG.out.us i hlt
              obtain ⟨hg, hcap, eu⟩ := own_form hui (by omega)
              have cG := HCG.out i hlt
              have cP := HG.out.o3.cell hlt
              try simp only at cP
              rw [eu] at cG hui
              have HUI : Hid (∀ t, t < n i + 40 → wr.cell? ⟨hg, t, none⟩ = some (if t < n i then fv i else gv i)) := fun t ht => by
                rw [hui.cellAt t (by omega), gl_at ht]
              have HOI : Hid (∀ t, t < n i → ∃ g, A i = some ⟨g, 0, none⟩ ∧ wr.cell? ⟨g, t, none⟩ = some (fv i)) := fun t ht => by
                have ho := HG.out.o3.own i hlt
                obtain ⟨g, cap, e⟩ := own_form ho (by omega)
                injection e with eA _ eC
                try simp only at ho
                rw [eA] at ho
                refine ⟨g, eA, ?_⟩
                rw [ho.cellAt t (by omega), List.getElem?_replicate, if_pos ht]
              clear hui eu
              go_wp2_with fail
              go_loopw [10] (fun kv wx => ∃ k : Nat, kv = .int .i64 (k : Nat) ∧ k ≤ n i + 40 ∧ wx = wr) (fun kv _ => n i + 40 - (intOf kv).toNat)
              case atStart => exact ⟨0, rfl, by omega, rfl⟩
              case round => as_aux_lemma =>
                obtain ⟨k, rfl, hk, hwx⟩ := hrel
                subst hwx
                by_cases hkn : k < n i + 40
                · have hkn' : (k : Int) < (n i : Int) + 40 := by omega
                  have cc := HUI.out k hkn
                  by_cases hk2 : k < n i
                  · have hk2' : (k : Int) < (n i : Int) := by omega
                    rw [if_pos hk2] at cc
                    obtain ⟨g, eA, c3⟩ := HOI.out k hk2
                    rw [eA] at cP
                    unfold fv at cc c3
                    rw [HD1.out] at cc c3
                    clear HUI HOI
                    go_wp2_with fail
                    go_roundw
                    · exact ⟨k + 1, rfl, by omega, by trivial⟩
                    · show n i + 40 - ((k : Int) + 1).toNat < n i + 40 - (k : Int).toNat
                      omega
                  · have hk2' : ¬ ((k : Int) < (n i : Int)) := by omega
                    rw [if_neg hk2] at cc
                    unfold gv at cc
                    rw [HD2.out] at cc
                    clear HUI HOI
                    go_wp2_with fail
                    go_roundw
                    · exact ⟨k + 1, rfl, by omega, by trivial⟩
                    · show n i + 40 - ((k : Int) + 1).toNat < n i + 40 - (k : Int).toNat
                      omega
                · have hkn' : ¬ ((k : Int) < (n i : Int) + 40) := by omega
                  clear HUI HOI
                  go_wp2_with fail
                  go_roundw
                  · exact ⟨i + 1, rfl, by omega, by trivial⟩
                  · show N - ((i : Int) + 1).toNat < N - (i : Int).toNat
                    omega
            · obtain rfl : N = i := by omega
              go_wp2_with fail
              go_ret
              exact ⟨rfl, HK.out⟩
end Ob
end Go.Proofs.Ytmaeaibphggceaa
