/- WheelCancels: the walk. -/
import Derived.Test.YtmbhlhgggmcnoaaWCnM
import Derived.Test.YtmbhlhgggmcnoaaWFnd
import Derived.Deep.QuietTactic
import Derived.Laws.MakeOwn
namespace Go.Proofs.Ytmbhlhgggmcnoaa
namespace Wh
open Go.RowKit

theorem info_boolC : (Try.prog.info? 4).map (fun i => (i.zero, i.size, i.bytes)) = some (some (.bool false), 1, 1) := by kernel_rfl
theorem made_boolsC (u : World) (n : Nat) (hn : n ≤ 1048576) : (Instr.makeSlice 88 (.int .i64 ((n : Nat) + 1)) (.int .i64 ((n : Nat) + 1))).run Try.prog u = .ok (.slice (some ⟨u.heap.size, 0, none⟩) (n + 1) (n + 1)) (u.alloc (.cells (madeCells #[.bool false] (n + 1)) 4)) := by
  obtain ⟨i0, hi, hz0, hz1, hz2⟩ := info_parts info_boolC
  have h := run_make (P := Try.prog) (w := u) 88 4 i0 (.bool false) Try.underlying88 hi hz0 .i64 .i64 ((n : Int) + 1) ((n : Int) + 1) (by omega) (Int.le_refl _) (by rw [hz2]; omega) (by omega)
  have e : ((n : Int) + 1).toNat = n + 1 := by omega
  rw [e] at h
  simpa [hz1, Value.cells] using h
theorem out_new (w : World) (n : Nat) : OutAt 4 (w.alloc (.cells (madeCells #[.bool false] n) 4)) w.heap.size n [] :=
  ⟨_, heap_alloc_new _ _, by simp [madeCells], fun j hj => by simp [madeCells, hj, Nat.mod_one]⟩

set_option maxRecDepth 100000 in
set_option maxHeartbeats 16000000 in
theorem can_walk (x0 : Int) (a1 : Option Addr) (n1 c1 : Nat) (a2 : Option Addr) (n2 c2 : Nat) (z1 z2 : List Int) (w : World) (b1 : -9223372036854775808 ≤ x0) (b2 : x0 ≤ 9223372036854775807) (hz1 : Rz w a1 n1 z1) (hz2 : Rz w a2 n2 z2) :
    Calls Try.prog 7 #[.int .i64 x0, .slice a1 n1 c1, .slice a2 n2 c2] w fun e w' => e = .returned (.bool true) ∧ Below w.heap.size w w' := by
  obtain ⟨now, hnow, hnow2⟩ : ∃ n : Nat, pickV x0 4611686018427387904 = (n : Int) ∧ n < 4611686018427387904 := ⟨(pickV x0 4611686018427387904).toNat, by have := pickV_in x0 4611686018427387904 (by omega); omega, by have := pickV_in x0 4611686018427387904 (by omega); omega⟩
  have P1 : Hid (∀ w, Calls Try.prog 14 #[.int .i64 x0, .int .i64 4611686018427387904] w fun e w' => e = .returned (.int .i64 (now : Nat)) ∧ w' = w) := fun w => by rw [← hnow]; exact pick_any x0 4611686018427387904 b1 b2 (by omega) (by omega) w
  have hnM : now ≤ M := by unfold M; omega
  have hn1 := hz1.2.1
  have hn2 := hz2.2.1
  have hl1 := hide hz1.1
  have hl2 := hide hz2.1
  have HZ1 := hide hz1
  have HZ2 := hide hz2
  clear hnow b1 b2 hz1 hz2
  go_enter Try.func7, Try.ntmps7
  go_wp2_with fail
  go_at_call 9
  refine (awake_any _).mono ?_
  rintro e w1 ⟨rfl, k1⟩
  have K1 := hide k1
  clear k1
  go_wp2_with fail
  go_at_call 14
  refine (P1.out _).mono ?_
  rintro e w2 ⟨rfl, hw2⟩
  rw [hw2]
  clear hw2 w2 P1
  go_wp2_with fail
  go_at_call 30
  refine (fill_any now hnM a1 n1 c1 z1 w1 (HZ1.out.at K1.out fun _ e => e.elim)).mono ?_
  rintro e w3 ⟨P, sa, rfl, hfa, h3, k3⟩
  obtain ⟨Sa, hxa, hSal, hSas⟩ := h3.exact
  have K3 := hide (K1.out.more k3)
  have HFA := hide hfa
  have HXA := hide hxa
  have HSal := hide hSal
  have HSas : Hid (∀ k, Sa k → w.heap.size ≤ k) := fun k e => Nat.le_trans K1.out.size (hSas k e)
  clear hfa h3 k3 hxa hSal hSas
  go_wp2_with fail
  go_at_call 30
  refine (fill_any now hnM a1 n1 c1 z1 w3 (HZ1.out.at K3.out fun _ e => e.elim)).mono ?_
  rintro e w4 ⟨Q, sb, rfl, hfb, h4, k4⟩
  obtain ⟨Sb, hxb, hSbl, hSbs⟩ := h4.exact
  have K4 := hide (K3.out.more k4)
  have HFB := hide hfb
  have HXB := hide hxb
  have HSbl := hide hSbl
  have HSbs := hide hSbs
  have HXA4 := hide (HXA.out.new k4)
  have hs34 : w3.heap.size ≤ w4.heap.size := k4.size
  have hs3 : w.heap.size ≤ w3.heap.size := K3.out.size
  clear hfb h4 k4 hxb hSbl hSbs HXA
  have hmk := fun u => made_boolsC u n1 hn1
  go_wp2_with fail
  obtain ⟨W5, hW5⟩ : ∃ W5, W5 = w4.alloc (.cells (madeCells #[.bool false] (n1 + 1)) 4) := ⟨_, rfl⟩
  rw [← hW5]
  have k5 : Keep (fun _ => False) w4 W5 := by rw [hW5]; exact Keep.alloc _ _ _
  have OU : Hid (OutAt 4 W5 w4.heap.size (n1 + 1) []) := by rw [hW5]; exact out_new w4 (n1 + 1)
  have HA5 := hide (HXA4.out.new k5)
  have HB5 := hide (HXB.out.new k5)
  have K5 := hide ((K4.out.more k5).mono (T := fun k => w.heap.size ≤ k) fun _ e => e.elim)
  have hz5 : w4.heap.size < W5.heap.size := by rw [hW5, World.size_alloc]; omega
  have HSA : Hid (∀ k, Sa k → k < w3.heap.size) := HSal.out
  have HSB : Hid (∀ k, Sb k → w3.heap.size ≤ k ∧ k < w4.heap.size) := fun k e => ⟨HSbs.out k e, HSbl.out k e⟩
  have CN := hide (CanI.start HFA.out)
  clear hW5 k5 hmk HXA4 HXB K4 K3 HSal HSbl HSbs
  generalize w4.heap.size = OB at *
  generalize w3.heap.size = SM at *
  go_loopw [11, 12] (fun nv iv wr => ∃ (i : Nat) (cur : St) (G : List Nat), nv = .int .i64 (G.length : Nat) ∧ iv = .int .i64 (i : Nat) ∧ i ≤ n2 ∧ G.length ≤ n1 ∧ Hid (CanI now (z1.map (dueOf now)) sa cur G ∧ WAt 119 121 Sa wr P cur ∧ OutAt 4 wr OB (n1 + 1) G ∧ Keep (fun k => Sa k ∨ k = OB) W5 wr)) (fun _ iv _ => n2 - (intOf iv).toNat)
  case atStart => exact ⟨0, sa, [], rfl, rfl, Nat.zero_le _, Nat.zero_le _, CN.out, HA5.out, OU.out, Keep.refl _ _⟩
  case round =>
    obtain ⟨i, cur, G, rfl, rfl, hi, hG, HI⟩ := hrel
    have KW : Hid (Keep (fun k => w.heap.size ≤ k) w wr) := K5.out.more (HI.out.2.2.2.mono fun k e => by
      rcases e with e | e
      · exact HSas.out k e
      · show w.heap.size ≤ k; omega)
    have hz6 : W5.heap.size ≤ wr.heap.size := HI.out.2.2.2.size
    rcases Nat.lt_or_ge i n2 with hlt | hge
    rotate_left
    focus
      have hcmp : ¬ i < n2 := by omega
      go_wp2_with fail
      clear hcmp
    rotate_left
    rcases Nat.eq_zero_or_pos n1 with h10 | h10
    focus
      have H10 := hide h10
      have hcmp : ¬ 0 < n1 := by omega
      clear h10
      go_wp2_with fail
      clear hcmp
    rotate_left
    focus
      obtain ⟨b, off, hab, hbl, hcell⟩ := HZ2.out.2.2.2.resolve_left (by omega)
      subst hab
      have cz := KW.out.cell (hcell i hlt) (by show ¬ (w.heap.size ≤ b); omega)
      have hbz := HZ2.out.2.2.1 (z2.getD i 0) (by rw [List.getD_eq_getElem?_getD, List.getElem?_eq_getElem (by rw [← hl2.out]; exact hlt)]; simp)
      generalize z2.getD i 0 = x at *
      obtain ⟨pq, hpq, hpq2⟩ : ∃ n : Nat, pickV x (n1 : Nat) = (n : Int) ∧ n < n1 := ⟨(pickV x (n1 : Nat)).toNat, by have := pickV_in x (n1 : Nat) (by omega); omega, by have := pickV_in x (n1 : Nat) (by omega); omega⟩
      have PK : Hid (∀ w, Calls Try.prog 14 #[.int .i64 x, .int .i64 (n1 : Nat)] w fun e w' => e = .returned (.int .i64 (pq : Nat)) ∧ w' = w) := fun w => by rw [← hpq]; exact pick_any x _ hbz.1 hbz.2 (by omega) (by omega) w
      clear hpq hbz hcell
      obtain ⟨id, hid⟩ : ∃ id : Nat, id = 1 + pq := ⟨_, rfl⟩
      have hE : 1 + (pq : Int) = (id : Int) := by omega
      have hw1 : IntKind.i64.wrap (1 + (pq : Int)) = (id : Int) := by rw [hE, IntKind.wrap_i64]; omega
      have hidn : id < n1 + 1 := by omega
      have hid1 : 1 ≤ id := by omega
      clear hid
      go_wp2_with fail
      go_at_call 14
      refine (PK.out _).mono ?_
      rintro e w6 ⟨rfl, hw6⟩
      rw [hw6]
      clear hw6 w6 PK
      go_wp2_with fail
      go_at_call 35
      have hD : (z1.map (dueOf now)).length = n1 := by rw [List.length_map, ← hl1.out]
      have hmem : id ∈ cur.ids ↔ id ∉ G := by rw [HI.out.1.ids, hD]; exact ⟨fun a => a.2, fun a => ⟨⟨hid1, by omega⟩, a⟩⟩
      refine (find_any id _ HI.out.2.1 (by omega) HI.out.1.typed).mono ?_
      rintro e w7 ⟨k7, hf⟩
      have hlastc : cur.last < 2 ^ 62 := by rw [HI.out.1.last, hD]; omega
      have hz7 : wr.heap.size ≤ w7.heap.size := k7.size
      obtain ⟨cs, hs1, hs2, hs3⟩ := HI.out.2.2.1
      have hOBl : OB < wr.heap.size := (Array.getElem?_eq_some_iff.1 hs1).1
      have K7 := hide k7
      have H7 := hide (HI.out.2.1.new k7)
      have O7 := hide (HI.out.2.2.1.keep k7 fun f => f)
      clear cs hs1 hs2 hs3 k7 cz
      rcases hf with ⟨hm, rfl⟩ | ⟨hm, rfl⟩
      · obtain ⟨y1, hy⟩ := HI.out.1.typed id hm
        rw [hy]
        have hnG := hmem.1 hm
        generalize cur.due id = dd
        go_wp2_with fail
        go_at_call 36
        obtain ⟨W8, hW8⟩ : ∃ W8, W8 = w7.alloc (.cells #[.int .i64 (id : Nat), .int .i64 (dd : Nat), .int .i64 y1] 89) := ⟨_, rfl⟩
        rw [← hW8]
        have k8 : Keep (fun _ => False) w7 W8 := by rw [hW8]; exact Keep.alloc _ _ _
        have t8 : W8.heap[w7.heap.size]? = some (.cells #[.int .i64 (id : Nat), .int .i64 (dd : Nat), .int .i64 y1] 89 (0, 0)) := by rw [hW8]; exact heap_alloc_new _ _
        refine (cancelI id _ (H7.out.new k8) (by omega) hlastc).mono ?_
        rintro e w9 ⟨k9, hc⟩
        obtain ⟨_, rfl, h9⟩ := hc.resolve_right (fun h => h.1 hm)
        have hnS : Hid (∀ k, SM ≤ k → ¬ Sa k) := fun k hk e => by have := HSA.out k e; omega
        have t9 := k9.blk t8 (hnS.out _ (by omega))
        have l0 := cell_blk t9 0 rfl
        have O9 := hide ((O7.out.keep k8 fun f => f).keep k9 (hnS.out _ hs34))
        obtain ⟨cs, hs1, hs2, hs3⟩ := O9.out
        have sj := cell_blk hs1 id (hs3 id hidn)
        rw [decide_eq_false hnG] at sj
        have fj := frozen_blk hs1 id
        have hOB9 : OB < w9.heap.size := (Array.getElem?_eq_some_iff.1 hs1).1
        have H9 := hide h9
        have K9 := hide ((HI.out.2.2.2.more ((K7.out.more k8).mono fun _ e => e.elim)).more (k9.mono fun _ e => .inl e))
        have HM := hide hm
        have hsz9 : w7.heap.size < w9.heap.size := (Array.getElem?_eq_some_iff.1 t9).1
        clear cs hs1 hs2 hs3 t8 t9 k8 k9 hW8 h9 hc hmem hy hnG hm
        go_wp2_with fail
        have CD := HI.out.1.del HI.out.2.1.1 HM.out
        have hcl := CD.len
        rw [hD] at hcl
        refine ⟨⟨i + 1, cur.del id, G ++ [id], ?_, ?_, by omega, by omega, CD, H9.out.stay (keep_cell w9 OB id _) (fun k _ e1 e2 => hnS.out k (by rw [e2]; exact hs34) e1), O9.out.set hidn, K9.out.more (Keep.setCell _ (.inr rfl) _)⟩, by simp [intOf] <;> omega⟩
        all_goals first | (congr 1; rw [List.length_append]; simp; done) | (congr 1; rw [List.length_append]; simp; omega) | (congr 1; omega) | (congr 1; done) | rfl
      · have hiG : id ∈ G := Decidable.byContradiction fun h => hm (hmem.2 h)
        go_wp2_with fail
        go_at_call 36
        obtain ⟨W8, hW8⟩ : ∃ W8, W8 = w7.alloc (.cells #[.int .i64 0, .int .i64 0, .int .i64 0] 89) := ⟨_, rfl⟩
        rw [← hW8]
        have k8 : Keep (fun _ => False) w7 W8 := by rw [hW8]; exact Keep.alloc _ _ _
        refine (cancelI id _ (H7.out.new k8) (by omega) hlastc).mono ?_
        rintro e w9 ⟨k9, hc⟩
        obtain ⟨_, rfl, h9⟩ := hc.resolve_left (fun h => hm h.1)
        have hnS : Hid (∀ k, SM ≤ k → ¬ Sa k) := fun k hk e => by have := HSA.out k e; omega
        have O9 := hide ((O7.out.keep k8 fun f => f).keep k9 (hnS.out _ hs34))
        obtain ⟨cs, hs1, hs2, hs3⟩ := O9.out
        have sj := cell_blk hs1 id (hs3 id hidn)
        rw [decide_eq_true hiG] at sj
        have fj := frozen_blk hs1 id
        have hOB9 : OB < w9.heap.size := (Array.getElem?_eq_some_iff.1 hs1).1
        have H9 := hide h9
        have K9 := hide ((HI.out.2.2.2.more ((K7.out.more k8).mono fun _ e => e.elim)).more (k9.mono fun _ e => .inl e))
        have HG := hide hiG
        clear cs hs1 hs2 hs3 k8 k9 hW8 h9 hc hmem hm hiG
        go_wp2_with fail
        refine ⟨⟨i + 1, cur, G, ?_, ?_, by omega, by omega, HI.out.1, H9.out.stay (keep_cell w9 OB id _) (fun k _ e1 e2 => hnS.out k (by rw [e2]; exact hs34) e1), O9.out.again hidn HG.out, K9.out.more (Keep.setCell _ (.inr rfl) _)⟩, by simp [intOf] <;> omega⟩
        all_goals first | (congr 1; omega) | (congr 1; done) | rfl
    all_goals
      go_at_call 33
      obtain ⟨hok, m, att, hw⟩ := HI.out.2.1
      refine (lenI _ hw hok).mono ?_
      rintro e wl ⟨rfl, hwl⟩
      rw [hwl]
      have hD : Hid ((z1.map (dueOf now)).length = n1) := by show _ = _; rw [List.length_map, ← hl1.out]
      have hlen := HI.out.1.len
      rw [hD.out] at hlen
      generalize cur.ids.length = rr at *
      have hE1 : (n1 : Int) - (G.length : Int) = (rr : Int) := by omega
      clear hwl wl hw hok hlen
      go_wp2_with fail
      go_at_call 37
      have SC : Calls Try.prog 37 #[.pointer (some ⟨P, 0, none⟩), .int .i64 4611686018427387904, .int .i64 (-5)] wr _ := schedI 4611686018427387904 (.int .i64 (-5)) ⟨-5, rfl⟩ wr HI.out.2.1 (by rw [HI.out.1.now_]; omega) (Nat.le_refl _) (by rw [HI.out.1.last, hD.out]; omega)
      refine SC.mono ?_
      rintro e w6 ⟨rfl, h6, k6⟩
      clear SC
      rw [HI.out.1.last, hD.out, show ((n1 + 1 : Nat) : Int) = (n1 : Int) + 1 from by omega]
      obtain ⟨Sc, hxc, hScl, hScs⟩ := h6.exact
      have hz6' : wr.heap.size ≤ w6.heap.size := k6.size
      obtain ⟨cs, hs1, hs2, hs3⟩ := HI.out.2.2.1
      have hOBl : OB < wr.heap.size := (Array.getElem?_eq_some_iff.1 hs1).1
      clear cs hs1 hs2 hs3 h6
      have hnS : Hid (∀ k, SM ≤ k → ¬ Sa k) := fun k hk e => by have := HSA.out k e; omega
      have hnC : Hid (∀ k, SM ≤ k → k < wr.heap.size → ¬ Sc k) := fun k hk hk2 e => by
        rcases hScs k e with e | e
        · exact hnS.out k hk e
        · omega
      have HXC := hide hxc
      have HSc : Hid (∀ k, Sc k → w.heap.size ≤ k) := fun k e => by
        rcases hScs k e with e | e
        · exact HSas.out k e
        · omega
      have O6 := hide (HI.out.2.2.1.keep k6 (hnS.out _ hs34))
      have HB6 := hide ((HB5.out.stay HI.out.2.2.2 (fun k _ e1 e2 => by
        have := HSB.out k e1
        rcases e2 with e2 | e2
        · exact hnS.out k this.1 e2
        · omega)).stay k6 (fun k _ e1 e2 => hnS.out k (HSB.out k e1).1 e2))
      have KW6 := hide (KW.out.more (k6.mono HSas.out))
      clear hxc hScl hScs k6
      go_wp2_with fail
      go_at_call 31
      have AD : Calls Try.prog 31 #[.pointer (some ⟨P, 0, none⟩), .int .i64 4611686018427387904] w6 (Advs Sc w6 P (cur.add 4611686018427387904 (.int .i64 (-5))) 4611686018427387904) := adv_any 4611686018427387904 w6 HXC.out (by show cur.now ≤ _; rw [HI.out.1.now_]; omega) (Nat.le_refl _) (by show cur.last + 1 < _; rw [HI.out.1.last, hD.out]; omega) (HI.out.1.typedA (-5))
      refine AD.mono ?_
      rintro e w7 ⟨xs, v, rfl, hadv, h7, hrow, k7⟩
      clear AD
      have hz7 : w6.heap.size ≤ w7.heap.size := k7.size
      obtain ⟨va, vc, rfl⟩ := ownsRow_shape hrow
      have O7 := hide (O6.out.keep k7 (hnC.out _ hs34 hOBl))
      have HB7 := hide (HB6.out.stay k7 (fun k _ e1 e2 => hnC.out k (HSB.out k e1).1 (by have := (HSB.out k e1).2; omega) e2))
      have KW7 := hide (KW6.out.more (k7.mono HSc.out))
      have HAD := hide hadv
      have RW := hide hrow
      clear hadv h7 hrow k7
      go_wp2_with fail
      go_at_call 31
      have AD : Calls Try.prog 31 #[.pointer (some ⟨Q, 0, none⟩), .int .i64 4611686018427387904] w7 (Advs Sb w7 Q sb 4611686018427387904) := adv_any 4611686018427387904 w7 HB7.out (by rw [HFB.out.now_]; omega) (Nat.le_refl _) (by rw [HFB.out.last, hD.out]; omega) HFB.out.typed
      refine AD.mono ?_
      rintro e w8 ⟨ys, v, rfl, hadv2, h8, hrow2, k8⟩
      clear AD
      have hz8 : w7.heap.size ≤ w8.heap.size := k8.size
      obtain ⟨va2, vc2, rfl⟩ := ownsRow_shape hrow2
      have hll := HI.out.1.lens HI.out.2.1.1 HFB.out HB7.out.1 HAD.out hadv2
      have HLI : Hid (xs = keptOf G ys ++ [n1 + 1]) := by have := HI.out.1.lists HFB.out HB7.out.1 HAD.out hadv2; rw [hD.out] at this; exact this
      rw [hD.out] at hll
      have hlen := HI.out.1.len
      have hxl : xs.length = rr + 1 := by omega
      have hyl : ys.length = n1 := hll.2
      have O8 := hide (O7.out.keep k8 (fun e => by have := HSB.out _ e; omega))
      have KW8 := hide (KW7.out.more (k8.mono fun k e => by have := HSB.out _ e; show w.heap.size ≤ k; omega))
      obtain ⟨g1, rfl, hg11, hg12, hgc1⟩ := row3_cells RW.out (by omega)
      have C1 : Hid (∀ j u, (cells3 (cur.add 4611686018427387904 (.int .i64 (-5))) xs)[j]? = some u → w8.cell? ⟨g1, j, none⟩ = some u) := fun j u hu => k8.cell (hgc1 j u hu) (fun e => by have := HSB.out g1 e; omega)
      have RW2 := hide hrow2
      have HAD2 := hide hadv2
      have HYL := hide hyl
      have HXL := hide hxl
      rw [hxl, hyl]
      clear hadv2 h8 hrow2 k8 hll hlen hxl hyl hgc1 RW
      go_wp2_with fail
      go_loopw [23, 24] (fun av iv wx => ∃ i : Nat, av = .int .i64 (cnt G ys i : Nat) ∧ iv = .int .i64 (i : Nat) ∧ i ≤ n1 ∧ Hid (Keep (fun _ => False) w8 wx)) (fun _ iv _ => n1 - (intOf iv).toNat)
      case atStart => exact ⟨0, rfl, rfl, Nat.zero_le _, Keep.refl _ _⟩
      case round =>
        obtain ⟨j, rfl, rfl, hj, HJ⟩ := hrel
        rcases Nat.lt_or_ge j n1 with hjl | hjl
        · have hjy : j < ys.length := by rw [HYL.out]; exact hjl
          obtain ⟨g2, rfl, hg21, hg22, hgc2⟩ := row3_cells RW2.out (by omega)
          obtain ⟨q0, q1, q2⟩ := cells3_at sb ys j hjy
          have hmy : ys.getD j 0 ∈ ys := by rw [List.getD_eq_getElem?_getD, List.getElem?_eq_getElem hjy]; exact List.getElem_mem hjy
          have hids := (HFB.out.ids _).1 ((HAD2.out.mem _).1 hmy).1
          rw [hD.out] at hids
          obtain ⟨ww, hww⟩ := HFB.out.typed (ys.getD j 0) ((HAD2.out.mem _).1 hmy).1
          rw [hww] at q2
          have y0 := HJ.out.cell (hgc2 _ _ q0) fun f => f
          have y1 := HJ.out.cell (hgc2 _ _ q1) fun f => f
          have y2 := HJ.out.cell (hgc2 _ _ q2) fun f => f
          rw [Nat.mul_comm 3 j] at y0 y1 y2
          obtain ⟨cs, hs1, hs2, hs3⟩ := O8.out.keep HJ.out fun f => f
          have sj := cell_blk hs1 (ys.getD j 0) (hs3 _ (by omega))
          by_cases hiG : ys.getD j 0 ∈ G
          · rw [decide_eq_true hiG] at sj
            have HC := hide (cnt_out hjy hiG)
            clear hs1 hs2 hs3 cs q0 q1 q2 hgc2 hww hmy hiG
            generalize ys.getD j 0 = id at *
            obtain ⟨hid1, hid2⟩ := hids
            have hg3 : ¬ id < 1 := by omega
            have hg4 : ¬ n1 < id := by omega
            go_wp2_with fail
            refine ⟨⟨j + 1, ?_, ?_, by omega, HJ.out⟩, by simp [intOf] <;> omega⟩
            · rw [HC.out]
            · congr 1
          · rw [decide_eq_false hiG] at sj
            obtain ⟨hc1, hc2⟩ := cnt_in hjy hiG
            obtain ⟨hc3, hc4⟩ := hc2 (n1 + 1)
            rw [← HLI.out] at hc3 hc4
            obtain ⟨p0, p1, p2⟩ := cells3_at (cur.add 4611686018427387904 (.int .i64 (-5))) xs (cnt G ys j) hc3
            have sm : (cur.add 4611686018427387904 (.int .i64 (-5))).due (ys.getD j 0) = sb.due (ys.getD j 0) ∧ (cur.add 4611686018427387904 (.int .i64 (-5))).what (ys.getD j 0) = sb.what (ys.getD j 0) := HI.out.1.same HFB.out hids.1 (by rw [hD.out]; exact hids.2) (.int .i64 (-5))
            rw [hc4] at p0 p1 p2
            rw [sm.1] at p1
            rw [sm.2, hww] at p2
            have x0' := HJ.out.cell (C1.out _ _ p0) fun f => f
            have x1' := HJ.out.cell (C1.out _ _ p1) fun f => f
            have x2' := HJ.out.cell (C1.out _ _ p2) fun f => f
            rw [Nat.mul_comm 3 _] at x0' x1' x2'
            rw [HXL.out] at hc3
            have HC := hide hc1
            clear hs1 hs2 hs3 cs q0 q1 q2 hgc2 hww hmy hiG hc1 hc2 hc4 p0 p1 p2 sm
            generalize sb.due (ys.getD j 0) = dd at *
            generalize ys.getD j 0 = id at *
            generalize cnt G ys j = ct at *
            obtain ⟨hid1, hid2⟩ := hids
            have hg3 : ¬ id < 1 := by omega
            have hg4 : ¬ n1 < id := by omega
            have hg5 : ¬ ((rr : Int) + 1 ≤ (ct : Int)) := by omega
            go_wp2_with fail
            go_quiet (fail)
            go_wp2_with fail
            refine ⟨⟨j + 1, ?_, ?_, by omega, HJ.out.more ⟨rfl, rfl, rfl, Nat.le_refl _, fun _ _ _ => rfl⟩⟩, by simp [intOf] <;> omega⟩
            · rw [HC.out]; congr 1
            · congr 1
        · have hcmp : ¬ j < n1 := by omega
          have hjy : ys.length = j := by rw [HYL.out]; omega
          obtain ⟨hc3, hc4⟩ := cnt_end G ys (n1 + 1)
          rw [hjy, ← HLI.out] at hc3 hc4
          obtain ⟨p0, p1, p2⟩ := cells3_at (cur.add 4611686018427387904 (.int .i64 (-5))) xs (cnt G ys j) hc3
          have nw : (cur.add 4611686018427387904 (.int .i64 (-5))).what (n1 + 1) = .int .i64 (-5) := by have := HI.out.1.newest (.int .i64 (-5)); rw [hD.out] at this; exact this
          rw [hc4] at p0 p2
          rw [nw] at p2
          rw [show ((n1 + 1 : Nat) : Int) = (n1 : Int) + 1 from by omega] at p0
          have x0' := HJ.out.cell (C1.out _ _ p0) fun f => f
          have x2' := HJ.out.cell (C1.out _ _ p2) fun f => f
          rw [Nat.mul_comm 3 _] at x0' x2'
          rw [HXL.out] at hc3
          have KE := hide (KW8.out.more (HJ.out.mono fun _ e => e.elim))
          clear hc4 p0 p1 p2 nw hjy
          generalize cnt G ys j = ct at *
          go_wp2_with fail
          go_ret
          refine ⟨?_, KE.out.below (Nat.le_refl _) fun i e => e⟩
          first | rfl | (show Ending.returned (.bool _) = _; congr 2)

end Wh
end Go.Proofs.Ytmbhlhgggmcnoaa
