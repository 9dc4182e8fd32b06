/- WheelFinds: the walk. -/
import Derived.Test.YtimokmocpkcnhaaWFdM
import Derived.Test.YtimokmocpkcnhaaWFnd
import Derived.Deep.QuietTactic
import Derived.Laws.MakeOwn
namespace Go.Proofs.Ytimokmocpkcnhaa
namespace Wh
open Go.RowKit

theorem info_boolF : (Try.prog.info? 4).map (fun i => (i.zero, i.size, i.bytes)) = some (some (.bool false), 1, 1) := by kernel_rfl
theorem made_boolsF (u : World) (n : Nat) (hn : n ≤ 1048576) : (Instr.makeSlice 98 (.int .i64 ((n : Nat) + 2)) (.int .i64 ((n : Nat) + 2))).run Try.prog u = .ok (.slice (some ⟨u.heap.size, 0, none⟩) (n + 2) (n + 2)) (u.alloc (.cells (madeCells #[.bool false] (n + 2)) 4)) := by
  obtain ⟨i0, hi, hz0, hz1, hz2⟩ := info_parts info_boolF
  have h := run_make (P := Try.prog) (w := u) 98 4 i0 (.bool false) Try.underlying98 hi hz0 .i64 .i64 ((n : Int) + 2) ((n : Int) + 2) (by omega) (Int.le_refl _) (by rw [hz2]; omega) (by omega)
  have e : ((n : Int) + 2).toNat = n + 2 := by omega
  rw [e] at h
  simpa [hz1, Value.cells] using h
theorem outF_new (w : World) (n : Nat) : OutAt 4 (w.alloc (.cells (madeCells #[.bool false] n) 4)) w.heap.size n [] :=
  ⟨_, heap_alloc_new _ _, by simp [madeCells], fun j hj => by simp [madeCells, hj, Nat.mod_one]⟩

set_option maxRecDepth 100000 in
set_option maxHeartbeats 16000000 in
theorem fnd_walk (x0 : Int) (a1 : Option Addr) (n1 c1 : Nat) (x2 : Int) (z1 : List Int) (w : World) (b1 : -9223372036854775808 ≤ x0) (b2 : x0 ≤ 9223372036854775807) (hz1 : Rz w a1 n1 z1) (b3 : -9223372036854775808 ≤ x2) (b4 : x2 ≤ 9223372036854775807) :
    Calls Try.prog 7 #[.int .i64 x0, .slice a1 n1 c1, .int .i64 x2] w fun e w' => e = .returned (.bool true) ∧ Below w.heap.size w w' := by
  obtain ⟨now, hnow, hnow2⟩ : ∃ n : Nat, pickV x0 4611686018427387904 = (n : Int) ∧ n < 4611686018427387904 := ⟨(pickV x0 4611686018427387904).toNat, by have := pickV_in x0 4611686018427387904 (by omega); omega, by have := pickV_in x0 4611686018427387904 (by omega); omega⟩
  have P1 : Hid (∀ w, Calls Try.prog 13 #[.int .i64 x0, .int .i64 4611686018427387904] w fun e w' => e = .returned (.int .i64 (now : Nat)) ∧ w' = w) := fun w => by rw [← hnow]; exact pick_any x0 4611686018427387904 b1 b2 (by omega) (by omega) w
  have hnM : now ≤ M := by unfold M; omega
  have hn1 := hz1.2.1
  have hl1 := hide hz1.1
  have HZ1 := hide hz1
  have hto := dueOf_in hnM x2
  obtain ⟨pq, hpq⟩ : ∃ pq : Nat, dueOf now x2 = now + pq := ⟨dueOf now x2 - now, by omega⟩
  have hto2 : now + pq ≤ 4611686018427387904 := by have := hto.2; rw [hpq] at this; exact this
  have PK : Hid (∀ w, Calls Try.prog 13 #[.int .i64 x2, .int .i64 (4611686018427387904 - (now : Int) + 1)] w fun e w' => e = .returned (.int .i64 (pq : Nat)) ∧ w' = w) := fun w => by
    have e := pick_due hnM x2
    rw [hpq, Nat.add_sub_cancel_left] at e
    rw [← e]
    exact pick_any x2 _ b3 b4 (by omega) (by omega) w
  clear hnow b1 b2 b3 b4 hz1 hto hpq
  go_enter Try.func7, Try.ntmps7
  go_wp2_with fail
  go_at_call 8
  refine (awake_any _).mono ?_
  rintro e w1 ⟨rfl, k1⟩
  have K1 := hide k1
  clear k1
  go_wp2_with fail
  go_at_call 13
  refine (P1.out _).mono ?_
  rintro e w2 ⟨rfl, hw2⟩
  rw [hw2]
  clear hw2 w2 P1
  go_wp2_with fail
  go_at_call 29
  refine (fill_any now hnM a1 n1 c1 z1 w1 (HZ1.out.at K1.out fun _ e => e.elim)).mono ?_
  rintro e w3 ⟨P, s0, rfl, hf, h3, k3⟩
  obtain ⟨S1, hx, hSl, hSs⟩ := h3.exact
  have HF := hide hf
  have HX := hide hx
  have HSl := hide hSl
  have HSs : Hid (∀ k, S1 k → w.heap.size ≤ k) := fun k e => Nat.le_trans K1.out.size (hSs k e)
  have K3 := hide (K1.out.more k3)
  have hD : Hid ((z1.map (dueOf now)).length = n1) := by show _ = _; rw [List.length_map, ← hl1.out]
  clear hf h3 k3 hx hSl hSs
  go_wp2_with fail
  go_at_call 13
  refine (PK.out _).mono ?_
  rintro e w2 ⟨rfl, hw2⟩
  rw [hw2]
  clear hw2 w2 PK
  go_wp2_with fail
  go_at_call 30
  have AD := adv_any (now + pq) w3 HX.out (by rw [HF.out.now_]; omega) hto2 (by rw [HF.out.last, hD.out]; omega) HF.out.typed
  rw [Int.natCast_add] at AD
  refine AD.mono ?_
  clear AD
  rintro e w4 ⟨xs, v, rfl, hadv, h4, hrow, k4⟩
  obtain ⟨va, vc, rfl⟩ := ownsRow_shape hrow
  obtain ⟨s1, hs1⟩ : ∃ s1, s1 = s0.adv (now + pq) := ⟨_, rfl⟩
  have HS1 := hide hs1
  rw [← hs1] at h4
  have hxl : xs.length + s1.ids.length = n1 := by rw [hs1, hadv.len HX.out.1, HF.out.len, hD.out]
  have TY : Hid (∀ id ∈ s1.ids, ∃ y1, s1.what id = .int .i64 y1) := fun id hid => by
    rw [hs1] at hid ⊢
    exact HF.out.typed id (List.mem_filter.1 hid).1
  have IN : Hid (∀ id ∈ s1.ids, (1 ≤ id ∧ id ≤ n1) ∧ now + pq < s1.due id ∧ s1.due id ≤ 4611686018427387904) := fun id hid => by
    have h5 := (h4.1.inn id hid).2.2.2
    rw [hs1] at hid h5 ⊢
    have h6 := List.mem_filter.1 hid
    have h7 := (HF.out.ids id).1 h6.1
    rw [hD.out] at h7
    exact ⟨h7, (by simpa using h6.2 : now + pq < s0.due id), h5⟩
  have hlast : s1.last = n1 := by rw [hs1]; show s0.last = _; rw [HF.out.last, hD.out]
  have hnow1 : s1.now = now + pq := by rw [hs1]; rfl
  have HLA := hide hlast
  have HNO := hide hnow1
  have H4 := hide h4
  have K4 := hide ((K3.out.mono (T := fun k => w.heap.size ≤ k) fun _ e => e.elim).more (k4.mono HSs.out))
  have hz34 : w3.heap.size ≤ w4.heap.size := k4.size
  clear hs1 hadv h4 hrow k4 hlast hnow1
  go_wp2_with fail
  go_at_call 15
  refine (all_any w4 H4.out (by rw [HLA.out]; omega) TY.out).mono ?_
  rintro e w5 ⟨B, ys, v, rfl, hadv, hb, hrow, hB, k5⟩
  obtain ⟨hm, hyl⟩ := hadv.all H4.out.1
  have HM := hide hm
  have hyl2 : xs.length + ys.length = n1 := by rw [hyl]; exact hxl
  have H5 := hide (H4.out.new k5)
  have K5 := hide (K4.out.more (k5.mono fun _ e => e.elim))
  have hz45 : w4.heap.size ≤ w5.heap.size := k5.size
  have LS := hide (listed_any w5 hb hrow (fun x hx => TY.out x ((hm x).1 hx)) (by omega))
  have HYL := hide hyl
  clear hadv hb hrow hB k5 hm hyl hxl
  go_wp2_with fail
  go_at_call 14
  refine LS.out.mono ?_
  clear LS
  rintro e w6 ⟨a3, c3, rfl, hrow, k6⟩
  have RW := hide hrow
  have H6 := hide (H5.out.new k6)
  have K6 := hide (K5.out.more (k6.mono fun _ e => e.elim))
  have hz56 : w5.heap.size ≤ w6.heap.size := k6.size
  have hE : (xs.length : Int) + (ys.length : Int) = (n1 : Int) := by omega
  clear hrow k6
  go_wp2_with fail
  go_at_call 36
  obtain ⟨hok, m, att, hw⟩ := H6.out
  refine (lenI _ hw hok).mono ?_
  rintro e wl ⟨rfl, hwl⟩
  rw [hwl, ← HYL.out]
  clear hwl wl hw hok hE m att
  have hmk := fun u => made_boolsF u n1 hn1
  go_wp2_with fail
  obtain ⟨W7, hW7⟩ : ∃ W7, W7 = w6.alloc (.cells (madeCells #[.bool false] (n1 + 2)) 4) := ⟨_, rfl⟩
  rw [← hW7]
  have k7 : Keep (fun _ => False) w6 W7 := by rw [hW7]; exact Keep.alloc _ _ _
  have OU : Hid (OutAt 4 W7 w6.heap.size (n1 + 2) []) := by rw [hW7]; exact outF_new w6 (n1 + 2)
  have H7 := hide (H6.out.new k7)
  have K7 := hide (K6.out.more (k7.mono fun _ e => e.elim))
  have hlo : w.heap.size ≤ w6.heap.size := K6.out.size
  have hSz : Hid (∀ k, S1 k → k < w6.heap.size) := fun k e => by have := HSl.out k e; omega
  have RC : Hid (ys.length ≠ 0 → ∃ g, a3 = some ⟨g, 0, none⟩ ∧ g < w6.heap.size ∧ ∀ j u, (cells3 s1 ys)[j]? = some u → W7.cell? ⟨g, j, none⟩ = some u) := fun h0 => by
    obtain ⟨g, e1, e2, e3, e4⟩ := row3_cells RW.out h0
    exact ⟨g, e1, e3, fun j u hu => k7.cell (e4 j u hu) fun f => f⟩
  clear hW7 k7 hmk HX HSl H4 H5 H6 K1 K3 K4 K5 K6 RW hz34 hz45 hz56
  generalize w6.heap.size = OB at *
  go_loopw [15] (fun iv wr => ∃ i : Nat, iv = .int .i64 (i : Nat) ∧ i ≤ ys.length ∧ Hid (WAt 120 122 S1 wr P s1 ∧ OutAt 4 wr OB (n1 + 2) (ys.take i) ∧ Keep (fun k => k = OB) W7 wr)) (fun iv _ => ys.length - (intOf iv).toNat)
  case atStart => exact ⟨0, rfl, Nat.zero_le _, H7.out, OU.out, Keep.refl _ _⟩
  case round =>
    obtain ⟨i, rfl, hi, HI⟩ := hrel
    rcases Nat.lt_or_ge i ys.length with hlt | hge
    · obtain ⟨g, rfl, hg1, hgc⟩ := RC.out (by omega)
      obtain ⟨q0, q1, q2⟩ := cells3_at s1 ys i hlt
      have hmy : ys.getD i 0 ∈ s1.ids := (HM.out _).1 (by rw [List.getD_eq_getElem?_getD, List.getElem?_eq_getElem hlt]; exact List.getElem_mem hlt)
      obtain ⟨⟨hid1, hid2⟩, hdu1, hdu2⟩ := IN.out _ hmy
      obtain ⟨yy, hyy⟩ := TY.out _ hmy
      rw [hyy] at q2
      have hgO : ¬ (g = OB) := by omega
      have C0 := hide (HI.out.2.2.cell (hgc _ _ q0) hgO)
      have C1 := hide (HI.out.2.2.cell (hgc _ _ q1) hgO)
      have C2 := hide (HI.out.2.2.cell (hgc _ _ q2) hgO)
      have HTK := hide (take_step hlt)
      have FD := hide (find_any (ys.getD i 0) wr HI.out.1 (by omega) TY.out)
      have HMY := hide hmy
      have HYY := hide hyy
      have y0 := C0.out
      rw [Nat.mul_comm 3 i] at y0
      clear q0 q1 q2 hgc hmy hyy
      generalize ys.getD i 0 = id at *
      go_wp2_with fail
      go_at_call 37
      refine FD.out.mono ?_
      clear FD y0
      rintro e w8 ⟨k8, hf⟩
      obtain ⟨_, rfl⟩ := hf.resolve_right (fun h => h.1 HMY.out)
      rw [HYY.out]
      have y0 := k8.cell C0.out fun f => f
      have y1 := k8.cell C1.out fun f => f
      have y2 := k8.cell C2.out fun f => f
      rw [Nat.mul_comm 3 i] at y0 y1 y2
      have H8 := hide (HI.out.1.new k8)
      have O8 := hide (HI.out.2.1.keep k8 fun f => f)
      have K8 := hide (HI.out.2.2.more (k8.mono fun _ e => e.elim))
      obtain ⟨cs, hs1, hs2, hs3⟩ := O8.out
      have sj := cell_blk hs1 id (hs3 id (by omega))
      have fj := frozen_blk hs1 id
      have hOBl : OB < w8.heap.size := (Array.getElem?_eq_some_iff.1 hs1).1
      have hgl : g < w8.heap.size := by omega
      generalize s1.due id = dd at *
      have hidn : id < n1 + 2 := by omega
      clear cs hs1 hs2 hs3 k8 hf
      go_wp2_with fail
      obtain ⟨Wt, hWt⟩ : ∃ Wt, Wt = w8.alloc (.cells #[.int .i64 (id : Nat), .int .i64 (dd : Nat), .int .i64 yy] 90) := ⟨_, rfl⟩
      rw [← hWt]
      have kt : Keep (fun _ => False) w8 Wt := by rw [hWt]; exact Keep.alloc _ _ _
      have bt : Wt.heap[w8.heap.size]? = some (.cells #[.int .i64 (id : Nat), .int .i64 (dd : Nat), .int .i64 yy] 90 (0, 0)) := by rw [hWt]; exact heap_alloc_new _ _
      have t0 := cell_blk bt 0 rfl
      have t1 := cell_blk bt 1 rfl
      have t2 := cell_blk bt 2 rfl
      have u0 := kt.cell y0 fun f => f
      have u1 := kt.cell y1 fun f => f
      have u2 := kt.cell y2 fun f => f
      have HT := hide (H8.out.new kt)
      have OT := hide (O8.out.keep kt fun f => f)
      have KT := hide (K8.out.more (kt.mono fun _ e => e.elim))
      have g1 : ¬ (id < 1) := by omega
      have g1' : ¬ ((id : Int) < 1) := by omega
      have g2 : ¬ (n1 < id) := by omega
      have g2' : ¬ ((n1 : Int) < (id : Int)) := by omega
      have g3 : ¬ ((dd : Int) ≤ (now : Int) + (pq : Int)) := by omega
      clear hWt y0 y1 y2 sj fj bt kt
      go_quiet (fail)
      have kd : Keep (fun _ => False) Wt (Wt.drewN nq) := ⟨rfl, rfl, rfl, Nat.le_refl _, fun _ _ _ => rfl⟩
      obtain ⟨cs, hs1, hs2, hs3⟩ := OT.out.keep kd fun f => f
      have sj := cell_blk hs1 id (hs3 id (by omega))
      have fj := frozen_blk hs1 id
      have OD := hide (OT.out.keep kd fun f => f)
      have HDD := hide (HT.out.new kd)
      have KD := hide (KT.out.more (kd.mono fun _ e => e.elim))
      clear cs hs1 hs2 hs3 kd
      go_wp2_with fail
      refine ⟨⟨i + 1, ?_, by omega, HDD.out.stay (keep_cell _ OB id _) (fun q _ e1 e2 => by have := hSz.out q e1; omega), by rw [HTK.out]; exact OD.out.set hidn, KD.out.more (keep_cell _ OB id _)⟩, by simp [intOf] <;> omega⟩
      all_goals first | (congr 1; omega) | (congr 1; done) | rfl
    · obtain rfl : i = ys.length := by omega
      have O9 : Hid (OutAt 4 wr OB (n1 + 2) ys) := by have := HI.out.2.1; rw [List.take_length] at this; exact this
      have H9 := hide HI.out.1
      have K9 := hide (K7.out.more (HI.out.2.2.mono fun k e => by show w.heap.size ≤ k; omega))
      have hcmp : ¬ ys.length < ys.length := Nat.lt_irrefl _
      have hlastc : Hid (s1.last < 2 ^ 62) := by show _ < _; rw [HLA.out]; omega
      clear HI
      go_wp2_with fail
      go_loopw [18] (fun kv wx => ∃ (k : Nat) (cur : St), kv = .int .i64 (k : Nat) ∧ k ≤ n1 + 2 ∧ Hid (FndI s1 cur k ∧ WAt 120 122 S1 wx P cur ∧ OutAt 4 wx OB (n1 + 2) ys ∧ Keep (fun q => w.heap.size ≤ q) w wx)) (fun kv _ => n1 + 2 - (intOf kv).toNat)
      case atStart => exact ⟨0, s1, rfl, Nat.zero_le _, FndI.start s1, H9.out, O9.out, K9.out⟩
      case round =>
        obtain ⟨k, cur, rfl, hk, HJ⟩ := hrel
        have hOS : ¬ S1 OB := fun e => by have := hSz.out _ e; omega
        rcases Nat.lt_or_ge k (n1 + 2) with hlt | hge
        · have FD := hide (find_any k wr HJ.out.2.1 (by omega) (HJ.out.1.typed TY.out))
          go_wp2_with fail
          go_at_call 37
          refine FD.out.mono ?_
          clear FD
          rintro e w8 ⟨k8, hf⟩
          have H8 := hide (HJ.out.2.1.new k8)
          have O8 := hide (HJ.out.2.2.1.keep k8 fun f => f)
          have K8 := hide (HJ.out.2.2.2.more (k8.mono fun _ e => e.elim))
          obtain ⟨cs, hs1, hs2, hs3⟩ := O8.out
          have sj := cell_blk hs1 k (hs3 k hlt)
          have hOBl : OB < w8.heap.size := (Array.getElem?_eq_some_iff.1 hs1).1
          have hmem : k ∈ ys ↔ k ∈ cur.ids := by rw [HM.out, HJ.out.1.ids]; exact ⟨fun a => ⟨a, Nat.le_refl _⟩, fun a => a.1⟩
          clear cs hs1 hs2 hs3 k8
          rcases hf with ⟨hm, rfl⟩ | ⟨hm, rfl⟩
          · obtain ⟨yy, hyy⟩ := HJ.out.1.typed TY.out k hm
            rw [hyy]
            rw [decide_eq_true (hmem.2 hm)] at sj
            have HMm := hide hm
            generalize cur.due k = dd
            clear hm hmem hyy
            go_wp2_with fail
            go_at_call 34
            obtain ⟨Wt, hWt⟩ : ∃ Wt, Wt = w8.alloc (.cells #[.int .i64 (k : Nat), .int .i64 (dd : Nat), .int .i64 yy] 90) := ⟨_, rfl⟩
            rw [← hWt]
            have kt : Keep (fun _ => False) w8 Wt := by rw [hWt]; exact Keep.alloc _ _ _
            refine (cancelI k _ (H8.out.new kt) (by omega) (by rw [HJ.out.1.last]; exact hlastc.out)).mono ?_
            rintro e w9 ⟨k9, hc⟩
            obtain ⟨_, rfl, h9⟩ := hc.resolve_right (fun h => h.1 HMm.out)
            have H9' := hide h9
            have O9' := hide ((O8.out.keep kt fun f => f).keep k9 hOS)
            have K9' := hide ((K8.out.more (kt.mono fun _ e => e.elim)).more (k9.mono HSs.out))
            clear hWt kt hc h9 k9 sj
            go_wp2_with fail
            go_at_call 34
            refine (cancelI k _ H9'.out (by omega) (by show cur.last < _; rw [HJ.out.1.last]; exact hlastc.out)).mono ?_
            rintro e w10 ⟨k10, hc⟩
            obtain ⟨_, rfl, h10⟩ := hc.resolve_left (fun h => by have h1 : k ∈ cur.ids.filter (· != k) := h.1; simp at h1)
            have H10 := hide h10
            have O10 := hide (O9'.out.keep k10 hOS)
            have K10 := hide (K9'.out.more (k10.mono HSs.out))
            clear hc h10 k10
            go_wp2_with fail
            refine ⟨⟨k + 1, cur.del k, ?_, by omega, HJ.out.1.del, H10.out, O10.out, K10.out⟩, by simp [intOf] <;> omega⟩
            all_goals first | (congr 1; omega) | (congr 1; done) | rfl
          · rw [decide_eq_false (fun h => hm (hmem.1 h))] at sj
            have HMm := hide hm
            clear hm hmem
            go_wp2_with fail
            have kt : Keep (fun _ => False) w8 (w8.alloc (.cells #[.int .i64 0, .int .i64 0, .int .i64 0] 90)) := Keep.alloc _ _ _
            refine ⟨⟨k + 1, cur, ?_, by omega, HJ.out.1.skip HMm.out, H8.out.new kt, O8.out.keep kt fun f => f, K8.out.more (kt.mono fun _ e => e.elim)⟩, by simp [intOf] <;> omega⟩
            all_goals first | (congr 1; omega) | (congr 1; done) | rfl
        · obtain rfl : k = n1 + 2 := by omega
          have hlen0 := HJ.out.1.none fun id hid => by have := (IN.out id hid).1.2; omega
          have hcmp2 : ¬ n1 + 2 < n1 + 2 := Nat.lt_irrefl _
          go_wp2_with fail
          go_at_call 36
          obtain ⟨hok, m, att, hw⟩ := HJ.out.2.1
          refine (lenI _ hw hok).mono ?_
          rintro e wl ⟨rfl, hwl⟩
          rw [hwl, hlen0]
          clear hwl wl hw hok m att
          go_wp2_with fail
          go_at_call 32
          obtain ⟨hok, m, att, hw⟩ := HJ.out.2.1
          refine (nowI _ hw).mono ?_
          rintro e wl ⟨rfl, hwl⟩
          rw [hwl, HJ.out.1.now_, HNO.out]
          clear hwl wl hw hok m att
          go_wp2_with fail
          go_ret
          refine ⟨?_, HJ.out.2.2.2.below (Nat.le_refl _) fun i e => e⟩
          show Ending.returned (.bool _) = _
          congr 2
          try simp

end Wh
end Go.Proofs.Ytimokmocpkcnhaa
