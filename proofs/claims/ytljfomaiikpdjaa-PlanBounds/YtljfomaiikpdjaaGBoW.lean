/- PlanBounds: the walk. -/
import Derived.Test.YtljfomaiikpdjaaGBoM
import Derived.Deep.CutRange
namespace Go.Proofs.Ytljfomaiikpdjaa
namespace Gr
open Go.RowKit

set_option maxRecDepth 100000 in
set_option maxHeartbeats 40000000 in
theorem bounds_walk (nm : ByteArray) (dl nd fd v : Int) (s : Option Addr × Nat × Nat) (xs : List No) (w : World) (hP : RdP w.heap.size w s xs) (hs : Sz nm xs) (hnd : -9223372036854775808 ≤ nd ∧ nd ≤ 9223372036854775807) (hfd : -9223372036854775808 ≤ fd ∧ fd ≤ 9223372036854775807) (hv : -9223372036854775808 ≤ v ∧ v ≤ 9223372036854775807) :
    Calls Try.prog 4 #[.agg #[.string nm, .int .i64 dl, .slice s.1 s.2.1 s.2.2, .int .i64 nd, .int .i64 fd, .int .i64 v]] w fun e w' => e = .returned (.bool true) ∧ Below w.heap.size w w' := by
  obtain ⟨a, n, c⟩ := s
  have HN : Hid (n = xs.length) := hP.1
  have k1 := Keep.alloc (fun _ => False) w (.cells #[.string nm, .int .i64 dl, .slice a n c, .int .i64 nd, .int .i64 fd, .int .i64 v] 38)
  have b1 := heap_alloc_new w (.cells #[.string nm, .int .i64 dl, .slice a n c, .int .i64 nd, .int .i64 fd, .int .i64 v] 38)
  have HM : Hid (∀ W, Keep (fun _ => False) (w.alloc (.cells #[.string nm, .int .i64 dl, .slice a n c, .int .i64 nd, .int .i64 fd, .int .i64 v] 38)) W → (W.cell? ⟨w.heap.size, 0, none⟩ = some (.string nm) ∧ W.cell? ⟨w.heap.size, 1, none⟩ = some (.int .i64 dl) ∧ W.cell? ⟨w.heap.size, 2, none⟩ = some (.slice a n c) ∧ W.cell? ⟨w.heap.size, 3, none⟩ = some (.int .i64 nd) ∧ W.cell? ⟨w.heap.size, 4, none⟩ = some (.int .i64 fd) ∧ W.cell? ⟨w.heap.size, 5, none⟩ = some (.int .i64 v)) ∧ RdP w.heap.size W (a, n, c) xs ∧ Below w.heap.size w W ∧ w.heap.size < W.heap.size) := fun W k2 => by
    have kk := k1.more k2
    have bb := k2.blk b1 (fun f => f)
    exact ⟨⟨cell_blk bb 0 rfl, cell_blk bb 1 rfl, cell_blk bb 2 rfl, cell_blk bb 3 rfl, cell_blk bb 4 rfl, cell_blk bb 5 rfl⟩, hP.new kk, kk.below (Nat.le_refl _) fun _ f => f.elim, (Array.getElem?_eq_some_iff.1 bb).1⟩
  have HS := hide hs
  have HND := hide hnd
  have HFD := hide hfd
  have HV := hide hv
  clear hP hs hnd hfd hv k1 b1
  go_enter Try.func4, Try.ntmps4
  go_upto_region 1 with fail
  obtain ⟨H, hH⟩ : ∃ H, H = w.heap.size := ⟨_, rfl⟩
  generalize w.alloc (.cells #[.string nm, .int .i64 dl, .slice a n c, .int .i64 nd, .int .i64 fd, .int .i64 v] 38) = w1 at *
  simp only [← hH] at HM ⊢
  have HHE := hide hH
  clear hH
  go_wp2_with fail
  go_at_call 5
  refine (awake_any w1).mono ?_
  rintro e w2 ⟨rfl, k2⟩
  have K2 := hide k2
  obtain ⟨⟨c0, c1, c2, c3, c4, c5⟩, hp, _, _⟩ := HM.out w2 k2
  have SM := hide (small_any nm dl (a, n, c) xs _ w2 hp)
  clear hp k2
  go_wp2_with fail
  go_at_call 6
  refine SM.out.mono ?_
  rintro e w3 ⟨⟨b, rfl, hb⟩, k3⟩
  have K3 := hide (K2.out.more k3)
  clear c0 c1 c2 c3 c4 c5 k3 SM K2
  obtain ⟨⟨c0, c1, c2, c3, c4, c5⟩, hp, hbl, hlt3⟩ := HM.out w3 K3.out
  have KW := hide hbl
  cases b
  case false =>
    go_wp2_with fail
    go_ret
    exact ⟨rfl, by rw [← HHE.out]; exact KW.out⟩
  have hes := hb rfl
  have HES := hide hes
  have CK := hide (check_any nm dl (a, n, c) xs _ w3 hp (by omega) HS.out)
  clear hb hp hbl hes hlt3
  obtain ⟨ck, hck⟩ : ∃ ck, ck = chk nm dl xs := ⟨_, rfl⟩
  rw [← hck] at CK
  have HCK := hide hck
  clear hck
  obtain ⟨ck1, ck2⟩ := ck
  simp only at CK
  go_wp2_with fail
  go_at_call 7
  refine CK.out.mono ?_
  rintro e w4 ⟨rfl, k4⟩
  have K4 := hide (K3.out.more k4)
  clear c0 c1 c2 c3 c4 c5 k4 CK K3 KW
  obtain ⟨⟨c0, c1, c2, c3, c4, c5⟩, hp, hbl, hlt4⟩ := HM.out w4 K4.out
  have KW := hide hbl
  by_cases hc2 : ck2 = 0
  case neg =>
    have hne : ((ck2 : Int) != 0) = true := by simp; omega
    clear hp hbl hlt4 hc2
    go_wp2_with fail
    go_ret
    exact ⟨by rfl, by rw [← HHE.out]; exact KW.out⟩
  case pos =>
    subst hc2
    have HC0 : Hid ((chk nm dl xs).2 = 0) := by show _ = _; rw [← HCK.out]
    have hok := chk_ok HC0.out
    have hn1 : 1 ≤ n := by rw [HN.out]; exact hok.2.2.1
    have hn64 : n ≤ 64 := by rw [HN.out]; exact hok.2.2.2.1.1
    have hn0 : ((n : Int) == 0) = false := by simp; omega
    have LE := hide (lend_any nm dl (a, n, c) xs H w4 hp (by omega) HES.out)
    clear hp hbl hlt4 hok
    go_wp2_with fail
    go_at_call 11
    refine LE.out.mono ?_
    rintro e w5 ⟨G, ys, ms, v1, v2, rfl, hG, hyl, hrows, hlts, k5, ⟨x1, y1, q1, rfl⟩, ⟨x2, y2, q2, rfl⟩⟩
    have kz := Keep.alloc (fun _ => False) w5 (.cells #[.string nm, .int .i64 dl, .slice (some ⟨G, 0, none⟩) n (n + 3)] 24)
    have HBD := hide (heap_alloc_new w5 (.cells #[.string nm, .int .i64 dl, .slice (some ⟨G, 0, none⟩) n (n + 3)] 24))
    have K6 := hide ((K4.out.more k5).more kz)
    have RW := hide (hrows.new kz (fun f => f))
    have LT := hide (hlts.new kz)
    have HYL : Hid (ys.length = xs.length) := by show _ = _; rw [← HN.out]; exact hyl
    have HGD : Hid (H + 1 ≤ G ∧ G < w5.heap.size) := ⟨by have := (HM.out w4 K4.out).2.2.2; omega, hrows.lt⟩
    clear c0 c1 c2 c3 c4 c5 k5 kz hrows hlts hyl hG LE KW K4
    have hfd : ∀ W : World, (Instr.field 41 (.agg #[.string nm, .int .i64 dl, .slice (some ⟨G, 0, none⟩) n (n + 3), .slice (some ⟨G, 0, none⟩) (n + 3) (n + 3), .slice x1 y1 q1, .slice x2 y2 q2]) 0).run Try.prog W = .ok (.agg #[.string nm, .int .i64 dl, .slice (some ⟨G, 0, none⟩) n (n + 3)]) W := fun _ => by kernel_rfl
    simp only
    go_upto_region 9 with fail
    clear hfd
    generalize w5.alloc (.cells #[.string nm, .int .i64 dl, .slice (some ⟨G, 0, none⟩) n (n + 3)] 24) = w6 at *
    generalize w5.heap.size = D at *
    obtain ⟨⟨c0, c1, c2, c3, c4, c5⟩, _, _, _⟩ := HM.out w6 K6.out
    have d2 := cell_blk HBD.out 2 (v := .slice (some ⟨G, 0, none⟩) n (n + 3)) rfl
    have PK := hide (pick_anyB nd n HND.out.1 HND.out.2 hn1 hn64 w6)
    go_wp2_with fail
    go_at_call 8
    refine PK.out.mono ?_
    rintro e w7 ⟨⟨at', rfl, hat⟩, hw⟩
    subst hw
    clear PK
    obtain ⟨wb, hwb⟩ : ∃ wb : Bool, wb = (decide (0 ≤ v) && decide (v ≤ 1099511627776)) := ⟨_, rfl⟩
    have HWB := hide hwb
    clear hwb
    go_upto_region 11 with fail
    go_cut [10] from 14 (fun u wx => u = .bool wb ∧ wx = w7)
    case first => as_aux_lemma =>
      by_cases h0 : 0 ≤ v
      · go_wp2_with fail
        go_meet
        case rel => exact ⟨by rw [HWB.out, decide_eq_true h0]; rfl, rfl⟩
      · go_wp2_with fail
        go_meet
        case rel => exact ⟨by rw [HWB.out, decide_eq_false (show ¬ 0 ≤ v by omega)]; rfl, rfl⟩
    case rest => as_aux_lemma =>
      obtain ⟨rfl, hw⟩ := hcut
      subst hw
      have PK := hide (fun W : World => pick_anyB fd 8 HFD.out.1 HFD.out.2 (by decide) (by decide) W)
      go_wp2_with fail
      go_at_call 8
      refine (PK.out _).mono ?_
      rintro e w8 ⟨⟨f, rfl, hf⟩, hw⟩
      subst hw
      clear PK
      have hya : ys[at']? = some (ys[at']'(by rw [HYL.out, ← HN.out]; exact hat)) := List.getElem?_eq_getElem _
      generalize ys[at']'_ = y at hya
      have HYA := hide hya
      have hrow : (ys.map (·.q) ++ ms)[at']? = some y.q := by
        rw [List.getElem?_append_left (by rw [List.length_map]; exact (List.getElem?_eq_some_iff.1 hya).1), List.getElem?_map, hya]
        rfl
      have HRW := hide hrow
      have HFK := hide (lts_fok LT.out HYL.out HC0.out hya)
      obtain ⟨z0, z1, z2, z3, z4, z5, z6, z7, z8, z9⟩ := (RW.out.node at' y.q hrow).all
      have fz := RW.out.froz
      have hzz : ∀ x ∈ xs, x.nl.length ≤ 20000 ∧ x.al.length ≤ 20000 := fun x hx => by have := edges_ge hx; have := HES.out; omega
      have BC := hide (fun (q' : Nd) (hq : q'.nm = y.q.nm ∧ q'.ne = y.q.ne ∧ q'.af = y.q.af) (W : World) (rs : List Nd) (k : Keep (fun j => j = G) w8 W) (hr : RowsAt W G rs) (he : rs = (ys.map (·.q) ++ ms).set at' q') => bounds_core LT.out RW.out HYL.out HC0.out HS.out hzz hya hq k hr he)
      have BD := hide (fun (W : World) (hr : RowsAt W G (ys.map (·.q) ++ ms)) (hl : Lts W xs ys) => (⟨(by have e := HYL.out; rw [← e]; exact lent_rd hr (lts_rd hl HYL.out hzz) (by rw [e, ← HN.out]; exact hn64)), ⟨HS.out.1, fun z hz => (by
        obtain ⟨j, hj⟩ := List.getElem?_of_mem hz
        have hjx : j < xs.length := by rw [← HYL.out]; exact (List.getElem?_eq_some_iff.1 hj).1
        have hx : xs[j]? = some (xs[j]'hjx) := List.getElem?_eq_getElem _
        rw [(hl j _ z hx hj).q]
        exact HS.out.2 _ (List.mem_of_getElem? hx))⟩⟩ : RdP W.heap.size W (some ⟨G, 0, none⟩, xs.length, xs.length + 3) ys ∧ Sz nm ys))
      have hatI : (at' : Int) < (n : Int) := by omega
      clear hya hrow hzz
      have h8 : f = 0 ∨ f = 1 ∨ f = 2 ∨ f = 3 ∨ f = 4 ∨ f = 5 ∨ f = 6 ∨ f = 7 := by omega
      clear hf
      rcases h8 with rfl | rfl | rfl | rfl | rfl | rfl | rfl | rfl
      · as_aux_lemma =>
        have RW9 := hide (RW.out.set1 HRW.out 1 (by decide) ({ y.q with la := v } : Nd) (.int .i64 v) rfl)
        have k9 := keep_cell w8 G (at' * 10 + 1) (.int .i64 v)
        have B9 := hide (BC.out ({ y.q with la := v } : Nd) ⟨rfl, rfl, rfl⟩ _ _ (k9.mono fun _ h => h) RW9.out rfl)
        have hD9 := k9.blk HBD.out (fun e => by have := HGD.out; omega)
        have KE9 : Hid (Below w.heap.size w (w8.setCell ⟨G, at' * 10 + 1, none⟩ (.int .i64 v))) := by
          have h := (HM.out w8 K6.out).2.2.1
          rw [HHE.out] at h
          exact h.trans (k9.below h.size fun j hj => by have := HGD.out; have := HHE.out; omega)
        have fk := fz (at' * 10 + 1)
        have HD9 := hide hD9
        clear k9 hD9
        by_cases h1 : 0 ≤ v
        · by_cases h2 : v < 16
          · have hfk : fOk ({ y.q with la := v } : Nd) = true := by
              have h := HFK.out
              unfold fOk wI at h ⊢
              simp only [Bool.and_eq_true, decide_eq_true_eq] at h
              simp only [Bool.and_eq_true, decide_eq_true_eq]
              omega
            have e9 := B9.out.2.2
            rw [hfk] at e9
            simp only [if_true] at e9
            have hB9 := B9.out.1
            have CK2 := hide (check_any nm dl (some ⟨G, 0, none⟩, xs.length, xs.length + 3) _ _ _ hB9 (Nat.le_refl _) B9.out.2.1)
            rw [e9, ← HN.out] at CK2
            have g0 := cell_blk HD9.out 0 (v := .string nm) rfl
            have g1 := cell_blk HD9.out 1 (v := .int .i64 dl) rfl
            have g2 := cell_blk HD9.out 2 (v := .slice (some ⟨G, 0, none⟩) n (n + 3)) rfl
            clear e9 hB9 B9 hfk HD9
            go_wp2_with fail
            go_at_call 7
            refine CK2.out.mono ?_
            rintro e w10 ⟨rfl, k10⟩
            have KE := hide (KE9.out.trans (k10.below KE9.out.size fun _ f => f.elim))
            clear k10 CK2
            go_wp2_with fail
            go_ret
            exact ⟨rfl, KE.out⟩
          · have hfk : fOk ({ y.q with la := v } : Nd) = false := by
              have h := HFK.out
              unfold fOk wI at h ⊢
              simp only [Bool.and_eq_true, decide_eq_true_eq] at h
              rw [Bool.eq_false_iff]
              intro hh
              simp only [Bool.and_eq_true, decide_eq_true_eq] at hh
              omega
            have e9 := B9.out.2.2
            rw [hfk] at e9
            simp only [Bool.false_eq_true, if_false] at e9
            have hB9 := B9.out.1
            have CK2 := hide (check_any nm dl (some ⟨G, 0, none⟩, xs.length, xs.length + 3) _ _ _ hB9 (Nat.le_refl _) B9.out.2.1)
            rw [e9, ← HN.out] at CK2
            have g0 := cell_blk HD9.out 0 (v := .string nm) rfl
            have g1 := cell_blk HD9.out 1 (v := .int .i64 dl) rfl
            have g2 := cell_blk HD9.out 2 (v := .slice (some ⟨G, 0, none⟩) n (n + 3)) rfl
            clear e9 hB9 B9 hfk HD9
            go_wp2_with fail
            go_at_call 7
            refine CK2.out.mono ?_
            rintro e w10 ⟨rfl, k10⟩
            have KE := hide (KE9.out.trans (k10.below KE9.out.size fun _ f => f.elim))
            clear k10 CK2
            go_wp2_with fail
            go_ret
            exact ⟨by rfl, KE.out⟩
        · have hfk : fOk ({ y.q with la := v } : Nd) = false := by
            have h := HFK.out
            unfold fOk wI at h ⊢
            simp only [Bool.and_eq_true, decide_eq_true_eq] at h
            rw [Bool.eq_false_iff]
            intro hh
            simp only [Bool.and_eq_true, decide_eq_true_eq] at hh
            omega
          have e9 := B9.out.2.2
          rw [hfk] at e9
          simp only [Bool.false_eq_true, if_false] at e9
          have hB9 := B9.out.1
          have CK2 := hide (check_any nm dl (some ⟨G, 0, none⟩, xs.length, xs.length + 3) _ _ _ hB9 (Nat.le_refl _) B9.out.2.1)
          rw [e9, ← HN.out] at CK2
          have g0 := cell_blk HD9.out 0 (v := .string nm) rfl
          have g1 := cell_blk HD9.out 1 (v := .int .i64 dl) rfl
          have g2 := cell_blk HD9.out 2 (v := .slice (some ⟨G, 0, none⟩) n (n + 3)) rfl
          clear e9 hB9 B9 hfk HD9
          go_wp2_with fail
          go_at_call 7
          refine CK2.out.mono ?_
          rintro e w10 ⟨rfl, k10⟩
          have KE := hide (KE9.out.trans (k10.below KE9.out.size fun _ f => f.elim))
          clear k10 CK2
          go_wp2_with fail
          go_ret
          exact ⟨by rfl, KE.out⟩
      · as_aux_lemma =>
        have RW9 := hide (RW.out.set1 HRW.out 2 (by decide) ({ y.q with bu := v } : Nd) (.int .i64 v) rfl)
        have k9 := keep_cell w8 G (at' * 10 + 2) (.int .i64 v)
        have B9 := hide (BC.out ({ y.q with bu := v } : Nd) ⟨rfl, rfl, rfl⟩ _ _ (k9.mono fun _ h => h) RW9.out rfl)
        have hD9 := k9.blk HBD.out (fun e => by have := HGD.out; omega)
        have KE9 : Hid (Below w.heap.size w (w8.setCell ⟨G, at' * 10 + 2, none⟩ (.int .i64 v))) := by
          have h := (HM.out w8 K6.out).2.2.1
          rw [HHE.out] at h
          exact h.trans (k9.below h.size fun j hj => by have := HGD.out; have := HHE.out; omega)
        have fk := fz (at' * 10 + 2)
        have HD9 := hide hD9
        clear k9 hD9
        by_cases h1 : 1 ≤ v
        · by_cases h2 : v ≤ 100
          · have hfk : fOk ({ y.q with bu := v } : Nd) = true := by
              have h := HFK.out
              unfold fOk wI at h ⊢
              simp only [Bool.and_eq_true, decide_eq_true_eq] at h
              simp only [Bool.and_eq_true, decide_eq_true_eq]
              omega
            have e9 := B9.out.2.2
            rw [hfk] at e9
            simp only [if_true] at e9
            have hB9 := B9.out.1
            have CK2 := hide (check_any nm dl (some ⟨G, 0, none⟩, xs.length, xs.length + 3) _ _ _ hB9 (Nat.le_refl _) B9.out.2.1)
            rw [e9, ← HN.out] at CK2
            have g0 := cell_blk HD9.out 0 (v := .string nm) rfl
            have g1 := cell_blk HD9.out 1 (v := .int .i64 dl) rfl
            have g2 := cell_blk HD9.out 2 (v := .slice (some ⟨G, 0, none⟩) n (n + 3)) rfl
            clear e9 hB9 B9 hfk HD9
            go_wp2_with fail
            go_at_call 7
            refine CK2.out.mono ?_
            rintro e w10 ⟨rfl, k10⟩
            have KE := hide (KE9.out.trans (k10.below KE9.out.size fun _ f => f.elim))
            clear k10 CK2
            go_wp2_with fail
            go_ret
            exact ⟨rfl, KE.out⟩
          · have hfk : fOk ({ y.q with bu := v } : Nd) = false := by
              have h := HFK.out
              unfold fOk wI at h ⊢
              simp only [Bool.and_eq_true, decide_eq_true_eq] at h
              rw [Bool.eq_false_iff]
              intro hh
              simp only [Bool.and_eq_true, decide_eq_true_eq] at hh
              omega
            have e9 := B9.out.2.2
            rw [hfk] at e9
            simp only [Bool.false_eq_true, if_false] at e9
            have hB9 := B9.out.1
            have CK2 := hide (check_any nm dl (some ⟨G, 0, none⟩, xs.length, xs.length + 3) _ _ _ hB9 (Nat.le_refl _) B9.out.2.1)
            rw [e9, ← HN.out] at CK2
            have g0 := cell_blk HD9.out 0 (v := .string nm) rfl
            have g1 := cell_blk HD9.out 1 (v := .int .i64 dl) rfl
            have g2 := cell_blk HD9.out 2 (v := .slice (some ⟨G, 0, none⟩) n (n + 3)) rfl
            clear e9 hB9 B9 hfk HD9
            go_wp2_with fail
            go_at_call 7
            refine CK2.out.mono ?_
            rintro e w10 ⟨rfl, k10⟩
            have KE := hide (KE9.out.trans (k10.below KE9.out.size fun _ f => f.elim))
            clear k10 CK2
            go_wp2_with fail
            go_ret
            exact ⟨by rfl, KE.out⟩
        · have hfk : fOk ({ y.q with bu := v } : Nd) = false := by
            have h := HFK.out
            unfold fOk wI at h ⊢
            simp only [Bool.and_eq_true, decide_eq_true_eq] at h
            rw [Bool.eq_false_iff]
            intro hh
            simp only [Bool.and_eq_true, decide_eq_true_eq] at hh
            omega
          have e9 := B9.out.2.2
          rw [hfk] at e9
          simp only [Bool.false_eq_true, if_false] at e9
          have hB9 := B9.out.1
          have CK2 := hide (check_any nm dl (some ⟨G, 0, none⟩, xs.length, xs.length + 3) _ _ _ hB9 (Nat.le_refl _) B9.out.2.1)
          rw [e9, ← HN.out] at CK2
          have g0 := cell_blk HD9.out 0 (v := .string nm) rfl
          have g1 := cell_blk HD9.out 1 (v := .int .i64 dl) rfl
          have g2 := cell_blk HD9.out 2 (v := .slice (some ⟨G, 0, none⟩) n (n + 3)) rfl
          clear e9 hB9 B9 hfk HD9
          go_wp2_with fail
          go_at_call 7
          refine CK2.out.mono ?_
          rintro e w10 ⟨rfl, k10⟩
          have KE := hide (KE9.out.trans (k10.below KE9.out.size fun _ f => f.elim))
          clear k10 CK2
          go_wp2_with fail
          go_ret
          exact ⟨by rfl, KE.out⟩
      · as_aux_lemma =>
        have RW9 := hide (RW.out.set1 HRW.out 3 (by decide) ({ y.q with cl := v } : Nd) (.int .i64 v) rfl)
        have k9 := keep_cell w8 G (at' * 10 + 3) (.int .i64 v)
        have B9 := hide (BC.out ({ y.q with cl := v } : Nd) ⟨rfl, rfl, rfl⟩ _ _ (k9.mono fun _ h => h) RW9.out rfl)
        have hD9 := k9.blk HBD.out (fun e => by have := HGD.out; omega)
        have KE9 : Hid (Below w.heap.size w (w8.setCell ⟨G, at' * 10 + 3, none⟩ (.int .i64 v))) := by
          have h := (HM.out w8 K6.out).2.2.1
          rw [HHE.out] at h
          exact h.trans (k9.below h.size fun j hj => by have := HGD.out; have := HHE.out; omega)
        have fk := fz (at' * 10 + 3)
        have HD9 := hide hD9
        clear k9 hD9
        cases wb
        · have hwb := HWB.out
          have hv2 : ¬ (0 ≤ v ∧ v ≤ 1099511627776) := by
            intro hh
            rw [decide_eq_true hh.1, decide_eq_true hh.2] at hwb
            exact absurd hwb (by decide)
          clear hwb
          have hfk : fOk ({ y.q with cl := v } : Nd) = false := by
            have h := HFK.out
            unfold fOk wI at h ⊢
            simp only [Bool.and_eq_true, decide_eq_true_eq] at h
            rw [Bool.eq_false_iff]
            intro hh
            simp only [Bool.and_eq_true, decide_eq_true_eq] at hh
            omega
          have e9 := B9.out.2.2
          rw [hfk] at e9
          simp only [Bool.false_eq_true, if_false] at e9
          have hB9 := B9.out.1
          have CK2 := hide (check_any nm dl (some ⟨G, 0, none⟩, xs.length, xs.length + 3) _ _ _ hB9 (Nat.le_refl _) B9.out.2.1)
          rw [e9, ← HN.out] at CK2
          have g0 := cell_blk HD9.out 0 (v := .string nm) rfl
          have g1 := cell_blk HD9.out 1 (v := .int .i64 dl) rfl
          have g2 := cell_blk HD9.out 2 (v := .slice (some ⟨G, 0, none⟩) n (n + 3)) rfl
          clear e9 hB9 B9 hfk HD9
          go_wp2_with fail
          go_at_call 7
          refine CK2.out.mono ?_
          rintro e w10 ⟨rfl, k10⟩
          have KE := hide (KE9.out.trans (k10.below KE9.out.size fun _ f => f.elim))
          clear k10 CK2
          go_wp2_with fail
          go_ret
          exact ⟨by rfl, KE.out⟩
        · by_cases h1 : 1 ≤ v
          · have hwb := HWB.out
            have hv2 : 0 ≤ v ∧ v ≤ 1099511627776 := by
              have := hwb.symm
              rw [Bool.and_eq_true, decide_eq_true_eq, decide_eq_true_eq] at this
              exact this
            clear hwb
            have hfk : fOk ({ y.q with cl := v } : Nd) = true := by
              have h := HFK.out
              unfold fOk wI at h ⊢
              simp only [Bool.and_eq_true, decide_eq_true_eq] at h
              simp only [Bool.and_eq_true, decide_eq_true_eq]
              omega
            have e9 := B9.out.2.2
            rw [hfk] at e9
            simp only [if_true] at e9
            have hB9 := B9.out.1
            have CK2 := hide (check_any nm dl (some ⟨G, 0, none⟩, xs.length, xs.length + 3) _ _ _ hB9 (Nat.le_refl _) B9.out.2.1)
            rw [e9, ← HN.out] at CK2
            have g0 := cell_blk HD9.out 0 (v := .string nm) rfl
            have g1 := cell_blk HD9.out 1 (v := .int .i64 dl) rfl
            have g2 := cell_blk HD9.out 2 (v := .slice (some ⟨G, 0, none⟩) n (n + 3)) rfl
            clear e9 hB9 B9 hfk HD9
            go_wp2_with fail
            go_at_call 7
            refine CK2.out.mono ?_
            rintro e w10 ⟨rfl, k10⟩
            have KE := hide (KE9.out.trans (k10.below KE9.out.size fun _ f => f.elim))
            clear k10 CK2
            go_wp2_with fail
            go_ret
            exact ⟨rfl, KE.out⟩
          · have hwb := HWB.out
            have hv2 : 0 ≤ v ∧ v ≤ 1099511627776 := by
              have := hwb.symm
              rw [Bool.and_eq_true, decide_eq_true_eq, decide_eq_true_eq] at this
              exact this
            clear hwb
            have hfk : fOk ({ y.q with cl := v } : Nd) = false := by
              have h := HFK.out
              unfold fOk wI at h ⊢
              simp only [Bool.and_eq_true, decide_eq_true_eq] at h
              rw [Bool.eq_false_iff]
              intro hh
              simp only [Bool.and_eq_true, decide_eq_true_eq] at hh
              omega
            have e9 := B9.out.2.2
            rw [hfk] at e9
            simp only [Bool.false_eq_true, if_false] at e9
            have hB9 := B9.out.1
            have CK2 := hide (check_any nm dl (some ⟨G, 0, none⟩, xs.length, xs.length + 3) _ _ _ hB9 (Nat.le_refl _) B9.out.2.1)
            rw [e9, ← HN.out] at CK2
            have g0 := cell_blk HD9.out 0 (v := .string nm) rfl
            have g1 := cell_blk HD9.out 1 (v := .int .i64 dl) rfl
            have g2 := cell_blk HD9.out 2 (v := .slice (some ⟨G, 0, none⟩) n (n + 3)) rfl
            clear e9 hB9 B9 hfk HD9
            go_wp2_with fail
            go_at_call 7
            refine CK2.out.mono ?_
            rintro e w10 ⟨rfl, k10⟩
            have KE := hide (KE9.out.trans (k10.below KE9.out.size fun _ f => f.elim))
            clear k10 CK2
            go_wp2_with fail
            go_ret
            exact ⟨by rfl, KE.out⟩
      · as_aux_lemma =>
        have RW9 := hide (RW.out.set1 HRW.out 4 (by decide) ({ y.q with be := v } : Nd) (.int .i64 v) rfl)
        have k9 := keep_cell w8 G (at' * 10 + 4) (.int .i64 v)
        have B9 := hide (BC.out ({ y.q with be := v } : Nd) ⟨rfl, rfl, rfl⟩ _ _ (k9.mono fun _ h => h) RW9.out rfl)
        have hD9 := k9.blk HBD.out (fun e => by have := HGD.out; omega)
        have KE9 : Hid (Below w.heap.size w (w8.setCell ⟨G, at' * 10 + 4, none⟩ (.int .i64 v))) := by
          have h := (HM.out w8 K6.out).2.2.1
          rw [HHE.out] at h
          exact h.trans (k9.below h.size fun j hj => by have := HGD.out; have := HHE.out; omega)
        have fk := fz (at' * 10 + 4)
        have HD9 := hide hD9
        clear k9 hD9
        cases wb
        · have hwb := HWB.out
          have hv2 : ¬ (0 ≤ v ∧ v ≤ 1099511627776) := by
            intro hh
            rw [decide_eq_true hh.1, decide_eq_true hh.2] at hwb
            exact absurd hwb (by decide)
          clear hwb
          have hfk : fOk ({ y.q with be := v } : Nd) = false := by
            have h := HFK.out
            unfold fOk wI at h ⊢
            simp only [Bool.and_eq_true, decide_eq_true_eq] at h
            rw [Bool.eq_false_iff]
            intro hh
            simp only [Bool.and_eq_true, decide_eq_true_eq] at hh
            omega
          have e9 := B9.out.2.2
          rw [hfk] at e9
          simp only [Bool.false_eq_true, if_false] at e9
          have hB9 := B9.out.1
          have CK2 := hide (check_any nm dl (some ⟨G, 0, none⟩, xs.length, xs.length + 3) _ _ _ hB9 (Nat.le_refl _) B9.out.2.1)
          rw [e9, ← HN.out] at CK2
          have g0 := cell_blk HD9.out 0 (v := .string nm) rfl
          have g1 := cell_blk HD9.out 1 (v := .int .i64 dl) rfl
          have g2 := cell_blk HD9.out 2 (v := .slice (some ⟨G, 0, none⟩) n (n + 3)) rfl
          clear e9 hB9 B9 hfk HD9
          go_wp2_with fail
          go_at_call 7
          refine CK2.out.mono ?_
          rintro e w10 ⟨rfl, k10⟩
          have KE := hide (KE9.out.trans (k10.below KE9.out.size fun _ f => f.elim))
          clear k10 CK2
          go_wp2_with fail
          go_ret
          exact ⟨by rfl, KE.out⟩
        · have hwb := HWB.out
          have hv2 : 0 ≤ v ∧ v ≤ 1099511627776 := by
            have := hwb.symm
            rw [Bool.and_eq_true, decide_eq_true_eq, decide_eq_true_eq] at this
            exact this
          clear hwb
          have hfk : fOk ({ y.q with be := v } : Nd) = true := by
            have h := HFK.out
            unfold fOk wI at h ⊢
            simp only [Bool.and_eq_true, decide_eq_true_eq] at h
            simp only [Bool.and_eq_true, decide_eq_true_eq]
            omega
          have e9 := B9.out.2.2
          rw [hfk] at e9
          simp only [if_true] at e9
          have hB9 := B9.out.1
          have CK2 := hide (check_any nm dl (some ⟨G, 0, none⟩, xs.length, xs.length + 3) _ _ _ hB9 (Nat.le_refl _) B9.out.2.1)
          rw [e9, ← HN.out] at CK2
          have g0 := cell_blk HD9.out 0 (v := .string nm) rfl
          have g1 := cell_blk HD9.out 1 (v := .int .i64 dl) rfl
          have g2 := cell_blk HD9.out 2 (v := .slice (some ⟨G, 0, none⟩) n (n + 3)) rfl
          clear e9 hB9 B9 hfk HD9
          go_wp2_with fail
          go_at_call 7
          refine CK2.out.mono ?_
          rintro e w10 ⟨rfl, k10⟩
          have KE := hide (KE9.out.trans (k10.below KE9.out.size fun _ f => f.elim))
          clear k10 CK2
          go_wp2_with fail
          go_ret
          exact ⟨rfl, KE.out⟩
      · as_aux_lemma =>
        have RW9 := hide (RW.out.set1 HRW.out 5 (by decide) ({ y.q with ba := v } : Nd) (.int .i64 v) rfl)
        have k9 := keep_cell w8 G (at' * 10 + 5) (.int .i64 v)
        have B9 := hide (BC.out ({ y.q with ba := v } : Nd) ⟨rfl, rfl, rfl⟩ _ _ (k9.mono fun _ h => h) RW9.out rfl)
        have hD9 := k9.blk HBD.out (fun e => by have := HGD.out; omega)
        have KE9 : Hid (Below w.heap.size w (w8.setCell ⟨G, at' * 10 + 5, none⟩ (.int .i64 v))) := by
          have h := (HM.out w8 K6.out).2.2.1
          rw [HHE.out] at h
          exact h.trans (k9.below h.size fun j hj => by have := HGD.out; have := HHE.out; omega)
        have fk := fz (at' * 10 + 5)
        have HD9 := hide hD9
        clear k9 hD9
        by_cases h1 : 1 ≤ v
        · by_cases h2 : v ≤ y.q.ca
          · have hfk : fOk ({ y.q with ba := v } : Nd) = true := by
              have h := HFK.out
              unfold fOk wI at h ⊢
              simp only [Bool.and_eq_true, decide_eq_true_eq] at h
              simp only [Bool.and_eq_true, decide_eq_true_eq]
              omega
            have e9 := B9.out.2.2
            rw [hfk] at e9
            simp only [if_true] at e9
            have hB9 := B9.out.1
            have CK2 := hide (check_any nm dl (some ⟨G, 0, none⟩, xs.length, xs.length + 3) _ _ _ hB9 (Nat.le_refl _) B9.out.2.1)
            rw [e9, ← HN.out] at CK2
            have g0 := cell_blk HD9.out 0 (v := .string nm) rfl
            have g1 := cell_blk HD9.out 1 (v := .int .i64 dl) rfl
            have g2 := cell_blk HD9.out 2 (v := .slice (some ⟨G, 0, none⟩) n (n + 3)) rfl
            clear e9 hB9 B9 hfk HD9
            go_wp2_with fail
            go_at_call 7
            refine CK2.out.mono ?_
            rintro e w10 ⟨rfl, k10⟩
            have KE := hide (KE9.out.trans (k10.below KE9.out.size fun _ f => f.elim))
            clear k10 CK2
            go_wp2_with fail
            go_ret
            exact ⟨rfl, KE.out⟩
          · have hfk : fOk ({ y.q with ba := v } : Nd) = false := by
              have h := HFK.out
              unfold fOk wI at h ⊢
              simp only [Bool.and_eq_true, decide_eq_true_eq] at h
              rw [Bool.eq_false_iff]
              intro hh
              simp only [Bool.and_eq_true, decide_eq_true_eq] at hh
              omega
            have e9 := B9.out.2.2
            rw [hfk] at e9
            simp only [Bool.false_eq_true, if_false] at e9
            have hB9 := B9.out.1
            have CK2 := hide (check_any nm dl (some ⟨G, 0, none⟩, xs.length, xs.length + 3) _ _ _ hB9 (Nat.le_refl _) B9.out.2.1)
            rw [e9, ← HN.out] at CK2
            have g0 := cell_blk HD9.out 0 (v := .string nm) rfl
            have g1 := cell_blk HD9.out 1 (v := .int .i64 dl) rfl
            have g2 := cell_blk HD9.out 2 (v := .slice (some ⟨G, 0, none⟩) n (n + 3)) rfl
            clear e9 hB9 B9 hfk HD9
            go_wp2_with fail
            go_at_call 7
            refine CK2.out.mono ?_
            rintro e w10 ⟨rfl, k10⟩
            have KE := hide (KE9.out.trans (k10.below KE9.out.size fun _ f => f.elim))
            clear k10 CK2
            go_wp2_with fail
            go_ret
            exact ⟨by rfl, KE.out⟩
        · have hfk : fOk ({ y.q with ba := v } : Nd) = false := by
            have h := HFK.out
            unfold fOk wI at h ⊢
            simp only [Bool.and_eq_true, decide_eq_true_eq] at h
            rw [Bool.eq_false_iff]
            intro hh
            simp only [Bool.and_eq_true, decide_eq_true_eq] at hh
            omega
          have e9 := B9.out.2.2
          rw [hfk] at e9
          simp only [Bool.false_eq_true, if_false] at e9
          have hB9 := B9.out.1
          have CK2 := hide (check_any nm dl (some ⟨G, 0, none⟩, xs.length, xs.length + 3) _ _ _ hB9 (Nat.le_refl _) B9.out.2.1)
          rw [e9, ← HN.out] at CK2
          have g0 := cell_blk HD9.out 0 (v := .string nm) rfl
          have g1 := cell_blk HD9.out 1 (v := .int .i64 dl) rfl
          have g2 := cell_blk HD9.out 2 (v := .slice (some ⟨G, 0, none⟩) n (n + 3)) rfl
          clear e9 hB9 B9 hfk HD9
          go_wp2_with fail
          go_at_call 7
          refine CK2.out.mono ?_
          rintro e w10 ⟨rfl, k10⟩
          have KE := hide (KE9.out.trans (k10.below KE9.out.size fun _ f => f.elim))
          clear k10 CK2
          go_wp2_with fail
          go_ret
          exact ⟨by rfl, KE.out⟩
      · as_aux_lemma =>
        have RW9 := hide (RW.out.set1 HRW.out 6 (by decide) ({ y.q with ca := v } : Nd) (.int .i64 v) rfl)
        have k9 := keep_cell w8 G (at' * 10 + 6) (.int .i64 v)
        have B9 := hide (BC.out ({ y.q with ca := v } : Nd) ⟨rfl, rfl, rfl⟩ _ _ (k9.mono fun _ h => h) RW9.out rfl)
        have hD9 := k9.blk HBD.out (fun e => by have := HGD.out; omega)
        have KE9 : Hid (Below w.heap.size w (w8.setCell ⟨G, at' * 10 + 6, none⟩ (.int .i64 v))) := by
          have h := (HM.out w8 K6.out).2.2.1
          rw [HHE.out] at h
          exact h.trans (k9.below h.size fun j hj => by have := HGD.out; have := HHE.out; omega)
        have fk := fz (at' * 10 + 6)
        have HD9 := hide hD9
        clear k9 hD9
        cases wb
        · have hwb := HWB.out
          have hv2 : ¬ (0 ≤ v ∧ v ≤ 1099511627776) := by
            intro hh
            rw [decide_eq_true hh.1, decide_eq_true hh.2] at hwb
            exact absurd hwb (by decide)
          clear hwb
          have hfk : fOk ({ y.q with ca := v } : Nd) = false := by
            have h := HFK.out
            unfold fOk wI at h ⊢
            simp only [Bool.and_eq_true, decide_eq_true_eq] at h
            rw [Bool.eq_false_iff]
            intro hh
            simp only [Bool.and_eq_true, decide_eq_true_eq] at hh
            omega
          have e9 := B9.out.2.2
          rw [hfk] at e9
          simp only [Bool.false_eq_true, if_false] at e9
          have hB9 := B9.out.1
          have CK2 := hide (check_any nm dl (some ⟨G, 0, none⟩, xs.length, xs.length + 3) _ _ _ hB9 (Nat.le_refl _) B9.out.2.1)
          rw [e9, ← HN.out] at CK2
          have g0 := cell_blk HD9.out 0 (v := .string nm) rfl
          have g1 := cell_blk HD9.out 1 (v := .int .i64 dl) rfl
          have g2 := cell_blk HD9.out 2 (v := .slice (some ⟨G, 0, none⟩) n (n + 3)) rfl
          clear e9 hB9 B9 hfk HD9
          go_wp2_with fail
          go_at_call 7
          refine CK2.out.mono ?_
          rintro e w10 ⟨rfl, k10⟩
          have KE := hide (KE9.out.trans (k10.below KE9.out.size fun _ f => f.elim))
          clear k10 CK2
          go_wp2_with fail
          go_ret
          exact ⟨by rfl, KE.out⟩
        · by_cases h1 : y.q.ba ≤ v
          · have hwb := HWB.out
            have hv2 : 0 ≤ v ∧ v ≤ 1099511627776 := by
              have := hwb.symm
              rw [Bool.and_eq_true, decide_eq_true_eq, decide_eq_true_eq] at this
              exact this
            clear hwb
            have hfk : fOk ({ y.q with ca := v } : Nd) = true := by
              have h := HFK.out
              unfold fOk wI at h ⊢
              simp only [Bool.and_eq_true, decide_eq_true_eq] at h
              simp only [Bool.and_eq_true, decide_eq_true_eq]
              omega
            have e9 := B9.out.2.2
            rw [hfk] at e9
            simp only [if_true] at e9
            have hB9 := B9.out.1
            have CK2 := hide (check_any nm dl (some ⟨G, 0, none⟩, xs.length, xs.length + 3) _ _ _ hB9 (Nat.le_refl _) B9.out.2.1)
            rw [e9, ← HN.out] at CK2
            have g0 := cell_blk HD9.out 0 (v := .string nm) rfl
            have g1 := cell_blk HD9.out 1 (v := .int .i64 dl) rfl
            have g2 := cell_blk HD9.out 2 (v := .slice (some ⟨G, 0, none⟩) n (n + 3)) rfl
            clear e9 hB9 B9 hfk HD9
            go_wp2_with fail
            go_at_call 7
            refine CK2.out.mono ?_
            rintro e w10 ⟨rfl, k10⟩
            have KE := hide (KE9.out.trans (k10.below KE9.out.size fun _ f => f.elim))
            clear k10 CK2
            go_wp2_with fail
            go_ret
            exact ⟨rfl, KE.out⟩
          · have hwb := HWB.out
            have hv2 : 0 ≤ v ∧ v ≤ 1099511627776 := by
              have := hwb.symm
              rw [Bool.and_eq_true, decide_eq_true_eq, decide_eq_true_eq] at this
              exact this
            clear hwb
            have hfk : fOk ({ y.q with ca := v } : Nd) = false := by
              have h := HFK.out
              unfold fOk wI at h ⊢
              simp only [Bool.and_eq_true, decide_eq_true_eq] at h
              rw [Bool.eq_false_iff]
              intro hh
              simp only [Bool.and_eq_true, decide_eq_true_eq] at hh
              omega
            have e9 := B9.out.2.2
            rw [hfk] at e9
            simp only [Bool.false_eq_true, if_false] at e9
            have hB9 := B9.out.1
            have CK2 := hide (check_any nm dl (some ⟨G, 0, none⟩, xs.length, xs.length + 3) _ _ _ hB9 (Nat.le_refl _) B9.out.2.1)
            rw [e9, ← HN.out] at CK2
            have g0 := cell_blk HD9.out 0 (v := .string nm) rfl
            have g1 := cell_blk HD9.out 1 (v := .int .i64 dl) rfl
            have g2 := cell_blk HD9.out 2 (v := .slice (some ⟨G, 0, none⟩) n (n + 3)) rfl
            clear e9 hB9 B9 hfk HD9
            go_wp2_with fail
            go_at_call 7
            refine CK2.out.mono ?_
            rintro e w10 ⟨rfl, k10⟩
            have KE := hide (KE9.out.trans (k10.below KE9.out.size fun _ f => f.elim))
            clear k10 CK2
            go_wp2_with fail
            go_ret
            exact ⟨by rfl, KE.out⟩
      · as_aux_lemma =>
        have RW9 := hide (RW.out.set1 HRW.out 7 (by decide) ({ y.q with ji := v } : Nd) (.int .i64 v) rfl)
        have k9 := keep_cell w8 G (at' * 10 + 7) (.int .i64 v)
        have B9 := hide (BC.out ({ y.q with ji := v } : Nd) ⟨rfl, rfl, rfl⟩ _ _ (k9.mono fun _ h => h) RW9.out rfl)
        have hD9 := k9.blk HBD.out (fun e => by have := HGD.out; omega)
        have KE9 : Hid (Below w.heap.size w (w8.setCell ⟨G, at' * 10 + 7, none⟩ (.int .i64 v))) := by
          have h := (HM.out w8 K6.out).2.2.1
          rw [HHE.out] at h
          exact h.trans (k9.below h.size fun j hj => by have := HGD.out; have := HHE.out; omega)
        have fk := fz (at' * 10 + 7)
        have HD9 := hide hD9
        clear k9 hD9
        cases wb
        · have hwb := HWB.out
          have hv2 : ¬ (0 ≤ v ∧ v ≤ 1099511627776) := by
            intro hh
            rw [decide_eq_true hh.1, decide_eq_true hh.2] at hwb
            exact absurd hwb (by decide)
          clear hwb
          have hfk : fOk ({ y.q with ji := v } : Nd) = false := by
            have h := HFK.out
            unfold fOk wI at h ⊢
            simp only [Bool.and_eq_true, decide_eq_true_eq] at h
            rw [Bool.eq_false_iff]
            intro hh
            simp only [Bool.and_eq_true, decide_eq_true_eq] at hh
            omega
          have e9 := B9.out.2.2
          rw [hfk] at e9
          simp only [Bool.false_eq_true, if_false] at e9
          have hB9 := B9.out.1
          have CK2 := hide (check_any nm dl (some ⟨G, 0, none⟩, xs.length, xs.length + 3) _ _ _ hB9 (Nat.le_refl _) B9.out.2.1)
          rw [e9, ← HN.out] at CK2
          have g0 := cell_blk HD9.out 0 (v := .string nm) rfl
          have g1 := cell_blk HD9.out 1 (v := .int .i64 dl) rfl
          have g2 := cell_blk HD9.out 2 (v := .slice (some ⟨G, 0, none⟩) n (n + 3)) rfl
          clear e9 hB9 B9 hfk HD9
          go_wp2_with fail
          go_at_call 7
          refine CK2.out.mono ?_
          rintro e w10 ⟨rfl, k10⟩
          have KE := hide (KE9.out.trans (k10.below KE9.out.size fun _ f => f.elim))
          clear k10 CK2
          go_wp2_with fail
          go_ret
          exact ⟨by rfl, KE.out⟩
        · have hwb := HWB.out
          have hv2 : 0 ≤ v ∧ v ≤ 1099511627776 := by
            have := hwb.symm
            rw [Bool.and_eq_true, decide_eq_true_eq, decide_eq_true_eq] at this
            exact this
          clear hwb
          have hfk : fOk ({ y.q with ji := v } : Nd) = true := by
            have h := HFK.out
            unfold fOk wI at h ⊢
            simp only [Bool.and_eq_true, decide_eq_true_eq] at h
            simp only [Bool.and_eq_true, decide_eq_true_eq]
            omega
          have e9 := B9.out.2.2
          rw [hfk] at e9
          simp only [if_true] at e9
          have hB9 := B9.out.1
          have CK2 := hide (check_any nm dl (some ⟨G, 0, none⟩, xs.length, xs.length + 3) _ _ _ hB9 (Nat.le_refl _) B9.out.2.1)
          rw [e9, ← HN.out] at CK2
          have g0 := cell_blk HD9.out 0 (v := .string nm) rfl
          have g1 := cell_blk HD9.out 1 (v := .int .i64 dl) rfl
          have g2 := cell_blk HD9.out 2 (v := .slice (some ⟨G, 0, none⟩) n (n + 3)) rfl
          clear e9 hB9 B9 hfk HD9
          go_wp2_with fail
          go_at_call 7
          refine CK2.out.mono ?_
          rintro e w10 ⟨rfl, k10⟩
          have KE := hide (KE9.out.trans (k10.below KE9.out.size fun _ f => f.elim))
          clear k10 CK2
          go_wp2_with fail
          go_ret
          exact ⟨rfl, KE.out⟩
      · as_aux_lemma =>
        cases wb
        · have hwb := HWB.out
          have hv2 : ¬ (0 ≤ v ∧ v ≤ 1099511627776) := by
            intro hh
            rw [decide_eq_true hh.1, decide_eq_true hh.2] at hwb
            exact absurd hwb (by decide)
          clear hwb
          have k9 := keep_cell w8 D 1 (.int .i64 v)
          have hD9 := (set_blk HBD.out 1 (.int .i64 v)).trans rfl
          have f1 := frozen_blk HBD.out 1
          have d1 := cell_blk HBD.out 1 (v := .int .i64 dl) rfl
          have KE9 : Hid (Below w.heap.size w (w8.setCell ⟨D, 1, none⟩ (.int .i64 v))) := by
            have h := (HM.out w8 K6.out).2.2.1
            rw [HHE.out] at h
            exact h.trans (k9.below h.size fun j hj => by have := HGD.out; have := HHE.out; omega)
          have hrn := RW.out.new k9 (fun e => by have := HGD.out; omega)
          have hln := LT.out.keep k9 (fun j hj cs hh => by
            rw [hj, HBD.out] at hh
            injection hh with hh
            injection hh with _ hh
            exact absurd hh (by decide))
          have hid : ys.set at' ⟨y.q, y.nl, y.al⟩ = ys := set_self HYA.out
          have hB9 := BD.out _ hrn hln
          have hck9 : chk nm v ys = if wI v 1 1099511627776 then (0, 0) else (0, 101) := chk_deadline (dl := dl) (by
            have h3 := (BC.out y.q ⟨rfl, rfl, rfl⟩ w8 _ (Keep.refl _ _) RW.out (by rw [set_self HRW.out])).2.2
            rw [hid, HFK.out] at h3
            rw [h3]
            rfl)
          have CK2 := hide (check_any nm v (some ⟨G, 0, none⟩, xs.length, xs.length + 3) ys _ _ hB9.1 (Nat.le_refl _) hB9.2)
          rw [hck9, show wI v 1 1099511627776 = false by unfold wI; simp; omega] at CK2
          simp only [Bool.false_eq_true, if_false] at CK2
          rw [← HN.out] at CK2
          have g0 := cell_blk hD9 0 (v := .string nm) rfl
          have g1 := cell_blk hD9 1 (v := .int .i64 v) rfl
          have g2 := cell_blk hD9 2 (v := .slice (some ⟨G, 0, none⟩) n (n + 3)) rfl
          clear hB9 hck9 hrn hln hid k9 hD9
          go_wp2_with fail
          go_at_call 7
          refine CK2.out.mono ?_
          rintro e w10 ⟨rfl, k10⟩
          have KE := hide (KE9.out.trans (k10.below KE9.out.size fun _ f => f.elim))
          clear k10 CK2
          go_wp2_with fail
          go_ret
          exact ⟨by rfl, KE.out⟩
        · by_cases h1 : 1 ≤ v
          · have hwb := HWB.out
            have hv2 : 0 ≤ v ∧ v ≤ 1099511627776 := by
              have := hwb.symm
              rw [Bool.and_eq_true, decide_eq_true_eq, decide_eq_true_eq] at this
              exact this
            clear hwb
            have k9 := keep_cell w8 D 1 (.int .i64 v)
            have hD9 := (set_blk HBD.out 1 (.int .i64 v)).trans rfl
            have f1 := frozen_blk HBD.out 1
            have d1 := cell_blk HBD.out 1 (v := .int .i64 dl) rfl
            have KE9 : Hid (Below w.heap.size w (w8.setCell ⟨D, 1, none⟩ (.int .i64 v))) := by
              have h := (HM.out w8 K6.out).2.2.1
              rw [HHE.out] at h
              exact h.trans (k9.below h.size fun j hj => by have := HGD.out; have := HHE.out; omega)
            have hrn := RW.out.new k9 (fun e => by have := HGD.out; omega)
            have hln := LT.out.keep k9 (fun j hj cs hh => by
              rw [hj, HBD.out] at hh
              injection hh with hh
              injection hh with _ hh
              exact absurd hh (by decide))
            have hid : ys.set at' ⟨y.q, y.nl, y.al⟩ = ys := set_self HYA.out
            have hB9 := BD.out _ hrn hln
            have hck9 : chk nm v ys = if wI v 1 1099511627776 then (0, 0) else (0, 101) := chk_deadline (dl := dl) (by
              have h3 := (BC.out y.q ⟨rfl, rfl, rfl⟩ w8 _ (Keep.refl _ _) RW.out (by rw [set_self HRW.out])).2.2
              rw [hid, HFK.out] at h3
              rw [h3]
              rfl)
            have CK2 := hide (check_any nm v (some ⟨G, 0, none⟩, xs.length, xs.length + 3) ys _ _ hB9.1 (Nat.le_refl _) hB9.2)
            rw [hck9, show wI v 1 1099511627776 = true by unfold wI; simp; omega] at CK2
            simp only [if_true] at CK2
            rw [← HN.out] at CK2
            have g0 := cell_blk hD9 0 (v := .string nm) rfl
            have g1 := cell_blk hD9 1 (v := .int .i64 v) rfl
            have g2 := cell_blk hD9 2 (v := .slice (some ⟨G, 0, none⟩) n (n + 3)) rfl
            clear hB9 hck9 hrn hln hid k9 hD9
            go_wp2_with fail
            go_at_call 7
            refine CK2.out.mono ?_
            rintro e w10 ⟨rfl, k10⟩
            have KE := hide (KE9.out.trans (k10.below KE9.out.size fun _ f => f.elim))
            clear k10 CK2
            go_wp2_with fail
            go_ret
            exact ⟨rfl, KE.out⟩
          · have hwb := HWB.out
            have hv2 : 0 ≤ v ∧ v ≤ 1099511627776 := by
              have := hwb.symm
              rw [Bool.and_eq_true, decide_eq_true_eq, decide_eq_true_eq] at this
              exact this
            clear hwb
            have k9 := keep_cell w8 D 1 (.int .i64 v)
            have hD9 := (set_blk HBD.out 1 (.int .i64 v)).trans rfl
            have f1 := frozen_blk HBD.out 1
            have d1 := cell_blk HBD.out 1 (v := .int .i64 dl) rfl
            have KE9 : Hid (Below w.heap.size w (w8.setCell ⟨D, 1, none⟩ (.int .i64 v))) := by
              have h := (HM.out w8 K6.out).2.2.1
              rw [HHE.out] at h
              exact h.trans (k9.below h.size fun j hj => by have := HGD.out; have := HHE.out; omega)
            have hrn := RW.out.new k9 (fun e => by have := HGD.out; omega)
            have hln := LT.out.keep k9 (fun j hj cs hh => by
              rw [hj, HBD.out] at hh
              injection hh with hh
              injection hh with _ hh
              exact absurd hh (by decide))
            have hid : ys.set at' ⟨y.q, y.nl, y.al⟩ = ys := set_self HYA.out
            have hB9 := BD.out _ hrn hln
            have hck9 : chk nm v ys = if wI v 1 1099511627776 then (0, 0) else (0, 101) := chk_deadline (dl := dl) (by
              have h3 := (BC.out y.q ⟨rfl, rfl, rfl⟩ w8 _ (Keep.refl _ _) RW.out (by rw [set_self HRW.out])).2.2
              rw [hid, HFK.out] at h3
              rw [h3]
              rfl)
            have CK2 := hide (check_any nm v (some ⟨G, 0, none⟩, xs.length, xs.length + 3) ys _ _ hB9.1 (Nat.le_refl _) hB9.2)
            rw [hck9, show wI v 1 1099511627776 = false by unfold wI; simp; omega] at CK2
            simp only [Bool.false_eq_true, if_false] at CK2
            rw [← HN.out] at CK2
            have g0 := cell_blk hD9 0 (v := .string nm) rfl
            have g1 := cell_blk hD9 1 (v := .int .i64 v) rfl
            have g2 := cell_blk hD9 2 (v := .slice (some ⟨G, 0, none⟩) n (n + 3)) rfl
            clear hB9 hck9 hrn hln hid k9 hD9
            go_wp2_with fail
            go_at_call 7
            refine CK2.out.mono ?_
            rintro e w10 ⟨rfl, k10⟩
            have KE := hide (KE9.out.trans (k10.below KE9.out.size fun _ f => f.elim))
            clear k10 CK2
            go_wp2_with fail
            go_ret
            exact ⟨by rfl, KE.out⟩
end Gr
end Go.Proofs.Ytljfomaiikpdjaa
