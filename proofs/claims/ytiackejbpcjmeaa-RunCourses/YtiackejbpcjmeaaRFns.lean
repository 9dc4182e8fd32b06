import Derived.Test.YtiackejbpcjmeaaRFin
/- Package run: Miss. -/
namespace Go.Proofs.Ytiackejbpcjmeaa
namespace Rn
open Go.RowKit Gr

theorem putS_twice (ps : List Pt) (k : Nat) (a b : Int) : putS (putS ps k a) k b = putS ps k b := by
  unfold putS
  refine List.ext_getElem? fun i => ?_
  rw [List.getElem?_modify, List.getElem?_modify, List.getElem?_modify]
  by_cases c : k = i
  · subst c; cases ps[k]? <;> simp
  · simp [c]
theorem putS_at {ps : List Pt} {k : Nat} {p : Pt} (h : ps[k]? = some p) (v : Int) : (putS ps k v)[k]? = some { p with st := v } := by
  unfold putS; rw [List.getElem?_modify, h]; simp
theorem keep_drewN (w : World) (n : Nat) : Keep (fun _ => False) w (w.drewN n) := ⟨rfl, rfl, rfl, Nat.le_refl _, fun _ _ _ => rfl⟩

/-- the last part of Miss: the change is handed to settleOn, and laid -/
theorem miss_fin {T : Nat → Prop} {w w3 : World} {P G : Nat} {nm : ByteArray} {dl : Int} {s : Option Addr × Nat × Nat} {xs : List No} {R : Rs} (hT : ∀ k, T k → k < w.heap.size) (hP : T P) (hG : T G) (h : RunAt (fun k => T k ∨ w.heap.size ≤ k) w3 P G nm dl s xs R) (hs : w.heap.size ≤ w3.heap.size) (da : Option Addr) (dc : Nat) (dead : List Nat) (hd : w3.ownsRow w.heap.size 3 1 (.slice da dead.length dc) dead.length (iv dead)) (hdl : dead.length ≤ 1000) (hA : w3.heap[w.heap.size]? = some (.cells #[.slice none 0 0, .slice none 0 0, .slice none 0 0, .int .i64 0] 45 (0, 0))) (hK : Keep (fun k => k = P ∨ k = G ∨ w.heap.size ≤ k) w w3) :
    Calls Try.prog 28 #[.pointer (some ⟨P, 0, none⟩), .agg #[.slice da dead.length dc, .slice none 0 0, .slice none 0 0, .int .i64 0]] w3 fun e w5 => ∃ aa ac ba bc, e = .returned (.agg #[.slice da dead.length dc, .slice aa (settleR (xs.map nx) R).1.1.length ac, .slice ba (settleR (xs.map nx) R).1.2.length bc, .int .i64 (settleR (xs.map nx) R).2.stt]) ∧ w5.heap[w.heap.size]? = some (.cells #[.slice none 0 0, .slice none 0 0, .slice none 0 0, .int .i64 0] 45 (0, 0)) ∧
      (put4 w5 w.heap.size (.slice da dead.length dc) (.slice aa (settleR (xs.map nx) R).1.1.length ac) (.slice ba (settleR (xs.map nx) R).1.2.length bc) (.int .i64 (settleR (xs.map nx) R).2.stt)).heap[w.heap.size]? = some (.cells #[.slice da dead.length dc, .slice aa (settleR (xs.map nx) R).1.1.length ac, .slice ba (settleR (xs.map nx) R).1.2.length bc, .int .i64 (settleR (xs.map nx) R).2.stt] 45 (0, 0)) ∧
      ChgAt T (put4 w5 w.heap.size (.slice da dead.length dc) (.slice aa (settleR (xs.map nx) R).1.1.length ac) (.slice ba (settleR (xs.map nx) R).1.2.length bc) (.int .i64 (settleR (xs.map nx) R).2.stt)) (.agg #[.slice da dead.length dc, .slice aa (settleR (xs.map nx) R).1.1.length ac, .slice ba (settleR (xs.map nx) R).1.2.length bc, .int .i64 (settleR (xs.map nx) R).2.stt]) ⟨dead, (settleR (xs.map nx) R).1.1, (settleR (xs.map nx) R).1.2, (settleR (xs.map nx) R).2.stt⟩ ∧
      RunAt T (put4 w5 w.heap.size (.slice da dead.length dc) (.slice aa (settleR (xs.map nx) R).1.1.length ac) (.slice ba (settleR (xs.map nx) R).1.2.length bc) (.int .i64 (settleR (xs.map nx) R).2.stt)) P G nm dl s xs (settleR (xs.map nx) R).2 ∧ Keep (fun k => k = P ∨ k = G) w (put4 w5 w.heap.size (.slice da dead.length dc) (.slice aa (settleR (xs.map nx) R).1.1.length ac) (.slice ba (settleR (xs.map nx) R).1.2.length bc) (.int .i64 (settleR (xs.map nx) R).2.stt)) := by
  have hPl := hT P hP
  have hGl := hT G hG
  have hl64 : xs.length ≤ 64 := h.val.1
  have hsl := settle_len (xs.map nx) R
  rw [List.length_map] at hsl
  obtain ⟨cP, hbP⟩ := h.blk
  obtain ⟨cG, hbG⟩ := h.prt
  refine (settleOn_core h (fun k hk => .inr (by omega)) da none none dead.length dc 0 0 0 0 [] w.heap.size hs (World.ownsRow_nil _ _ _ _) (by simp) (fun k hk => by simp [Value.ownBlock] at hk)).mono ?_
  rintro e w5 ⟨va, vb, rfl, hR5, hva, hvb, hk5⟩
  obtain ⟨aa, ac, rfl⟩ := ownsRow_shape hva
  rw [List.nil_append] at hvb
  obtain ⟨ba, bc, rfl⟩ := ownsRow_shape hvb
  have hblk := hk5.blk hA (fun e => by
    rcases e with e | e | e
    · omega
    · omega
    · simp [Value.ownBlock] at e)
  have hd5 := ownsRow_keep hd hk5 (fun i hi hh => by
    rcases hi with e | e | e
    · exact row_far hd hbP (by decide) hh e
    · exact row_far hd hbG (by decide) hh e
    · simp [Value.ownBlock] at e)
  have hE := stp_end hT hP hG w.heap.size (Nat.le_refl _) hblk hR5 (settleR (xs.map nx) R).2.stt hd5 (ownsRow_base hva hs) hvb (by omega) (by omega) (by omega) (hK.more (hk5.mono fun i hi => by
    rcases hi with h | h | h
    · exact .inl h
    · exact .inr (.inl h)
    · simp [Value.ownBlock] at h))
  exact ⟨aa, ac, ba, bc, rfl, hblk, hE.1, hE.2.1, hE.2.2.1, hE.2.2.2⟩

set_option maxRecDepth 100000 in
set_option maxHeartbeats 4000000 in
theorem miss_any {T : Nat → Prop} {w : World} {P G : Nat} {nm : ByteArray} {dl : Int} {s : Option Addr × Nat × Nat} {xs : List No} {R : Rs} (h : RunAt T w P G nm dl s xs R) (hT : ∀ k, T k → k < w.heap.size) (i : Int) :
    Calls Try.prog 25 #[.pointer (some ⟨P, 0, none⟩), .int .i64 i] w (Stp T w P G nm dl s xs (missR (xs.map nx) R i)) := by
  have HT := hide hT
  have HTP : Hid (T P ∧ T G) := ⟨h.tp, h.tg⟩
  have HPL := hide (hT P h.tp)
  have HGL := hide (hT G h.tg)
  have hl64 : xs.length ≤ 64 := h.val.1
  have HL64 := hide hl64
  have k1 := Keep.alloc (fun _ => False) w (.cells #[.slice none 0 0, .slice none 0 0, .slice none 0 0, .int .i64 0] 45)
  have b1 := heap_alloc_new w (.cells #[.slice none 0 0, .slice none 0 0, .slice none 0 0, .int .i64 0] 45)
  have z1 : (w.alloc (.cells #[.slice none 0 0, .slice none 0 0, .slice none 0 0, .int .i64 0] 45)).heap.size = w.heap.size + 1 := by simp
  have hh := (h.wide (U := fun k => T k ∨ w.heap.size ≤ k) (fun _ h => h) (.inl h.tp) (.inl h.tg)).new k1
  have k2 := Keep.alloc (fun _ => False) (w.alloc (.cells #[.slice none 0 0, .slice none 0 0, .slice none 0 0, .int .i64 0] 45)) (.cells #[.int .i64 3] 3)
  have z2 : ((w.alloc (.cells #[.slice none 0 0, .slice none 0 0, .slice none 0 0, .int .i64 0] 45)).alloc (.cells #[.int .i64 3] 3)).heap.size = w.heap.size + 2 := by simp
  have RF := hide (refuses_any (hh.new k2) i (some ⟨(w.alloc (.cells #[.slice none 0 0, .slice none 0 0, .slice none 0 0, .int .i64 0] 45)).heap.size, 0, none⟩, 1, 1) [3] (rdz_one _ 3))
  have HR2 := hide (hh.new k2)
  have K2 := hide (k1.more k2)
  have HA := hide (k2.blk b1 (fun f => f))
  have HZ2 := hide z2
  rw [z1] at RF
  by_cases hc : refI R i [3] = 0
  · obtain ⟨hi, hs⟩ := refI_zero hc
    obtain ⟨p, hp, e1, e2, hii⟩ := at_of hi
    have hlt : i.toNat < xs.length := by rw [← h.len]; exact (List.getElem?_eq_some_iff.1 hp).1
    obtain ⟨x, hx⟩ : ∃ x, xs[i.toNat]? = some x := ⟨_, List.getElem?_eq_getElem hlt⟩
    have hbu : buAt (xs.map nx) i = x.q.bu := by unfold buAt; rw [nx_at hx]; rfl
    have HWR : Hid (missR (xs.map nx) R i = if p.tr = x.q.bu then ((⟨[i.toNat], (settleR (xs.map nx) ⟨R.stt, putS R.ps i.toNat 6⟩).1.1, (settleR (xs.map nx) ⟨R.stt, putS R.ps i.toNat 6⟩).1.2, (settleR (xs.map nx) ⟨R.stt, putS R.ps i.toNat 6⟩).2.stt⟩, 0), (settleR (xs.map nx) ⟨R.stt, putS R.ps i.toNat 6⟩).2) else ((⟨[], (settleR (xs.map nx) ⟨R.stt, putS R.ps i.toNat 4⟩).1.1, (settleR (xs.map nx) ⟨R.stt, putS R.ps i.toNat 4⟩).1.2, (settleR (xs.map nx) ⟨R.stt, putS R.ps i.toNat 4⟩).2.stt⟩, 0), (settleR (xs.map nx) ⟨R.stt, putS R.ps i.toNat 4⟩).2)) := by
      show _ = _
      unfold missR settled
      rw [if_neg (by simp [hc]), e2, hbu]
      simp only [List.nil_append]
    rw [hc] at RF
    have hltp : i.toNat < R.ps.length := (List.getElem?_eq_some_iff.1 hp).1
    generalize missR (xs.map nx) R i = LR at *
    obtain ⟨k, rfl⟩ : ∃ k : Nat, i = (k : Int) := ⟨i.toNat, hii.symm⟩
    simp only [Int.toNat_natCast] at *
    clear hc hi hs e1 e2 hii h hh k1 k2 b1 hbu
    have HP := hide hp
    have HX := hide hx
    clear hp hx
    go_enter Try.func25, Try.ntmps25
    go_wp2_with fail
    go_at_call 36
    refine RF.out.mono ?_
    rintro e w2 ⟨rfl, hw2⟩
    subst hw2
    clear RF z1 z2
    generalize (w.alloc (.cells #[.slice none 0 0, .slice none 0 0, .slice none 0 0, .int .i64 0] 45)).alloc (.cells #[.int .i64 3] 3) = w2 at *
    have k3 := Keep.alloc (fun _ => False) w2 (.cells #[.slice none 0 0, .slice none 0 0, .slice none 0 0, .int .i64 0] 45)
    have b3 := heap_alloc_new w2 (.cells #[.slice none 0 0, .slice none 0 0, .slice none 0 0, .int .i64 0] 45)
    rw [HZ2.out] at b3
    have HR3 := hide (HR2.out.new k3)
    have HA3 := hide (k3.blk HA.out (fun f => f))
    have HC3 := hide b3
    have K3 := hide (K2.out.more k3)
    have z3 : (w2.alloc (.cells #[.slice none 0 0, .slice none 0 0, .slice none 0 0, .int .i64 0] 45)).heap.size = w.heap.size + 3 := by rw [← show w2.heap.size + 1 = w.heap.size + 3 by rw [HZ2.out]]; simp
    have HZ3 := hide z3
    clear k3 b3 z3 HR2 HA K2
    go_upto_region 5 with fail
    simp only [HZ2.out]
    generalize w2.alloc (.cells #[.slice none 0 0, .slice none 0 0, .slice none 0 0, .int .i64 0] 45) = w3 at *
    obtain ⟨c, _, _, _, _, d4⟩ := HR3.out.cells
    obtain ⟨m, hm⟩ := HR3.out.pts k p HP.out
    have a0 := hm.all.1
    have f0 := (HR3.out.frozen (k * 5)).1
    have HR4 := hide (HR3.out.putS k hltp 4)
    have kc := keep_cell w3 G (k * 5) (.int .i64 4)
    have K4 := hide ((K3.out.mono (T := fun k => k = G) fun _ f => f.elim).more kc)
    have HA4 := hide (kc.blk HA3.out (fun e => by have := HGL.out; omega))
    have HC4 := hide (kc.blk HC3.out (fun e => by have := HGL.out; omega))
    have HZ4 : Hid ((w3.setCell ⟨G, k * 5, none⟩ (.int .i64 4)).heap.size = w.heap.size + 3) := by show _ = _; rw [← HZ3.out]; simp [World.setCell]
    clear hm kc
    go_upto_region 7 with fail
    generalize w3.setCell ⟨G, k * 5, none⟩ (.int .i64 4) = w4 at *
    clear a0 f0 d4 HR3 K3 HA3 HC3 HZ3
    obtain ⟨c, _, _, d2, _, d4⟩ := HR4.out.cells
    obtain ⟨m, hm⟩ := HR4.out.pts k _ (putS_at HP.out 4)
    have a1 := hm.all.2.1
    have hsl : s.2.1 = xs.length := HR4.out.pln.1
    obtain ⟨g, off, x', hsa, _, hx', hN, _, _⟩ := HR4.out.pln.at (i := k) (by omega)
    obtain rfl : x' = x := Option.some.inj (hx'.symm.trans HX.out)
    obtain ⟨sa, sn, sc⟩ := s
    simp only at hsl hsa d2
    subst hsl hsa
    have n2 := hN.all.2.2.1
    simp only at a1
    clear hm hx' hN
    generalize hbq : (p.tr == x'.q.bu) = bq
    go_quiet (fail)
    generalize hwd : w4.drewN _ = wd
    have kd : Keep (fun _ => False) w4 wd := by rw [← hwd]; exact keep_drewN _ _
    have HR5 := hide (HR4.out.new kd)
    have HA5 := hide (kd.blk HA4.out (fun f => f))
    have HC5 := hide (kd.blk HC4.out (fun f => f))
    have K5 := hide (K4.out.more (kd.mono fun _ f => f.elim))
    have HZ5 : Hid (wd.heap.size = w.heap.size + 3) := by show _ = _; rw [← hwd]; exact HZ4.out
    clear kd hwd a1 d2 d4 n2 HR4 HA4 HC4 K4 HZ4
    cases bq with
    | false =>
      have hne : ¬ p.tr = x'.q.bu := by simpa using hbq
      have HW2 := hide (HWR.out.trans (if_neg hne))
      have M := hide (miss_fin HT.out HTP.out.1 HTP.out.2 HR5.out (by have := HZ5.out; omega) none 0 [] (World.ownsRow_nil _ _ _ _) (by simp) HA5.out (K5.out.mono fun i hi => .inr (.inl hi)))
      simp only [List.length_nil] at M
      have y0 := cell_blk HC5.out 0 (v := .slice none 0 0) rfl
      have y1 := cell_blk HC5.out 1 (v := .slice none 0 0) rfl
      have y2 := cell_blk HC5.out 2 (v := .slice none 0 0) rfl
      have y3 := cell_blk HC5.out 3 (v := .int .i64 0) rfl
      generalize settleR (xs.map nx) ⟨R.stt, putS R.ps k 4⟩ = SR at *
      clear hbq hne HWR
      go_wp2_with fail
      go_at_call 28
      refine M.out.mono ?_
      rintro e w6 ⟨aa, ac, ba, bc, rfl, hblk, g1, g2, g3, g4⟩
      have HE := hide (And.intro g1 (And.intro g2 (And.intro g3 g4)))
      clear g1 g2 g3 g4 M y0 y1 y2 y3
      have f0 := frozen_blk hblk 0
      have f1 := frozen_blk hblk 1
      have f2 := frozen_blk hblk 2
      have f3 := frozen_blk hblk 3
      have y0 := cell_blk hblk 0 (v := .slice none 0 0) rfl
      have y1 := cell_blk hblk 1 (v := .slice none 0 0) rfl
      have y2 := cell_blk hblk 2 (v := .slice none 0 0) rfl
      have y3 := cell_blk hblk 3 (v := .int .i64 0) rfl
      clear hblk
      go_wp2_with fail
      obtain ⟨g1, g2, g3, g4⟩ := HE.out
      obtain rfl := HW2.out
      exact bodyPost_ret (res_chg2 rfl _ _ w.heap.size _ _ _ _ rfl g1) rfl ⟨_, rfl, g2, g3, g4⟩
    | true =>
      have he : p.tr = x'.q.bu := by simpa using hbq
      have HW2 := hide (HWR.out.trans (if_pos he))
      clear hbq he HWR
      obtain ⟨m, hm⟩ := HR5.out.pts k _ (putS_at HP.out 4)
      have a0 := hm.all.1
      have f0 := (HR5.out.frozen (k * 5)).1
      have hr6 := HR5.out.putS k (by rw [putS_length]; exact hltp) 6
      simp only [putS_twice] at hr6
      have HR6 := hide hr6
      have kc := keep_cell wd G (k * 5) (.int .i64 6)
      have K6 := hide (K5.out.more kc)
      have HA6 := hide (kc.blk HA5.out (fun e => by have := HGL.out; omega))
      have HC6 := hide (kc.blk HC5.out (fun e => by have := HGL.out; omega))
      have HZ6 : Hid ((wd.setCell ⟨G, k * 5, none⟩ (.int .i64 6)).heap.size = w.heap.size + 3) := by show _ = _; rw [← HZ5.out]; simp [World.setCell]
      clear hm kc hr6
      go_upto_region 9 with fail
      generalize wd.setCell ⟨G, k * 5, none⟩ (.int .i64 6) = w6 at *
      clear a0 f0 HR5 K5 HA5 HC5 HZ5
      have k7 := Keep.alloc (fun _ => False) w6 (.cells #[.int .i64 (k : Int)] 3)
      have hrow := row_one w6 k
      have hc7 := k7.blk HC6.out (fun f => f)
      have y0 := cell_blk hc7 0 (v := .slice none 0 0) rfl
      have f0 := frozen_blk hc7 0
      have kc := keep_cell (w6.alloc (.cells #[.int .i64 (k : Int)] 3)) (w.heap.size + 2) 0 (.slice (some ⟨w6.heap.size, 0, none⟩) 1 1)
      have HC7 := hide (set_blk hc7 0 (.slice (some ⟨w6.heap.size, 0, none⟩) 1 1))
      have HA7 := hide (kc.blk (k7.blk HA6.out (fun f => f)) (fun e => by omega))
      have HO7 := hide (ownsRow_keep hrow kc (fun i hi hh => row_far hrow hc7 (by decide) hh hi))
      have HR7 := hide ((HR6.out.new k7).keep kc (fun i hi => .inr ⟨.inr (by omega), fun e => by have := HPL.out; omega, fun e => by have := HGL.out; omega⟩))
      have K7 : Hid (Keep (fun k => k = P ∨ k = G ∨ w.heap.size ≤ k) w ((w6.alloc (.cells #[.int .i64 (k : Int)] 3)).setCell ⟨w.heap.size + 2, 0, none⟩ (.slice (some ⟨w6.heap.size, 0, none⟩) 1 1))) := ((K6.out.mono fun i hi => .inr (.inl hi)).more (k7.mono fun _ f => f.elim)).more (kc.mono fun i hi => .inr (.inr (by omega)))
      have HZ7 := hide HZ6.out
      clear kc k7 hrow hc7
      go_upto_region 10 with fail
      generalize (w6.alloc (.cells #[.int .i64 (k : Int)] 3)).setCell ⟨w.heap.size + 2, 0, none⟩ (.slice (some ⟨w6.heap.size, 0, none⟩) 1 1) = w7 at *
      generalize hDD : w6.heap.size = D at *
      clear y0 f0 HR6 K6 HA6 HC6 HZ6
      have M := hide (miss_fin HT.out HTP.out.1 HTP.out.2 HR7.out K7.out.size (some ⟨D, 0, none⟩) 1 [k] (ownsRow_base HO7.out (by have := HZ7.out; omega)) (by simp) HA7.out K7.out)
      simp only [show [k].length = 1 from rfl] at M
      have y0 := cell_blk HC7.out 0 (v := .slice (some ⟨D, 0, none⟩) 1 1) rfl
      have y1 := cell_blk HC7.out 1 (v := .slice none 0 0) rfl
      have y2 := cell_blk HC7.out 2 (v := .slice none 0 0) rfl
      have y3 := cell_blk HC7.out 3 (v := .int .i64 0) rfl
      generalize settleR (xs.map nx) ⟨R.stt, putS R.ps k 6⟩ = SR at *
      go_wp2_with fail
      go_at_call 28
      refine M.out.mono ?_
      rintro e w8 ⟨aa, ac, ba, bc, rfl, hblk, g1, g2, g3, g4⟩
      have HE := hide (And.intro g1 (And.intro g2 (And.intro g3 g4)))
      clear g1 g2 g3 g4 M y0 y1 y2 y3
      have f0 := frozen_blk hblk 0
      have f1 := frozen_blk hblk 1
      have f2 := frozen_blk hblk 2
      have f3 := frozen_blk hblk 3
      have y0 := cell_blk hblk 0 (v := .slice none 0 0) rfl
      have y1 := cell_blk hblk 1 (v := .slice none 0 0) rfl
      have y2 := cell_blk hblk 2 (v := .slice none 0 0) rfl
      have y3 := cell_blk hblk 3 (v := .int .i64 0) rfl
      clear hblk
      go_wp2_with fail
      obtain ⟨g1, g2, g3, g4⟩ := HE.out
      obtain rfl := HW2.out
      exact bodyPost_ret (res_chg2 rfl _ _ w.heap.size _ _ _ _ rfl g1) rfl ⟨_, rfl, g2, g3, g4⟩
  · have HWR : Hid (missR (xs.map nx) R i = ((Chg.none, refI R i [3]), R)) := by
      show _ = _
      unfold missR
      rw [if_pos hc]
    generalize missR (xs.map nx) R i = LR at *
    have hne : (refI R i [3] != 0) = true := by simpa using hc
    generalize refI R i [3] = q at *
    clear hc h hh k1 k2 b1
    go_enter Try.func25, Try.ntmps25
    go_wp2_with fail
    go_at_call 36
    refine RF.out.mono ?_
    rintro e w2 ⟨rfl, hw2⟩
    subst hw2
    clear RF z1 z2
    generalize (w.alloc (.cells #[.slice none 0 0, .slice none 0 0, .slice none 0 0, .int .i64 0] 45)).alloc (.cells #[.int .i64 3] 3) = w2 at *
    have hE := stp_end (d := []) (k := []) (r := []) HT.out HTP.out.1 HTP.out.2 w.heap.size (Nat.le_refl _) HA.out HR2.out 0 (World.ownsRow_nil _ _ _ _) (World.ownsRow_nil _ _ _ _) (World.ownsRow_nil _ _ _ _) (by simp) (by simp) (by simp) (K2.out.mono fun _ f => f.elim)
    have HE := hide hE
    have f0 := frozen_blk HA.out 0
    have f1 := frozen_blk HA.out 1
    have f2 := frozen_blk HA.out 2
    have f3 := frozen_blk HA.out 3
    have y0 := cell_blk HA.out 0 (v := .slice none 0 0) rfl
    have y1 := cell_blk HA.out 1 (v := .slice none 0 0) rfl
    have y2 := cell_blk HA.out 2 (v := .slice none 0 0) rfl
    have y3 := cell_blk HA.out 3 (v := .int .i64 0) rfl
    clear hE
    go_wp2_with fail
    obtain ⟨g1, g2, g3, g4⟩ := HE.out
    obtain rfl := HWR.out
    exact bodyPost_ret (res_chg2 rfl _ _ w.heap.size _ _ _ _ rfl g1) rfl ⟨_, rfl, g2, g3, g4⟩
end Rn
end Go.Proofs.Ytiackejbpcjmeaa

/- Package run: Finish. -/
namespace Go.Proofs.Ytiackejbpcjmeaa
namespace Rn
open Go.RowKit Gr

/-- the change is laid into its cell, and told -/
theorem stp_endU {T U : Nat → Prop} {w0 w5 : World} {P G : Nat} {nm : ByteArray} {dl : Int} {s : Option Addr × Nat × Nat} {xs : List No} {R : Rs} (hT : ∀ k, T k → k < w0.heap.size) (hP : T P) (hG : T G) (A : Nat) (hA : w0.heap.size ≤ A) {x0 x1 x2 x3 : Value} (hblk : w5.heap[A]? = some (.cells #[x0, x1, x2, x3] 45 (0, 0))) (h : RunAt U w5 P G nm dl s xs R) (hTU : ∀ k, T k → U k) (hUA : U A)
    {vd va vb : Value} {d k r : List Nat} (st : Int) (hd : w5.ownsRow w0.heap.size 3 1 vd d.length (iv d)) (ha : w5.ownsRow w0.heap.size 3 1 va k.length (iv k)) (hb : w5.ownsRow w0.heap.size 3 1 vb r.length (iv r)) (hld : d.length ≤ 100000) (hlk : k.length ≤ 100000) (hlr : r.length ≤ 100000) (hK : Keep (fun k => k = P ∨ k = G ∨ w0.heap.size ≤ k) w0 w5) :
    (put4 w5 A vd va vb (.int .i64 st)).heap[A]? = some (.cells #[vd, va, vb, .int .i64 st] 45 (0, 0)) ∧ ChgAt T (put4 w5 A vd va vb (.int .i64 st)) (.agg #[vd, va, vb, .int .i64 st]) ⟨d, k, r, st⟩ ∧ RunAt T (put4 w5 A vd va vb (.int .i64 st)) P G nm dl s xs R ∧ Keep (fun k => k = P ∨ k = G) w0 (put4 w5 A vd va vb (.int .i64 st)) := by
  have hPl := hT P hP
  have hGl := hT G hG
  have kk := put4_keep w5 A vd va vb (.int .i64 st)
  obtain ⟨sd, rfl, ld⟩ := ls_own (ownsRow_keep hd kk (fun i hi hh => row_far hd hblk (by decide) hh hi)) (by omega) hT
  obtain ⟨sa, rfl, la⟩ := ls_own (ownsRow_keep ha kk (fun i hi hh => row_far ha hblk (by decide) hh hi)) (by omega) hT
  obtain ⟨sb, rfl, lb⟩ := ls_own (ownsRow_keep hb kk (fun i hi hh => row_far hb hblk (by decide) hh hi)) (by omega) hT
  refine ⟨put4_blk hblk _ _ _ _, ⟨sd, sa, sb, rfl, ld, la, lb⟩, (h.keep kk (fun i hi => .inr ⟨hi ▸ hUA, fun e => by omega, fun e => by omega⟩)).wide (fun k hk => .inl (hTU k hk)) hP hG, ?_⟩
  have k2 := hK.more (kk.mono fun i hi => .inr (.inr (by omega)))
  exact ⟨k2.os, k2.tape, k2.output, k2.size, fun j hj hn => k2.block j hj fun hs => by
    rcases hs with h | h | h
    · exact hn (.inl h)
    · exact hn (.inr h)
    · omega⟩

/-- the last part of Miss: the change is handed to settleOn, and laid -/
theorem miss_finU {T U : Nat → Prop} {w w3 : World} {P G : Nat} {nm : ByteArray} {dl : Int} {s : Option Addr × Nat × Nat} {xs : List No} {R : Rs} (hT : ∀ k, T k → k < w.heap.size) (hP : T P) (hG : T G) (h : RunAt U w3 P G nm dl s xs R) (hTU : ∀ k, T k → U k) (hUA : U w.heap.size) (hUn : ∀ k, w3.heap.size ≤ k → U k) (hs : w.heap.size ≤ w3.heap.size) (da : Option Addr) (dc : Nat) (dead : List Nat) (hd : w3.ownsRow w.heap.size 3 1 (.slice da dead.length dc) dead.length (iv dead)) (hdl : dead.length ≤ 1000) (hA : w3.heap[w.heap.size]? = some (.cells #[.slice none 0 0, .slice none 0 0, .slice none 0 0, .int .i64 0] 45 (0, 0))) (hK : Keep (fun k => k = P ∨ k = G ∨ w.heap.size ≤ k) w w3) :
    Calls Try.prog 28 #[.pointer (some ⟨P, 0, none⟩), .agg #[.slice da dead.length dc, .slice none 0 0, .slice none 0 0, .int .i64 0]] w3 fun e w5 => ∃ aa ac ba bc, e = .returned (.agg #[.slice da dead.length dc, .slice aa (settleR (xs.map nx) R).1.1.length ac, .slice ba (settleR (xs.map nx) R).1.2.length bc, .int .i64 (settleR (xs.map nx) R).2.stt]) ∧ w5.heap[w.heap.size]? = some (.cells #[.slice none 0 0, .slice none 0 0, .slice none 0 0, .int .i64 0] 45 (0, 0)) ∧
      (put4 w5 w.heap.size (.slice da dead.length dc) (.slice aa (settleR (xs.map nx) R).1.1.length ac) (.slice ba (settleR (xs.map nx) R).1.2.length bc) (.int .i64 (settleR (xs.map nx) R).2.stt)).heap[w.heap.size]? = some (.cells #[.slice da dead.length dc, .slice aa (settleR (xs.map nx) R).1.1.length ac, .slice ba (settleR (xs.map nx) R).1.2.length bc, .int .i64 (settleR (xs.map nx) R).2.stt] 45 (0, 0)) ∧
      ChgAt T (put4 w5 w.heap.size (.slice da dead.length dc) (.slice aa (settleR (xs.map nx) R).1.1.length ac) (.slice ba (settleR (xs.map nx) R).1.2.length bc) (.int .i64 (settleR (xs.map nx) R).2.stt)) (.agg #[.slice da dead.length dc, .slice aa (settleR (xs.map nx) R).1.1.length ac, .slice ba (settleR (xs.map nx) R).1.2.length bc, .int .i64 (settleR (xs.map nx) R).2.stt]) ⟨dead, (settleR (xs.map nx) R).1.1, (settleR (xs.map nx) R).1.2, (settleR (xs.map nx) R).2.stt⟩ ∧
      RunAt T (put4 w5 w.heap.size (.slice da dead.length dc) (.slice aa (settleR (xs.map nx) R).1.1.length ac) (.slice ba (settleR (xs.map nx) R).1.2.length bc) (.int .i64 (settleR (xs.map nx) R).2.stt)) P G nm dl s xs (settleR (xs.map nx) R).2 ∧ Keep (fun k => k = P ∨ k = G) w (put4 w5 w.heap.size (.slice da dead.length dc) (.slice aa (settleR (xs.map nx) R).1.1.length ac) (.slice ba (settleR (xs.map nx) R).1.2.length bc) (.int .i64 (settleR (xs.map nx) R).2.stt)) := by
  have hPl := hT P hP
  have hGl := hT G hG
  have hl64 : xs.length ≤ 64 := h.val.1
  have hsl := settle_len (xs.map nx) R
  rw [List.length_map] at hsl
  obtain ⟨cP, hbP⟩ := h.blk
  obtain ⟨cG, hbG⟩ := h.prt
  refine (settleOn_core h hUn da none none dead.length dc 0 0 0 0 [] w.heap.size hs (World.ownsRow_nil _ _ _ _) (by simp) (fun k hk => by simp [Value.ownBlock] at hk)).mono ?_
  rintro e w5 ⟨va, vb, rfl, hR5, hva, hvb, hk5⟩
  obtain ⟨aa, ac, rfl⟩ := ownsRow_shape hva
  rw [List.nil_append] at hvb
  obtain ⟨ba, bc, rfl⟩ := ownsRow_shape hvb
  have hblk := hk5.blk hA (fun e => by
    rcases e with e | e | e
    · omega
    · omega
    · simp [Value.ownBlock] at e)
  have hd5 := ownsRow_keep hd hk5 (fun i hi hh => by
    rcases hi with e | e | e
    · exact row_far hd hbP (by decide) hh e
    · exact row_far hd hbG (by decide) hh e
    · simp [Value.ownBlock] at e)
  have hE := stp_endU hT hP hG w.heap.size (Nat.le_refl _) hblk hR5 hTU hUA (settleR (xs.map nx) R).2.stt hd5 (ownsRow_base hva hs) hvb (by omega) (by omega) (by omega) (hK.more (hk5.mono fun i hi => by
    rcases hi with h | h | h
    · exact .inl h
    · exact .inr (.inl h)
    · simp [Value.ownBlock] at h))
  exact ⟨aa, ac, ba, bc, rfl, hblk, hE.1, hE.2.1, hE.2.2.1, hE.2.2.2⟩


set_option maxRecDepth 100000 in
set_option maxHeartbeats 4000000 in
theorem finish_any {T : Nat → Prop} {w : World} {P G : Nat} {nm : ByteArray} {dl : Int} {s : Option Addr × Nat × Nat} {xs : List No} {R : Rs} (h : RunAt T w P G nm dl s xs R) (hT : ∀ k, T k → k < w.heap.size) (i : Int) (ra : Option Addr) (rn rc : Nat) (res : List Nat) (hr : Rd w ra rn res) (h0 : ra = none → rc = 0) (hrn : rn ≤ 140737488355328) :
    Calls Try.prog 20 #[.pointer (some ⟨P, 0, none⟩), .int .i64 i, .slice ra rn rc] w (Stp T w P G nm dl s xs (finishR (xs.map nx) R i res)) := by
  have HT := hide hT
  have HTP : Hid (T P ∧ T G) := ⟨h.tp, h.tg⟩
  have HPL := hide (hT P h.tp)
  have HGL := hide (hT G h.tg)
  have hl64 : xs.length ≤ 64 := h.val.1
  have HL64 := hide hl64
  have k1 := Keep.alloc (fun _ => False) w (.cells #[.slice none 0 0, .slice none 0 0, .slice none 0 0, .int .i64 0] 45)
  have b1 := heap_alloc_new w (.cells #[.slice none 0 0, .slice none 0 0, .slice none 0 0, .int .i64 0] 45)
  have z1 : (w.alloc (.cells #[.slice none 0 0, .slice none 0 0, .slice none 0 0, .int .i64 0] 45)).heap.size = w.heap.size + 1 := by simp
  have hh := (h.wide (U := fun k => T k ∨ w.heap.size ≤ k) (fun _ h => h) (.inl h.tp) (.inl h.tg)).new k1
  have HH := hide hh
  have HA1 := hide (has_any hh i)
  have hrl : rn = res.length := hr.1
  by_cases hA : hasI R.ps.length i = true ∧ 64 < res.length
  · have HWR : Hid (finishR (xs.map nx) R i res = ((Chg.none, 1), R)) := by
      show _ = _
      unfold finishR
      rw [if_pos (by rw [hA.1, decide_eq_true hA.2]; rfl)]
    have hgt : (64 : Int) < (rn : Int) := by omega
    have hb : Below w.heap.size w w := Below.refl _ _
    rw [hA.1] at HA1
    generalize finishR (xs.map nx) R i res = LR at *
    have HAb := hide b1
    have K1 := hide k1
    clear hA h hh k1 b1 hr h0 hrl
    go_enter Try.func20, Try.ntmps20
    go_wp2_with fail
    go_at_call 37
    refine HA1.out.mono ?_
    rintro e w1 ⟨rfl, hw1⟩
    subst hw1
    clear HA1 z1
    generalize w.alloc (.cells #[.slice none 0 0, .slice none 0 0, .slice none 0 0, .int .i64 0] 45) = w1 at *
    have hE := stp_end (d := []) (k := []) (r := []) HT.out HTP.out.1 HTP.out.2 w.heap.size (Nat.le_refl _) HAb.out HH.out 0 (World.ownsRow_nil _ _ _ _) (World.ownsRow_nil _ _ _ _) (World.ownsRow_nil _ _ _ _) (by simp) (by simp) (by simp) (K1.out.mono fun _ f => f.elim)
    have HE := hide hE
    have f0 := frozen_blk HAb.out 0
    have f1 := frozen_blk HAb.out 1
    have f2 := frozen_blk HAb.out 2
    have f3 := frozen_blk HAb.out 3
    have y0 := cell_blk HAb.out 0 (v := .slice none 0 0) rfl
    have y1 := cell_blk HAb.out 1 (v := .slice none 0 0) rfl
    have y2 := cell_blk HAb.out 2 (v := .slice none 0 0) rfl
    have y3 := cell_blk HAb.out 3 (v := .int .i64 0) rfl
    clear hE
    go_wp2_with fail
    obtain ⟨g1, g2, g3, g4⟩ := HE.out
    obtain rfl := HWR.out
    exact bodyPost_ret (res_chg2 rfl _ _ w.heap.size _ _ _ _ rfl g1) rfl ⟨_, rfl, g2, g3, g4⟩
  have HFN : Hid (finishR (xs.map nx) R i res = if refI R i [3] ≠ 0 then ((Chg.none, refI R i [3]), R) else settled (xs.map nx) [] [] ⟨R.stt, R.ps.modify i.toNat fun p => ⟨5, p.tr, res⟩⟩) := by
    show _ = _
    unfold finishR
    rw [if_neg]
    rw [Bool.and_eq_true, decide_eq_true_eq]
    exact hA
  have k2 := Keep.alloc (fun _ => False) (w.alloc (.cells #[.slice none 0 0, .slice none 0 0, .slice none 0 0, .int .i64 0] 45)) (.cells #[.int .i64 3] 3)
  have RF := hide (refuses_any (hh.new k2) i (some ⟨(w.alloc (.cells #[.slice none 0 0, .slice none 0 0, .slice none 0 0, .int .i64 0] 45)).heap.size, 0, none⟩, 1, 1) [3] (rdz_one _ 3))
  have HR2 := hide (hh.new k2)
  have K2 := hide (k1.more k2)
  have HA := hide (k2.blk b1 (fun f => f))
  rw [z1] at RF
  have HLE : Hid (hasI R.ps.length i = true → ¬ (64 : Int) < (rn : Int)) := fun hh hlt => hA ⟨hh, by omega⟩
  have HRL := hide hrl
  clear hA hrl
  by_cases hc : refI R i [3] = 0
  · obtain ⟨hi, hs⟩ := refI_zero hc
    have hle := HLE.out hi
    rw [hi] at HA1
    obtain ⟨p, hp, e1, e2, hii⟩ := at_of hi
    have HWR : Hid (finishR (xs.map nx) R i res = ((⟨[], (settleR (xs.map nx) ⟨R.stt, R.ps.set i.toNat ⟨5, p.tr, res⟩⟩).1.1, (settleR (xs.map nx) ⟨R.stt, R.ps.set i.toNat ⟨5, p.tr, res⟩⟩).1.2, (settleR (xs.map nx) ⟨R.stt, R.ps.set i.toNat ⟨5, p.tr, res⟩⟩).2.stt⟩, 0), (settleR (xs.map nx) ⟨R.stt, R.ps.set i.toNat ⟨5, p.tr, res⟩⟩).2)) := by
      show _ = _
      rw [HFN.out, if_neg (by simp [hc])]
      unfold settled
      rw [modify_set hp]
      simp only [List.nil_append]
    rw [hc] at RF
    have hlt : i.toNat < xs.length := by rw [← h.len]; exact (List.getElem?_eq_some_iff.1 hp).1
    generalize finishR (xs.map nx) R i res = LR at *
    obtain ⟨k, rfl⟩ : ∃ k : Nat, i = (k : Int) := ⟨i.toNat, hii.symm⟩
    simp only [Int.toNat_natCast] at *
    have HP := hide hp
    have HRD := hide ((hr.stay (S := fun _ => False) k1 (fun _ _ _ f => f)).stay (S := fun _ => False) k2 (fun _ _ _ f => f))
    -- the run, told apart from all that is new but the result
    have HRT := hide ((h.wide (U := fun k => T k ∨ k = w.heap.size) (fun k hk => hk.elim .inl fun e => .inr (Nat.le_of_eq e.symm)) (.inl h.tp) (.inl h.tg)).new (k1.more k2))
    clear hc hi hs e1 e2 hii h hh k1 k2 b1 hr HFN HLE HR2 HH hp
    go_enter Try.func20, Try.ntmps20
    go_wp2_with fail
    go_at_call 37
    refine HA1.out.mono ?_
    rintro e w1 ⟨rfl, hw1⟩
    subst hw1
    clear HA1
    go_wp2_with fail
    go_at_call 36
    refine RF.out.mono ?_
    rintro e w2 ⟨rfl, hw2⟩
    subst hw2
    clear RF z1
    generalize (w.alloc (.cells #[.slice none 0 0, .slice none 0 0, .slice none 0 0, .int .i64 0] 45)).alloc (.cells #[.int .i64 3] 3) = w2 at *
    obtain ⟨c, _, _, _, _, d4⟩ := HRT.out.cells
    have CL := hide (clone_any ra rn rc res w2 HRD.out h0 hrn)
    go_upto_region 7 with fail
    go_wp2_with fail
    go_at_call 38
    refine CL.out.mono ?_
    rintro e w3 ⟨v, rfl, ho, hb⟩
    have k3 : Keep (fun _ => False) w2 w3 := Keep.ofBelow hb (Nat.le_refl _)
    have hd8 : ∀ d ∈ res, d < 256 := HRD.out.2.2.1
    obtain ⟨va, vc, rfl, hrv, hcv, _, hbv⟩ := ownsRow_rdB ho hd8 (by rw [← HRL.out]; exact HRD.out.2.1)
    have hr3 := HRT.out.new k3
    obtain ⟨m, hm⟩ := hr3.pts k p HP.out
    have a0 := hm.all.1
    have a4 := hm.all.2.2.2.2
    have f0 := (hr3.frozen (k * 5)).1
    have f4 := (hr3.frozen (k * 5 + 4)).1
    have hr4 := hr3.put' k p ⟨5, p.tr, p.rs⟩ m m HP.out hm 0 (.int .i64 5) (by decide) rfl hm.rd hm.off hm.cap
    have kc1 := keep_cell w3 G (k * 5) (.int .i64 5)
    have hp4 : (R.ps.set k ⟨5, p.tr, p.rs⟩)[k]? = some ⟨5, p.tr, p.rs⟩ := by
      rw [List.getElem?_set, if_pos rfl, if_pos (List.getElem?_eq_some_iff.1 HP.out).1]
    obtain ⟨m4, hm4⟩ := hr4.pts k _ hp4
    have hz2 : w.heap.size + 1 ≤ w2.heap.size := by have := K2.out.size; have := (Array.getElem?_eq_some_iff.1 HA.out).1; omega
    have hoff : Off (fun k => T k ∨ k = w.heap.size) (va, res.length, vc) := .inr fun g off e ht => by
      obtain ⟨g', e', hg'⟩ := hbv _ e
      injection e' with e1 e2
      subst e1
      rcases ht with ht | ht
      · have := HT.out g ht; omega
      · omega
    have hrd4 := hrv.stay kc1 (fun b off e hb => by
      obtain ⟨g', e', hg'⟩ := hbv _ e
      injection e' with e1 e2
      subst e1
      have := HGL.out
      omega)
    have hr5 := hr4.put' k _ ⟨5, p.tr, res⟩ m4 (va, res.length, vc) hp4 hm4 4 (.slice va res.length vc) (by decide) rfl hrd4 hoff hcv
    simp only [List.set_set] at hr5
    have kc2 := keep_cell (w3.setCell ⟨G, k * 5, none⟩ (.int .i64 5)) G (k * 5 + 4) (.slice va res.length vc)
    have ha3 := kc2.blk (kc1.blk (k3.blk HA.out (fun f => f)) (fun e => by have := HGL.out; omega)) (fun e => by have := HGL.out; omega)
    have K5 := hide (((K2.out.more k3).mono (T := fun k => k = G) fun _ f => f.elim).more (kc1.more kc2))
    have HR5 := hide hr5
    have HA5 := hide ha3
    have HZ5 : Hid (w.heap.size + 1 ≤ ((w3.setCell ⟨G, k * 5, none⟩ (.int .i64 5)).setCell ⟨G, k * 5 + 4, none⟩ (.slice va res.length vc)).heap.size) := by have := (k3.size); have := kc1.size; have := kc2.size; show _ ≤ _; omega
    clear CL ho hb k3 hd8 hrv hcv hbv hr3 hm hr4 kc1 hp4 hm4 hoff hrd4 hr5 kc2 ha3 HRT HA K2 HRD d4 hz2
    go_upto_region 8 with fail
    generalize (w3.setCell ⟨G, k * 5, none⟩ (.int .i64 5)).setCell ⟨G, k * 5 + 4, none⟩ (.slice va res.length vc) = w5 at *
    clear a0 a4 f0 f4
    have hw5 := HR5.out.wide (U := fun k => (T k ∨ k = w.heap.size) ∨ w5.heap.size ≤ k) (fun _ h => h) (.inl HR5.out.tp) (.inl HR5.out.tg)
    have M := hide (miss_finU HT.out HTP.out.1 HTP.out.2 hw5 (fun k hk => .inl (.inl hk)) (.inl (.inr rfl)) (fun k hk => .inr hk) (by have := HZ5.out; omega) none 0 [] (World.ownsRow_nil _ _ _ _) (by simp) HA5.out (K5.out.mono fun i hi => .inr (.inl hi)))
    simp only [List.length_nil] at M
    generalize settleR (xs.map nx) ⟨R.stt, R.ps.set k ⟨5, p.tr, res⟩⟩ = SR at *
    clear hw5 HR5 HA5 K5
    go_wp2_with fail
    go_at_call 28
    refine M.out.mono ?_
    rintro e w6 ⟨aa, ac, ba, bc, rfl, hblk, g1, g2, g3, g4⟩
    have HE := hide (And.intro g1 (And.intro g2 (And.intro g3 g4)))
    clear g1 g2 g3 g4 M
    have f0 := frozen_blk hblk 0
    have f1 := frozen_blk hblk 1
    have f2 := frozen_blk hblk 2
    have f3 := frozen_blk hblk 3
    have y0 := cell_blk hblk 0 (v := .slice none 0 0) rfl
    have y1 := cell_blk hblk 1 (v := .slice none 0 0) rfl
    have y2 := cell_blk hblk 2 (v := .slice none 0 0) rfl
    have y3 := cell_blk hblk 3 (v := .int .i64 0) rfl
    clear hblk
    go_wp2_with fail
    obtain ⟨g1, g2, g3, g4⟩ := HE.out
    obtain rfl := HWR.out
    exact bodyPost_ret (res_chg2 rfl _ _ w.heap.size _ _ _ _ rfl g1) rfl ⟨_, rfl, g2, g3, g4⟩
  · have HWR : Hid (finishR (xs.map nx) R i res = ((Chg.none, refI R i [3]), R)) := by
      show _ = _
      rw [HFN.out, if_pos hc]
    generalize finishR (xs.map nx) R i res = LR at *
    have hne : (refI R i [3] != 0) = true := by simpa using hc
    generalize refI R i [3] = q at *
    clear hc h hh k1 k2 b1 HFN hr h0 HH
    generalize hq9 : hasI R.ps.length i = hb9 at *
    have hle : hb9 = true → ¬ (64 : Int) < (rn : Int) := HLE.out
    cases hb9
    all_goals (try replace hle := hle rfl)
    all_goals clear hq9 HLE
    all_goals (
    go_enter Try.func20, Try.ntmps20
    go_wp2_with fail
    go_at_call 37
    refine HA1.out.mono ?_
    rintro e w1 ⟨rfl, hw1⟩
    subst hw1
    clear HA1
    go_wp2_with fail
    go_at_call 36
    refine RF.out.mono ?_
    rintro e w2 ⟨rfl, hw2⟩
    subst hw2
    clear RF z1
    generalize (w.alloc (.cells #[.slice none 0 0, .slice none 0 0, .slice none 0 0, .int .i64 0] 45)).alloc (.cells #[.int .i64 3] 3) = w2 at *
    have hE := stp_end (d := []) (k := []) (r := []) HT.out HTP.out.1 HTP.out.2 w.heap.size (Nat.le_refl _) HA.out HR2.out 0 (World.ownsRow_nil _ _ _ _) (World.ownsRow_nil _ _ _ _) (World.ownsRow_nil _ _ _ _) (by simp) (by simp) (by simp) (K2.out.mono fun _ f => f.elim)
    have HE := hide hE
    have f0 := frozen_blk HA.out 0
    have f1 := frozen_blk HA.out 1
    have f2 := frozen_blk HA.out 2
    have f3 := frozen_blk HA.out 3
    have y0 := cell_blk HA.out 0 (v := .slice none 0 0) rfl
    have y1 := cell_blk HA.out 1 (v := .slice none 0 0) rfl
    have y2 := cell_blk HA.out 2 (v := .slice none 0 0) rfl
    have y3 := cell_blk HA.out 3 (v := .int .i64 0) rfl
    clear hE
    go_wp2_with fail
    obtain ⟨g1, g2, g3, g4⟩ := HE.out
    obtain rfl := HWR.out
    exact bodyPost_ret (res_chg2 rfl _ _ w.heap.size _ _ _ _ rfl g1) rfl ⟨_, rfl, g2, g3, g4⟩)
end Rn
end Go.Proofs.Ytiackejbpcjmeaa
