/- Codec: nodeFields, planFields made. -/
import Derived.Test.YtbjcckfhfbjchaaGreatCDv
namespace Go.Proofs.YtbjcckfhfbjchaaGreat
namespace Cd
open Go.RowKit Go.Deep

/-- three new blocks, stored one behind the other -/
theorem st3 (w : World) (t1 t2 t3 : TypeId) (z1 z2 z3 v1 v2 v3 : Array Value) :
    let W := ((w.alloc (.cells z1 t1)).alloc (.cells z2 t2)).alloc (.cells z3 t3)
    W.heap[w.heap.size]? = some (.cells z1 t1 (0, 0)) ∧ (W.setRow w.heap.size v1).heap[w.heap.size + 1]? = some (.cells z2 t2 (0, 0)) ∧ ((W.setRow w.heap.size v1).setRow (w.heap.size + 1) v2).heap[w.heap.size + 1 + 1]? = some (.cells z3 t3 (0, 0)) ∧
    ((((W.setRow w.heap.size v1).setRow (w.heap.size + 1) v2).setRow (w.heap.size + 1 + 1) v3).heap[w.heap.size]? = some (.cells v1 t1 (0, 0)) ∧ (((W.setRow w.heap.size v1).setRow (w.heap.size + 1) v2).setRow (w.heap.size + 1 + 1) v3).heap[w.heap.size + 1]? = some (.cells v2 t2 (0, 0)) ∧ (((W.setRow w.heap.size v1).setRow (w.heap.size + 1) v2).setRow (w.heap.size + 1 + 1) v3).heap[w.heap.size + 1 + 1]? = some (.cells v3 t3 (0, 0)) ∧
    Below w.heap.size w (((W.setRow w.heap.size v1).setRow (w.heap.size + 1) v2).setRow (w.heap.size + 1 + 1) v3)) := by
  intro W
  obtain ⟨h1, h2, h3⟩ := blk3 w (.cells z1 t1) (.cells z2 t2) (.cells z3 t3)
  have b := bel3 w (.cells z1 t1) (.cells z2 t2) (.cells z3 t3)
  have h1 : W.heap[w.heap.size]? = some (.cells z1 t1 (0, 0)) := h1
  have h2 : W.heap[w.heap.size + 1]? = some (.cells z2 t2 (0, 0)) := h2
  have h3 : W.heap[w.heap.size + 1 + 1]? = some (.cells z3 t3 (0, 0)) := h3
  have b : Below w.heap.size w W := b
  have e1 := setRow_heap W w.heap.size _ v1 _ _ h1
  have k1 := keep_row W w.heap.size v1
  have i2 := k1.blk h2 (by show ¬ _ = _; omega)
  have i3 := k1.blk h3 (by show ¬ _ = _; omega)
  have e2 := setRow_heap (W.setRow w.heap.size v1) (w.heap.size + 1) _ v2 _ _ i2
  have k2 := keep_row (W.setRow w.heap.size v1) (w.heap.size + 1) v2
  have j3 := k2.blk i3 (by show ¬ _ = _; omega)
  have j1 := k2.blk e1 (by show ¬ _ = _; omega)
  have e3 := setRow_heap ((W.setRow w.heap.size v1).setRow (w.heap.size + 1) v2) (w.heap.size + 1 + 1) _ v3 _ _ j3
  have k3 := keep_row ((W.setRow w.heap.size v1).setRow (w.heap.size + 1) v2) (w.heap.size + 1 + 1) v3
  have s1 := k1.size
  have s2 := k2.size
  refine ⟨h1, i2, j3, k3.blk j1 (by show ¬ _ = _; omega), k3.blk e2 (by show ¬ _ = _; omega), e3, b.trans ((k1.below b.size fun i e => by have e : i = _ := e; omega).trans ((k2.below (Nat.le_trans b.size s1) fun i e => by have e : i = _ := e; omega).trans (k3.below (Nat.le_trans b.size (Nat.le_trans s1 s2)) fun i e => by have e : i = _ := e; omega)))⟩
theorem st2 (w : World) (t1 t2 : TypeId) (z1 z2 v1 v2 : Array Value) :
    let W := (w.alloc (.cells z1 t1)).alloc (.cells z2 t2)
    W.heap[w.heap.size]? = some (.cells z1 t1 (0, 0)) ∧ (W.setRow w.heap.size v1).heap[w.heap.size + 1]? = some (.cells z2 t2 (0, 0)) ∧
    (((W.setRow w.heap.size v1).setRow (w.heap.size + 1) v2).heap[w.heap.size]? = some (.cells v1 t1 (0, 0)) ∧ ((W.setRow w.heap.size v1).setRow (w.heap.size + 1) v2).heap[w.heap.size + 1]? = some (.cells v2 t2 (0, 0)) ∧ Below w.heap.size w ((W.setRow w.heap.size v1).setRow (w.heap.size + 1) v2)) := by
  intro W
  obtain ⟨h1, h2⟩ := blk2 w (.cells z1 t1) (.cells z2 t2)
  have b : Below w.heap.size w W := ((Below.refl _ _).alloc (Nat.le_refl _) _).alloc (by simp) _
  have h1 : W.heap[w.heap.size]? = some (.cells z1 t1 (0, 0)) := h1
  have h2 : W.heap[w.heap.size + 1]? = some (.cells z2 t2 (0, 0)) := h2
  have e1 := setRow_heap W w.heap.size _ v1 _ _ h1
  have k1 := keep_row W w.heap.size v1
  have i2 := k1.blk h2 (by show ¬ _ = _; omega)
  have e2 := setRow_heap (W.setRow w.heap.size v1) (w.heap.size + 1) _ v2 _ _ i2
  have k2 := keep_row (W.setRow w.heap.size v1) (w.heap.size + 1) v2
  have s1 := k1.size
  refine ⟨h1, i2, k2.blk e1 (by show ¬ _ = _; omega), e2, b.trans ((k1.below b.size fun i e => by have e : i = _ := e; omega).trans (k2.below (Nat.le_trans b.size s1) fun i e => by have e : i = _ := e; omega))⟩
theorem st1 (w : World) (t1 : TypeId) (z1 v1 : Array Value) :
    (w.alloc (.cells z1 t1)).heap[w.heap.size]? = some (.cells z1 t1 (0, 0)) ∧ ((w.alloc (.cells z1 t1)).setRow w.heap.size v1).heap[w.heap.size]? = some (.cells v1 t1 (0, 0)) ∧ Below w.heap.size w ((w.alloc (.cells z1 t1)).setRow w.heap.size v1) := by
  have h1 := heap_alloc_new w (.cells z1 t1)
  have b : Below w.heap.size w (w.alloc (.cells z1 t1)) := (Below.refl _ _).alloc (Nat.le_refl _) _
  exact ⟨h1, setRow_heap _ _ _ v1 _ _ h1, b.trans ((keep_row _ _ v1).below b.size fun i e => by have e : i = _ := e; omega)⟩
theorem oneF (x y : Value) (hx : x.oneCell' = true) (hy : y.oneCell' = true) : (#[x, y] : Array Value).all (·.oneCell') = true := by simp [hx, hy]
section
variable {F : Nat} {w w' : World} {g b m l o k : Nat} {most least up : Int} {t : TypeId}
theorem nil_blk {x y : Value} {T : TypeId} (hg : w.heap[g]? = some (.cells #[.nilFunc, .nilFunc] t (0, 0))) (h : w.heap[b]? = some (.cells #[x, y] T (0, 0))) (hx : x ≠ .nilFunc) : ¬ b = g := fun e => by
  subst e
  rw [h] at hg
  injection hg with hg
  injection hg with hg
  injection hg with hg
  injection hg with hg
  exact hx hg
theorem nil_cel {x : Value} (hg : w.heap[g]? = some (.cells #[.nilFunc, .nilFunc] t (0, 0))) (h : w.cell? ⟨m, 0, none⟩ = some x) (hx : x ≠ .nilFunc) : ¬ m = g := fun e => by
  subst e
  rw [cell_blk hg 0 rfl] at h
  injection h with h
  exact hx h.symm
theorem FS.off (h : FS F w b m most) (hg : w.heap[g]? = some (.cells #[.nilFunc, .nilFunc] t (0, 0))) (kk : Keep (fun k => k = g) w w') : FS F w' b m most :=
  ⟨kk.blk h.blk (nil_blk hg h.blk (by intro e; cases e)), kk.cell h.cel (nil_cel hg h.cel (by intro e; cases e)), h.hb, h.hm⟩
theorem FI.off (h : FI F w b l m least most) (hg : w.heap[g]? = some (.cells #[.nilFunc, .nilFunc] t (0, 0))) (kk : Keep (fun k => k = g) w w') : FI F w' b l m least most :=
  ⟨kk.blk h.blk (nil_blk hg h.blk (by intro e; cases e)), kk.cell h.ce0 (nil_cel hg h.ce0 (by intro e; cases e)), kk.cell h.cel (nil_cel hg h.cel (by intro e; cases e)), h.hb, h.hl, h.hm⟩
theorem FL.off (h : FL F w b m o l k most least up) (hg : w.heap[g]? = some (.cells #[.nilFunc, .nilFunc] t (0, 0))) (kk : Keep (fun k => k = g) w w') : FL F w' b m o l k most least up :=
  ⟨kk.blk h.blk (nil_blk hg h.blk (by intro e; cases e)), kk.cell h.cel (nil_cel hg h.cel (by intro e; cases e)), kk.blk h.obk (nil_blk hg h.obk (by intro e; cases e)), kk.cell h.ce0 (nil_cel hg h.ce0 (by intro e; cases e)), kk.cell h.ce1 (nil_cel hg h.ce1 (by intro e; cases e)), h.hb, h.hm, h.ho, h.hl, h.hk⟩
theorem NF.off {b1 b2 b3 b4 b5 b6 : Nat} (h : NF F w b1 b2 b3 b4 b5 b6) (hg : w.heap[g]? = some (.cells #[.nilFunc, .nilFunc] t (0, 0))) (kk : Keep (fun k => k = g) w w') : NF F w' b1 b2 b3 b4 b5 b6 := by
  obtain ⟨m1, l2, m2, l3, m3, l4, m4, l5, m5, m6, o6, l6, k6, h1, h2, h3, h4, h5, h6⟩ := h.ex
  exact ⟨m1, l2, m2, l3, m3, l4, m4, l5, m5, m6, o6, l6, k6, h1.off hg kk, h2.off hg kk, h3.off hg kk, h4.off hg kk, h5.off hg kk, h6.off hg kk⟩
end
theorem sizeFS : (Tryz.prog.info? 109).map (·.size) = some 2 := by kernel_rfl
theorem sizeFI : (Tryz.prog.info? 90).map (·.size) = some 2 := by kernel_rfl
theorem sizeFL : (Tryz.prog.info? 158).map (·.size) = some 2 := by kernel_rfl
theorem below_keep {w w' : World} {B : Nat} (h : Below B w w') (hB : w.heap.size ≤ B) : Keep (fun _ => False) w w' := Keep.ofBelow h hB
set_option maxRecDepth 10000 in
set_option maxHeartbeats 4000000 in
theorem nodeFields_any (w : World) :
    Calls Tryz.prog 56 #[] w fun en w' => ∃ b1 b2 b3 b4 b5 b6, en = .returned (.agg #[.func (.func 123) #[] (capN b1 b2 b3 b4 b5 b6), .func (.func 125) #[] (capN b1 b2 b3 b4 b5 b6)]) ∧ NF w.heap.size w' b1 b2 b3 b4 b5 b6 ∧ Below w.heap.size w w' := by
  have hmf : ∀ (fn : Fn) (first cap : Array Value) (w : World), (Instr.makeFunc fn first cap).run Tryz.prog w = .ok (.func fn first cap) w := fun _ _ _ _ => rfl
  go_enter Tryz.func56, Tryz.ntmps56
  go_upto_region 1 with fail
  have hb0 : Below w.heap.size w (w.alloc (.cells #[.nilFunc, .nilFunc] 119)) := (Below.refl _ _).alloc (Nat.le_refl _) _
  have hx0 := heap_alloc_new w (.cells #[.nilFunc, .nilFunc] 119)
  generalize w.alloc (.cells #[.nilFunc, .nilFunc] 119) = w0 at *
  have hz0 := blk_lt hx0
  have HX0 := hide hx0
  have N0 : w.heap.size ≤ w0.heap.size := hb0.size
  clear hx0
  go_wp2_with fail
  refine (names_any _).mono ?_
  rintro e w1 ⟨m1, rfl, hm1, hlm1, hb1⟩
  have HM1 := hide hm1
  have HB1 := hide hb1
  have N1 := Nat.le_trans N0 hb1.size
  have L1 := hide (Nat.le_trans N0 hlm1)
  clear hm1 hlm1 hb1
  go_wp2_with fail
  refine (lanes_any _).mono ?_
  rintro e w2 ⟨l2, m2, rfl, hl2, hm2, t1, t2, hb2⟩
  have N2 := Nat.le_trans N1 hb2.size
  have L2 := hide (And.intro (Nat.le_trans N1 t1) (Nat.le_trans N1 t2))
  clear t1 t2
  have HM2 := hide (And.intro hl2 hm2)
  have HB2 := hide hb2
  clear hl2 hm2 hb2
  go_wp2_with fail
  refine (Numbers_any 1 100 _).mono ?_
  rintro e w3 ⟨l3, m3, rfl, hl3, hm3, t1, t2, hb3⟩
  have N3 := Nat.le_trans N2 hb3.size
  have L3 := hide (And.intro (Nat.le_trans N2 t1) (Nat.le_trans N2 t2))
  clear t1 t2
  have HM3 := hide (And.intro hl3 hm3)
  have HB3 := hide hb3
  clear hl3 hm3 hb3
  obtain ⟨y1, y2, y3, y4, y5, y6, y7⟩ := st3 w3 109 90 90 #[.nilFunc, .nilFunc] #[.nilFunc, .nilFunc] #[.nilFunc, .nilFunc] (fS m1) (fI l2 m2) (fI l3 m3)
  have Y1 := hide y1
  have Y2 := hide y2
  have Y3 := hide y3
  have Y4 := hide y4
  have Y5 := hide y5
  have Y6 := hide y6
  have Y7 := hide y7
  clear y1 y2 y3 y4 y5 y6 y7
  have hO1 : Hid ((fS m1).all (·.oneCell') = true) := oneF _ _ rfl rfl
  have hO2 : Hid ((fI l2 m2).all (·.oneCell') = true) := oneF _ _ rfl rfl
  have hO3 : Hid ((fI l3 m3).all (·.oneCell') = true) := oneF _ _ rfl rfl
  go_upto_region 2 with (first
    | (refine wpList_store_row rfl 90 _ _ rfl (w3.heap.size + 1 + 1) (fI l3 m3) rfl rfl 90 _ Y3.out sizeFI rfl hO3.out ?_)
    | (refine wpList_store_row rfl 90 _ _ rfl (w3.heap.size + 1) (fI l2 m2) rfl rfl 90 _ Y2.out sizeFI rfl hO2.out ?_)
    | (refine wpList_store_row rfl 109 _ _ rfl w3.heap.size (fS m1) rfl rfl 109 _ Y1.out sizeFS rfl hO1.out ?_))
  have kk1 := below_keep HB2.out (Nat.le_refl _)
  have kk2 := below_keep HB3.out (Nat.le_refl _)
  have kk3 := below_keep Y7.out (Nat.le_refl _)
  have G1 : Hid (FS w.heap.size _ w3.heap.size m1 40) := ⟨Y4.out, kk3.cell (kk2.cell (kk1.cell HM1.out (fun f => f)) (fun f => f)) (fun f => f), N3, L1.out⟩
  have G2 : Hid (FI w.heap.size _ (w3.heap.size + 1) l2 m2 0 15) := ⟨Y5.out, kk3.cell (kk2.cell HM2.out.1 (fun f => f)) (fun f => f), kk3.cell (kk2.cell HM2.out.2 (fun f => f)) (fun f => f), by omega, L2.out.1, L2.out.2⟩
  have G3 : Hid (FI w.heap.size _ (w3.heap.size + 1 + 1) l3 m3 1 100) := ⟨Y6.out, kk3.cell HM3.out.1 (fun f => f), kk3.cell HM3.out.2 (fun f => f), by omega, L3.out.1, L3.out.2⟩
  have N4 := Nat.le_trans N3 Y7.out.size
  have BB := hide ((HB1.out.trans (HB2.out.mono HB1.out.size)).trans ((HB3.out.trans (Y7.out.mono HB3.out.size)).mono (Nat.le_trans HB1.out.size HB2.out.size)))
  clear kk1 kk2 kk3 Y1 Y2 Y3 Y4 Y5 Y6 Y7 HM1 HM2 HM3 HB1 HB2 HB3 hO1 hO2 hO3
  change Code.wp _ _ _ _ (((((((w3.alloc (.cells #[.nilFunc, .nilFunc] 109)).alloc (.cells #[.nilFunc, .nilFunc] 90)).alloc (.cells #[.nilFunc, .nilFunc] 90))).setRow w3.heap.size (fS m1)).setRow (w3.heap.size + 1) (fI l2 m2)).setRow (w3.heap.size + 1 + 1) (fI l3 m3))
  generalize (((((w3.alloc (.cells #[.nilFunc, .nilFunc] 109)).alloc (.cells #[.nilFunc, .nilFunc] 90)).alloc (.cells #[.nilFunc, .nilFunc] 90)).setRow w3.heap.size (fS m1)).setRow (w3.heap.size + 1) (fI l2 m2)).setRow (w3.heap.size + 1 + 1) (fI l3 m3) = w4 at *
  generalize w3.heap.size = q1 at *
  clear N0 N1 N2 N3 L1 L2 L3
  go_wp2_with fail
  refine (Numbers_any 1 1099511627776 _).mono ?_
  rintro e w5 ⟨l4, m4, rfl, hl4, hm4, t1, t2, hb5⟩
  have N5 := Nat.le_trans N4 hb5.size
  have L4 := hide (And.intro (Nat.le_trans N4 t1) (Nat.le_trans N4 t2))
  clear t1 t2
  have HM4 := hide (And.intro hl4 hm4)
  have HB5 := hide hb5
  clear hl4 hm4 hb5
  go_wp2_with fail
  refine (Numbers_any 0 1099511627776 _).mono ?_
  rintro e w6 ⟨l5, m5, rfl, hl5, hm5, t1, t2, hb6⟩
  have N6 := Nat.le_trans N5 hb6.size
  have L5 := hide (And.intro (Nat.le_trans N5 t1) (Nat.le_trans N5 t2))
  clear t1 t2
  have HM5 := hide (And.intro hl5 hm5)
  have HB6 := hide hb6
  clear hl5 hm5 hb6
  obtain ⟨y1, y2, y4, y5, y7⟩ := st2 w6 90 90 #[.nilFunc, .nilFunc] #[.nilFunc, .nilFunc] (fI l4 m4) (fI l5 m5)
  have Y1 := hide y1
  have Y2 := hide y2
  have Y4 := hide y4
  have Y5 := hide y5
  have Y7 := hide y7
  clear y1 y2 y4 y5 y7
  have hO1 : Hid ((fI l4 m4).all (·.oneCell') = true) := oneF _ _ rfl rfl
  have hO2 : Hid ((fI l5 m5).all (·.oneCell') = true) := oneF _ _ rfl rfl
  go_upto_region 3 with (first
    | (refine wpList_store_row rfl 90 _ _ rfl (w6.heap.size + 1) (fI l5 m5) rfl rfl 90 _ Y2.out sizeFI rfl hO2.out ?_)
    | (refine wpList_store_row rfl 90 _ _ rfl w6.heap.size (fI l4 m4) rfl rfl 90 _ Y1.out sizeFI rfl hO1.out ?_))
  have kk1 := below_keep HB5.out (Nat.le_refl _)
  have kk2 := below_keep HB6.out (Nat.le_refl _)
  have kk3 := below_keep Y7.out (Nat.le_refl _)
  have G1b := hide (((G1.out.keep kk1).keep kk2).keep kk3)
  have G2b := hide (((G2.out.keep kk1).keep kk2).keep kk3)
  have G3b := hide (((G3.out.keep kk1).keep kk2).keep kk3)
  have G4 : Hid (FI w.heap.size _ w6.heap.size l4 m4 1 1099511627776) := ⟨Y4.out, kk3.cell (kk2.cell HM4.out.1 (fun f => f)) (fun f => f), kk3.cell (kk2.cell HM4.out.2 (fun f => f)) (fun f => f), N6, L4.out.1, L4.out.2⟩
  have G5 : Hid (FI w.heap.size _ (w6.heap.size + 1) l5 m5 0 1099511627776) := ⟨Y5.out, kk3.cell HM5.out.1 (fun f => f), kk3.cell HM5.out.2 (fun f => f), by omega, L5.out.1, L5.out.2⟩
  have N7 := Nat.le_trans N6 Y7.out.size
  have BB2 := hide (BB.out.trans ((HB5.out.trans ((HB6.out.trans (Y7.out.mono HB6.out.size)).mono HB5.out.size)).mono BB.out.size))
  clear kk1 kk2 kk3 Y1 Y2 Y4 Y5 Y7 HM4 HM5 HB5 HB6 hO1 hO2 G1 G2 G3 BB
  change Code.wp _ _ _ _ ((((w6.alloc (.cells #[.nilFunc, .nilFunc] 90)).alloc (.cells #[.nilFunc, .nilFunc] 90)).setRow w6.heap.size (fI l4 m4)).setRow (w6.heap.size + 1) (fI l5 m5))
  generalize (((w6.alloc (.cells #[.nilFunc, .nilFunc] 90)).alloc (.cells #[.nilFunc, .nilFunc] 90)).setRow w6.heap.size (fI l4 m4)).setRow (w6.heap.size + 1) (fI l5 m5) = w7 at *
  generalize w6.heap.size = q2 at *
  clear N4 N5 N6 L4 L5
  go_wp2_with fail
  refine (Numbers_any 0 63 _).mono ?_
  rintro e w8 ⟨l6, k6, rfl, hl6, hk6, t1, t2, hb8⟩
  have N8 := Nat.le_trans N7 hb8.size
  have L6 := hide (And.intro (Nat.le_trans N7 t1) (Nat.le_trans N7 t2))
  clear t1 t2
  have HM6 := hide (And.intro hl6 hk6)
  have HB8 := hide hb8
  clear hl6 hk6 hb8
  go_wp2_with fail
  refine (ListsI _ _ _ _ 64 _).mono ?_
  rintro e w9 ⟨m6, o6, rfl, hm6, ho6, t1, t2, hb9⟩
  have N9 := Nat.le_trans N8 hb9.size
  have L7 := hide (And.intro (Nat.le_trans N8 t1) (Nat.le_trans N8 t2))
  clear t1 t2
  have HM7 := hide (And.intro hm6 ho6)
  have HB9 := hide hb9
  clear hm6 ho6 hb9
  obtain ⟨y1, y4, y7⟩ := st1 w9 158 #[.nilFunc, .nilFunc] (fL m6 o6)
  have Y1 := hide y1
  have Y4 := hide y4
  have Y7 := hide y7
  clear y1 y4 y7
  have hO1 : Hid ((fL m6 o6).all (·.oneCell') = true) := oneF _ _ rfl rfl
  go_upto_region 4 with (refine wpList_store_row rfl 158 _ _ rfl w9.heap.size (fL m6 o6) rfl rfl 158 _ Y1.out sizeFL rfl hO1.out ?_)
  have kk1 := below_keep HB8.out (Nat.le_refl _)
  have kk2 := below_keep HB9.out (Nat.le_refl _)
  have kk3 := below_keep Y7.out (Nat.le_refl _)
  have hN : NF w.heap.size _ q1 (q1 + 1) (q1 + 1 + 1) q2 (q2 + 1) w9.heap.size := ⟨m1, l2, m2, l3, m3, l4, m4, l5, m5, m6, o6, l6, k6, ((G1b.out.keep kk1).keep kk2).keep kk3, ((G2b.out.keep kk1).keep kk2).keep kk3, ((G3b.out.keep kk1).keep kk2).keep kk3, ((G4.out.keep kk1).keep kk2).keep kk3, ((G5.out.keep kk1).keep kk2).keep kk3,
    ⟨Y4.out, kk3.cell HM7.out.1 (fun f => f), kk3.blk HM7.out.2 (fun f => f), kk3.cell (kk2.cell HM6.out.1 (fun f => f)) (fun f => f), kk3.cell (kk2.cell HM6.out.2 (fun f => f)) (fun f => f), N9, L7.out.1, L7.out.2, L6.out.1, L6.out.2⟩⟩
  have HN := hide hN
  have BB := hide (BB2.out.trans ((HB8.out.trans ((HB9.out.trans (Y7.out.mono HB9.out.size)).mono HB8.out.size)).mono BB2.out.size))
  clear kk1 kk2 kk3 Y1 Y4 Y7 HM6 HM7 HB8 HB9 hO1 G1b G2b G3b G4 G5 BB2 hN
  change Code.wp _ _ _ _ ((w9.alloc (.cells #[.nilFunc, .nilFunc] 158)).setRow w9.heap.size (fL m6 o6))
  generalize (w9.alloc (.cells #[.nilFunc, .nilFunc] 158)).setRow w9.heap.size (fL m6 o6) = w10 at *
  generalize w9.heap.size = q3 at *
  clear N7 N8 N9 L6 L7
  go_wp2_with fail
  refine (MakeNd _ _ _ _ _).mono ?_
  rintro e w11 ⟨rfl, hb11⟩
  have HN11 := hide (HN.out.keep (below_keep hb11 (Nat.le_refl _)))
  have BB11 := hide (BB.out.trans (hb11.mono BB.out.size))
  have hx := (BB11.out.block w.heap.size hz0).trans HX0.out
  have HX := hide hx
  have f0 := cell_blk hx 0 rfl
  have f1 := cell_blk hx 1 rfl
  have z0 := frozen_blk hx 0
  have z1 := frozen_blk hx 1
  clear hb11 hx HN BB HX0
  go_wp2_with fail
  have hks := set2_keep w11 w.heap.size (.func (.func 123) #[] (capN q1 (q1 + 1) (q1 + 1 + 1) q2 (q2 + 1) q3)) (.func (.func 125) #[] (capN q1 (q1 + 1) (q1 + 1 + 1) q2 (q2 + 1) q3))
  refine bodyPost_ret (results_cell_row rfl _ _ w.heap.size 119 #[.func (.func 123) #[] (capN q1 (q1 + 1) (q1 + 1 + 1) q2 (q2 + 1) q3), .func (.func 125) #[] (capN q1 (q1 + 1) (q1 + 1 + 1) q2 (q2 + 1) q3)] (0, 0) _ rfl (set2_blk HX.out) Tryz.underlying119 rfl (by kernel_rfl)) rfl ?_
  refine ⟨q1, q1 + 1, q1 + 1 + 1, q2, q2 + 1, q3, rfl, ?_, (hb0.trans (BB11.out.mono hb0.size)).trans (hks.below (by have := BB11.out.size; have := hb0.size; omega) fun i e => by have e : i = _ := e; omega)⟩
  exact HN11.out.off HX.out hks
end Cd
end Go.Proofs.YtbjcckfhfbjchaaGreat
