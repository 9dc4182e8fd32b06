/- Codec: planFields made. -/
import Derived.Test.YtbjcckfhfbjchaaGreatCDw
namespace Go.Proofs.YtbjcckfhfbjchaaGreat
namespace Cd
open Go.RowKit Go.Deep

def fN (m o : Nat) : Array Value := #[.func (.func 114) #[] #[.pointer (some ⟨m, 0, none⟩), .pointer (some ⟨o, 0, none⟩)], .func (.func 117) #[] #[.pointer (some ⟨m, 0, none⟩), .pointer (some ⟨o, 0, none⟩)]]
def nF (c1 c2 c3 c4 c5 c6 : Nat) : Array Value := #[.func (.func 123) #[] (capN c1 c2 c3 c4 c5 c6), .func (.func 125) #[] (capN c1 c2 c3 c4 c5 c6)]
/-- a form of lists of nodes, in memory -/
structure FN (F : Nat) (w : World) (b m o c1 c2 c3 c4 c5 c6 : Nat) : Prop where
  blk : w.heap[b]? = some (.cells (fN m o) 114 (0, 0))
  cel : w.cell? ⟨m, 0, none⟩ = some (.int .i64 64)
  obk : w.heap[o]? = some (.cells (nF c1 c2 c3 c4 c5 c6) 119 (0, 0))
  nf : NF F w c1 c2 c3 c4 c5 c6
  hb : F ≤ b
  hm : F ≤ m
  ho : F ≤ o
variable {F : Nat} {w w' : World} {b m o c1 c2 c3 c4 c5 c6 g : Nat} {t : TypeId}
theorem FN.keep (h : FN F w b m o c1 c2 c3 c4 c5 c6) (kk : Keep (fun _ => False) w w') : FN F w' b m o c1 c2 c3 c4 c5 c6 := ⟨kk.blk h.blk (fun f => f), kk.cell h.cel (fun f => f), kk.blk h.obk (fun f => f), h.nf.keep kk, h.hb, h.hm, h.ho⟩
theorem FN.mono {F' : Nat} (h : FN F w b m o c1 c2 c3 c4 c5 c6) (hF : F' ≤ F) : FN F' w b m o c1 c2 c3 c4 c5 c6 := ⟨h.blk, h.cel, h.obk, h.nf.mono hF, Nat.le_trans hF h.hb, Nat.le_trans hF h.hm, Nat.le_trans hF h.ho⟩
theorem FN.off (h : FN F w b m o c1 c2 c3 c4 c5 c6) (hg : w.heap[g]? = some (.cells #[.nilFunc, .nilFunc] t (0, 0))) (kk : Keep (fun k => k = g) w w') : FN F w' b m o c1 c2 c3 c4 c5 c6 :=
  ⟨kk.blk h.blk (nil_blk hg h.blk (by intro e; cases e)), kk.cell h.cel (nil_cel hg h.cel (by intro e; cases e)), kk.blk h.obk (nil_blk hg h.obk (by intro e; cases e)), h.nf.off hg kk, h.hb, h.hm, h.ho⟩
/-- the forms of a plan's fields, in memory -/
structure PF (F : Nat) (w : World) (b1 b2 b3 : Nat) : Prop where
  ex : ∃ m1 l2 m2 m3 o3 c1 c2 c3 c4 c5 c6, FS F w b1 m1 40 ∧ FI F w b2 l2 m2 1 1099511627776 ∧ FN F w b3 m3 o3 c1 c2 c3 c4 c5 c6
theorem PF.keep {b1 b2 b3 : Nat} (h : PF F w b1 b2 b3) (kk : Keep (fun _ => False) w w') : PF F w' b1 b2 b3 := by
  obtain ⟨m1, l2, m2, m3, o3, c1, c2, c3, c4, c5, c6, h1, h2, h3⟩ := h.ex
  exact ⟨m1, l2, m2, m3, o3, c1, c2, c3, c4, c5, c6, h1.keep kk, h2.keep kk, h3.keep kk⟩
theorem PF.mono {F' b1 b2 b3 : Nat} (h : PF F w b1 b2 b3) (hF : F' ≤ F) : PF F' w b1 b2 b3 := by
  obtain ⟨m1, l2, m2, m3, o3, c1, c2, c3, c4, c5, c6, h1, h2, h3⟩ := h.ex
  exact ⟨m1, l2, m2, m3, o3, c1, c2, c3, c4, c5, c6, h1.mono hF, h2.mono hF, h3.mono hF⟩
theorem PF.off {b1 b2 b3 : Nat} (h : PF F w b1 b2 b3) (hg : w.heap[g]? = some (.cells #[.nilFunc, .nilFunc] t (0, 0))) (kk : Keep (fun k => k = g) w w') : PF F w' b1 b2 b3 := by
  obtain ⟨m1, l2, m2, m3, o3, c1, c2, c3, c4, c5, c6, h1, h2, h3⟩ := h.ex
  exact ⟨m1, l2, m2, m3, o3, c1, c2, c3, c4, c5, c6, h1.off hg kk, h2.off hg kk, h3.off hg kk⟩
def capP (b1 b2 b3 : Nat) : Array Value := #[.pointer (some ⟨b1, 0, none⟩), .pointer (some ⟨b2, 0, none⟩), .pointer (some ⟨b3, 0, none⟩)]
def pF (b1 b2 b3 : Nat) : Array Value := #[.func (.func 57) #[] (capP b1 b2 b3), .func (.func 60) #[] (capP b1 b2 b3)]
theorem sizeFN : (Tryz.prog.info? 114).map (·.size) = some 2 := by kernel_rfl
set_option maxRecDepth 10000 in
set_option maxHeartbeats 4000000 in
theorem planFields_any (w : World) :
    Calls Tryz.prog 29 #[] w fun en w' => ∃ b1 b2 b3, en = .returned (.agg (pF b1 b2 b3)) ∧ PF w.heap.size w' b1 b2 b3 ∧ Below w.heap.size w w' := by
  have hmf : ∀ (fn : Fn) (first cap : Array Value) (w : World), (Instr.makeFunc fn first cap).run Tryz.prog w = .ok (.func fn first cap) w := fun _ _ _ _ => rfl
  go_enter Tryz.func29, Tryz.ntmps29
  go_upto_region 1 with fail
  have hb0 : Below w.heap.size w (w.alloc (.cells #[.nilFunc, .nilFunc] 73)) := (Below.refl _ _).alloc (Nat.le_refl _) _
  have hx0 := heap_alloc_new w (.cells #[.nilFunc, .nilFunc] 73)
  generalize w.alloc (.cells #[.nilFunc, .nilFunc] 73) = w0 at *
  have hz0 := blk_lt hx0
  have HX0 := hide hx0
  have N0 : w.heap.size ≤ w0.heap.size := hb0.size
  clear hx0
  go_wp2_with fail
  refine (names_any _).mono ?_
  rintro e w1 ⟨m1, rfl, hm1, hlm1, hb1⟩
  have HM1 := hide hm1
  have HB1 := hide hb1
  have N1 := Nat.le_trans N0 hb1.size
  have L1 := hide (Nat.le_trans N0 hlm1)
  clear hm1 hlm1 hb1
  go_wp2_with fail
  refine (Numbers_any 1 1099511627776 _).mono ?_
  rintro e w2 ⟨l2, m2, rfl, hl2, hm2, t1, t2, hb2⟩
  have N2 := Nat.le_trans N1 hb2.size
  have L2 := hide (And.intro (Nat.le_trans N1 t1) (Nat.le_trans N1 t2))
  clear t1 t2
  have HM2 := hide (And.intro hl2 hm2)
  have HB2 := hide hb2
  clear hl2 hm2 hb2
  go_wp2_with fail
  refine (nodeFields_any _).mono ?_
  rintro e w3 ⟨c1, c2, c3, c4, c5, c6, rfl, hn3, hb3⟩
  have N3 := Nat.le_trans N2 hb3.size
  have HN3 := hide (hn3.mono N2)
  have HB3 := hide hb3
  clear hn3 hb3
  go_wp2_with fail
  refine (ListsNd _ _ _ _ 64 _).mono ?_
  rintro e w4 ⟨m3, o3, rfl, hm3, ho3, t1, t2, hb4⟩
  have N4 := Nat.le_trans N3 hb4.size
  have L4 := hide (And.intro (Nat.le_trans N3 t1) (Nat.le_trans N3 t2))
  clear t1 t2
  have HM3 := hide (And.intro hm3 ho3)
  have HB4 := hide hb4
  clear hm3 ho3 hb4
  obtain ⟨y1, y2, y3, y4, y5, y6, y7⟩ := st3 w4 109 90 114 #[.nilFunc, .nilFunc] #[.nilFunc, .nilFunc] #[.nilFunc, .nilFunc] (fS m1) (fI l2 m2) (fN m3 o3)
  have Y1 := hide y1
  have Y2 := hide y2
  have Y3 := hide y3
  have Y4 := hide y4
  have Y5 := hide y5
  have Y6 := hide y6
  have Y7 := hide y7
  clear y1 y2 y3 y4 y5 y6 y7
  have hO1 : Hid ((fS m1).all (·.oneCell') = true) := oneF _ _ rfl rfl
  have hO2 : Hid ((fI l2 m2).all (·.oneCell') = true) := oneF _ _ rfl rfl
  have hO3 : Hid ((fN m3 o3).all (·.oneCell') = true) := oneF _ _ rfl rfl
  go_upto_region 2 with (first
    | (refine wpList_store_row rfl 114 _ _ rfl (w4.heap.size + 1 + 1) (fN m3 o3) rfl rfl 114 _ Y3.out sizeFN rfl hO3.out ?_)
    | (refine wpList_store_row rfl 90 _ _ rfl (w4.heap.size + 1) (fI l2 m2) rfl rfl 90 _ Y2.out sizeFI rfl hO2.out ?_)
    | (refine wpList_store_row rfl 109 _ _ rfl w4.heap.size (fS m1) rfl rfl 109 _ Y1.out sizeFS rfl hO1.out ?_))
  have kk1 := below_keep HB2.out (Nat.le_refl _)
  have kk2 := below_keep HB3.out (Nat.le_refl _)
  have kk3 := below_keep HB4.out (Nat.le_refl _)
  have kk4 := below_keep Y7.out (Nat.le_refl _)
  have hP : PF w.heap.size _ w4.heap.size (w4.heap.size + 1) (w4.heap.size + 1 + 1) := ⟨m1, l2, m2, m3, o3, c1, c2, c3, c4, c5, c6,
    ⟨Y4.out, kk4.cell (kk3.cell (kk2.cell (kk1.cell HM1.out (fun f => f)) (fun f => f)) (fun f => f)) (fun f => f), N4, L1.out⟩,
    ⟨Y5.out, kk4.cell (kk3.cell (kk2.cell HM2.out.1 (fun f => f)) (fun f => f)) (fun f => f), kk4.cell (kk3.cell (kk2.cell HM2.out.2 (fun f => f)) (fun f => f)) (fun f => f), by omega, L2.out.1, L2.out.2⟩,
    ⟨Y6.out, kk4.cell HM3.out.1 (fun f => f), kk4.blk HM3.out.2 (fun f => f), (HN3.out.keep kk3).keep kk4, by omega, L4.out.1, L4.out.2⟩⟩
  have HP := hide hP
  have BB := hide (HB1.out.trans ((HB2.out.trans ((HB3.out.trans ((HB4.out.trans (Y7.out.mono HB4.out.size)).mono HB3.out.size)).mono HB2.out.size)).mono HB1.out.size))
  clear kk1 kk2 kk3 kk4 Y1 Y2 Y3 Y4 Y5 Y6 Y7 HM1 HM2 HM3 HN3 HB1 HB2 HB3 HB4 hO1 hO2 hO3 hP
  change Code.wp _ _ _ _ (((((((w4.alloc (.cells #[.nilFunc, .nilFunc] 109)).alloc (.cells #[.nilFunc, .nilFunc] 90)).alloc (.cells #[.nilFunc, .nilFunc] 114))).setRow w4.heap.size (fS m1)).setRow (w4.heap.size + 1) (fI l2 m2)).setRow (w4.heap.size + 1 + 1) (fN m3 o3))
  generalize (((((w4.alloc (.cells #[.nilFunc, .nilFunc] 109)).alloc (.cells #[.nilFunc, .nilFunc] 90)).alloc (.cells #[.nilFunc, .nilFunc] 114)).setRow w4.heap.size (fS m1)).setRow (w4.heap.size + 1) (fI l2 m2)).setRow (w4.heap.size + 1 + 1) (fN m3 o3) = w5 at *
  generalize w4.heap.size = q1 at *
  clear N0 N1 N2 N3 N4 L1 L2 L4
  go_wp2_with fail
  refine (MakePn _ _ _ _ _).mono ?_
  rintro e w11 ⟨rfl, hb11⟩
  have HN11 := hide (HP.out.keep (below_keep hb11 (Nat.le_refl _)))
  have BB11 := hide (BB.out.trans (hb11.mono BB.out.size))
  have hx := (BB11.out.block w.heap.size hz0).trans HX0.out
  have HX := hide hx
  have f0 := cell_blk hx 0 rfl
  have f1 := cell_blk hx 1 rfl
  have z0 := frozen_blk hx 0
  have z1 := frozen_blk hx 1
  clear hb11 hx HP BB HX0
  go_wp2_with fail
  have hks := set2_keep w11 w.heap.size (.func (.func 57) #[] (capP q1 (q1 + 1) (q1 + 1 + 1))) (.func (.func 60) #[] (capP q1 (q1 + 1) (q1 + 1 + 1)))
  refine bodyPost_ret (results_cell_row rfl _ _ w.heap.size 73 (pF q1 (q1 + 1) (q1 + 1 + 1)) (0, 0) _ rfl (set2_blk HX.out) Tryz.underlying73 rfl (by kernel_rfl)) rfl ?_
  exact ⟨q1, q1 + 1, q1 + 1 + 1, rfl, HN11.out.off HX.out hks, (hb0.trans (BB11.out.mono hb0.size)).trans (hks.below (by have := BB11.out.size; have := hb0.size; omega) fun i e => by have e : i = _ := e; omega)⟩
end Cd
end Go.Proofs.YtbjcckfhfbjchaaGreat
