/- The document's days: after, ahead. -/
import Derived.Test.YtbgioclbjbmicaaDoorXRd1
import Derived.Deep.CutBlock
namespace Go.Proofs.YtbgioclbjbmicaaDoor
open Go.RowKit

theorem off_ne4 (p : Nat) {i j : Nat} (h : i ≠ j) : (⟨p, i, none⟩ : Addr) ≠ ⟨p, j, none⟩ := by intro e; injection e with _ e; exact h e
/-- Four cells of a block. -/
structure D4 (p : Nat) (a b c d : Value) (w : World) : Prop where
  c0 : w.cell? ⟨p, 0, none⟩ = some a
  c1 : w.cell? ⟨p, 1, none⟩ = some b
  c2 : w.cell? ⟨p, 2, none⟩ = some c
  c3 : w.cell? ⟨p, 3, none⟩ = some d
  fr : ∀ j, w.frozen? ⟨p, j, none⟩ = false
theorem D4.lt {p : Nat} {a b c d : Value} {w : World} (h : D4 p a b c d w) : p < w.heap.size := World.block_lt_of_cell? _ ⟨p, 0, none⟩ h.c0
theorem D4.keep {p : Nat} {a b c d : Value} {w w' : World} (h : D4 p a b c d w) (b' : Below w.heap.size w w') : D4 p a b c d w' :=
  ⟨by rw [b'.cell (p := ⟨p, 0, none⟩) h.lt]; exact h.c0, by rw [b'.cell (p := ⟨p, 1, none⟩) h.lt]; exact h.c1, by rw [b'.cell (p := ⟨p, 2, none⟩) h.lt]; exact h.c2, by rw [b'.cell (p := ⟨p, 3, none⟩) h.lt]; exact h.c3, fun j => by rw [b'.frozen (p := ⟨p, j, none⟩) h.lt]; exact h.fr j⟩
theorem D4.new (w : World) (a b c d : Value) (t : TypeId) : D4 w.heap.size a b c d (w.alloc (.cells #[a, b, c, d] t)) := by
  have h := heap_alloc_new w (.cells #[a, b, c, d] t)
  refine ⟨?_, ?_, ?_, ?_, fun j => by simp⟩ <;> (rw [cell_of_row _ _ _ _ _ _ h]; rfl)
def set4 (w : World) (p : Nat) (a b c d : Value) : World := (((w.setCell ⟨p, 0, none⟩ a).setCell ⟨p, 1, none⟩ b).setCell ⟨p, 2, none⟩ c).setCell ⟨p, 3, none⟩ d
theorem D4.set {p : Nat} {a b c d : Value} {w : World} (h : D4 p a b c d w) (a' b' c' d' : Value) : D4 p a' b' c' d' (set4 w p a' b' c' d') := by
  have o : ∀ (W : World) (i j : Nat) (v : Value), i ≠ j → (W.setCell ⟨p, i, none⟩ v).cell? ⟨p, j, none⟩ = W.cell? ⟨p, j, none⟩ := fun W i j v hij => World.cell?_setCell_other _ _ _ _ (off_ne4 p (by omega))
  unfold set4
  refine ⟨?_, ?_, ?_, ?_, fun j => ?_⟩
  · rw [o _ 3 0 _ (by decide), o _ 2 0 _ (by decide), o _ 1 0 _ (by decide)]; exact World.cell?_setCell_same _ _ _ h.c0
  · rw [o _ 3 1 _ (by decide), o _ 2 1 _ (by decide)]; exact World.cell?_setCell_same _ _ _ ((o _ 0 1 _ (by decide)).trans h.c1)
  · rw [o _ 3 2 _ (by decide)]; exact World.cell?_setCell_same _ _ _ ((o _ 1 2 _ (by decide)).trans ((o _ 0 2 _ (by decide)).trans h.c2))
  · exact World.cell?_setCell_same _ _ _ ((o _ 2 3 _ (by decide)).trans ((o _ 1 3 _ (by decide)).trans ((o _ 0 3 _ (by decide)).trans h.c3)))
  · exact (World.frozen?_setCell _ _ _ _).trans ((World.frozen?_setCell _ _ _ _).trans ((World.frozen?_setCell _ _ _ _).trans ((World.frozen?_setCell _ _ _ _).trans (h.fr j))))
theorem D4.set1 {p : Nat} {a b c d : Value} {w : World} (h : D4 p a b c d w) (v : Value) : D4 p a v c d (w.setCell ⟨p, 1, none⟩ v) := by
  have o : ∀ (j : Nat), 1 ≠ j → (w.setCell ⟨p, 1, none⟩ v).cell? ⟨p, j, none⟩ = w.cell? ⟨p, j, none⟩ := fun j hj => World.cell?_setCell_other _ _ _ _ (off_ne4 p (by omega))
  exact ⟨(o 0 (by decide)).trans h.c0, World.cell?_setCell_same _ _ _ h.c1, (o 2 (by decide)).trans h.c2, (o 3 (by decide)).trans h.c3, fun j => (World.frozen?_setCell _ _ _ _).trans (h.fr j)⟩
theorem D4.set2 {p : Nat} {a b c d : Value} {w : World} (h : D4 p a b c d w) (v : Value) : D4 p a b v d (w.setCell ⟨p, 2, none⟩ v) := by
  have o : ∀ (j : Nat), 2 ≠ j → (w.setCell ⟨p, 2, none⟩ v).cell? ⟨p, j, none⟩ = w.cell? ⟨p, j, none⟩ := fun j hj => World.cell?_setCell_other _ _ _ _ (off_ne4 p (by omega))
  exact ⟨(o 0 (by decide)).trans h.c0, (o 1 (by decide)).trans h.c1, World.cell?_setCell_same _ _ _ h.c2, (o 3 (by decide)).trans h.c3, fun j => (World.frozen?_setCell _ _ _ _).trans (h.fr j)⟩
theorem D4.set0 {p : Nat} {a b c d : Value} {w : World} (h : D4 p a b c d w) (v : Value) : D4 p v b c d (w.setCell ⟨p, 0, none⟩ v) := by
  have o : ∀ (j : Nat), 0 ≠ j → (w.setCell ⟨p, 0, none⟩ v).cell? ⟨p, j, none⟩ = w.cell? ⟨p, j, none⟩ := fun j hj => World.cell?_setCell_other _ _ _ _ (off_ne4 p (by omega))
  exact ⟨World.cell?_setCell_same _ _ _ h.c0, (o 1 (by decide)).trans h.c1, (o 2 (by decide)).trans h.c2, (o 3 (by decide)).trans h.c3, fun j => (World.frozen?_setCell _ _ _ _).trans (h.fr j)⟩
theorem D4.set3 {p : Nat} {a b c d : Value} {w : World} (h : D4 p a b c d w) (v : Value) : D4 p a b c v (w.setCell ⟨p, 3, none⟩ v) := by
  have o : ∀ (j : Nat), 3 ≠ j → (w.setCell ⟨p, 3, none⟩ v).cell? ⟨p, j, none⟩ = w.cell? ⟨p, j, none⟩ := fun j hj => World.cell?_setCell_other _ _ _ _ (off_ne4 p (by omega))
  exact ⟨(o 0 (by decide)).trans h.c0, (o 1 (by decide)).trans h.c1, (o 2 (by decide)).trans h.c2, World.cell?_setCell_same _ _ _ h.c3, fun j => (World.frozen?_setCell _ _ _ _).trans (h.fr j)⟩
theorem set4_below {B : Nat} {w0 w : World} {p : Nat} (a b c d : Value) (h : Below B w0 w) (hp : B ≤ p) : Below B w0 (set4 w p a b c d) := (((h.setCell hp _).setCell hp _).setCell hp _).setCell hp _
theorem D4.other {p q : Nat} {a b c d : Value} {w : World} (h : D4 p a b c d w) (hq : p ≠ q) (i : Nat) (v : Value) : D4 p a b c d (w.setCell ⟨q, i, none⟩ v) := by
  have o : ∀ (j : Nat), (w.setCell ⟨q, i, none⟩ v).cell? ⟨p, j, none⟩ = w.cell? ⟨p, j, none⟩ := fun j => World.cell?_setCell_other _ _ _ _ (by intro e; injection e with e; first | exact hq e | exact hq e.symm)
  exact ⟨(o 0).trans h.c0, (o 1).trans h.c1, (o 2).trans h.c2, (o 3).trans h.c3, fun j => (World.frozen?_setCell _ _ _ _).trans (h.fr j)⟩
theorem after_res {w : World} {p : Nat} {a b c d : Value} {act : Act} (h2 : act.tmps[2]? = some (.pointer (some ⟨p, 0, none⟩))) (h : D4 p a b c d w) :
    (results Tryd.f32 act.tmps).run Tryd.prog w = .ok (.agg #[a, b, c, d]) w := by
  simp [results, Tryd.results32, go_sem, h2, h.c0, h.c1, h.c2, h.c3]
set_option maxHeartbeats 2000000 in
set_option maxRecDepth 100000 in
theorem after_any (y m d k : Int) (y0 : 0 ≤ y) (y1 : y < 400) (m0 : 1 ≤ m) (m1 : m ≤ 12) (d0 : 1 ≤ d) (d1 : d ≤ 31) (k0 : 0 ≤ k) (k1 : k ≤ 6) (w : World) :
    Calls Tryd.prog 32 #[.agg #[.int .i64 y, .int .i64 m, .int .i64 d, .int .i64 k]] w fun e w' => e = .returned (rdt (X.afterR ⟨y, m, d, k⟩)) ∧ Below w.heap.size w w' := by
  generalize hR : rdt (X.afterR ⟨y, m, d, k⟩) = R
  have HR := hide hR
  clear hR
  have hP0 := D4.new w (.int .i64 y) (.int .i64 m) (.int .i64 (d + 1)) (.int .i64 ((k + 1) % 7)) 73
  have hb0 : Below w.heap.size w (w.alloc (.cells #[.int .i64 y, .int .i64 m, .int .i64 (d + 1), .int .i64 ((k + 1) % 7)] 73)) := Below.put (Below.refl _ _) _
  have hs0 : (w.alloc (.cells #[.int .i64 y, .int .i64 m, .int .i64 (d + 1), .int .i64 ((k + 1) % 7)] 73)).heap.size = w.heap.size + 1 := by simp
  go_enter Tryd.func32, Tryd.ntmps32
  go_wp2_with fail
  generalize w.alloc (.cells #[.int .i64 y, .int .i64 m, .int .i64 (d + 1), .int .i64 ((k + 1) % 7)] 73) = W0 at *
  have hQ := D4.new W0 (.int .i64 0) (.int .i64 0) (.int .i64 0) (.int .i64 0) 73
  have hb1 : Below W0.heap.size W0 (W0.alloc (.cells #[.int .i64 0, .int .i64 0, .int .i64 0, .int .i64 0] 73)) := Below.put (Below.refl _ _) _
  have hP := hP0.keep hb1
  have hB := hb0.trans (hb1.mono hb0.size)
  rw [hs0] at hQ
  generalize W0.alloc (.cells #[.int .i64 0, .int .i64 0, .int .i64 0, .int .i64 0] 73) = W at *
  clear hP0 hb0 hb1 hs0
  have hBd : Below W.heap.size W W.drew := (Below.refl _ W).drew
  have hPd := hP.keep hBd
  have hQd := hQ.keep hBd
  have hBB := hB.trans (hBd.mono hB.size)
  have e0 := hP.c0; have e1 := hP.c1; have e2 := hP.c2; have e3 := hP.c3
  have HH := hide (show W.drew.cell? ⟨w.heap.size, 0, none⟩ = some (.int .i64 y) ∧ W.drew.cell? ⟨w.heap.size, 1, none⟩ = some (.int .i64 m) ∧ W.drew.cell? ⟨w.heap.size, 2, none⟩ = some (.int .i64 (d + 1)) ∧ W.drew.cell? ⟨w.heap.size, 3, none⟩ = some (.int .i64 ((k + 1) % 7)) from ⟨hPd.c0, hPd.c1, hPd.c2, hPd.c3⟩)
  have HPd := hide hPd
  have HQd := hide hQd
  have HBB := hide hBB
  have hlt := hPd.lt
  clear hP hQ hB hBd hPd hQd hBB
  go_region_held3 (fun w' => w'.cell? ⟨w.heap.size, 0, none⟩ = some (.int .i64 y) ∧ w'.cell? ⟨w.heap.size, 1, none⟩ = some (.int .i64 m) ∧ w'.cell? ⟨w.heap.size, 2, none⟩ = some (.int .i64 (d + 1)) ∧ w'.cell? ⟨w.heap.size, 3, none⟩ = some (.int .i64 ((k + 1) % 7))) (first | (exact HH.out) | (exact ⟨(HPd.out.keep hb4).c0, (HPd.out.keep hb4).c1, (HPd.out.keep hb4).c2, (HPd.out.keep hb4).c3⟩) | go_keep) ((go_at_call 50; refine (long_any y m (d + 1) ((k + 1) % 7) y0 (by omega) _).mono ?_; rintro e w4 ⟨rfl, hb4⟩))
  have hP4 := HPd.out.keep hb4
  have hQ4 := HQd.out.keep hb4
  have HB4 := hide (HBB.out.trans (hb4.mono HBB.out.size))
  clear hb4 HPd HQd HBB HH e0 e1 e2 e3
  have e0 := hP4.c0; have e1 := hP4.c1; have e2 := hP4.c2; have e3 := hP4.c3; have ef := hP4.fr
  have f0 := hQ4.c0; have f1 := hQ4.c1; have f2 := hQ4.c2; have f3 := hQ4.c3; have ff := hQ4.fr
  have HP4 := hide hP4
  have HQ4 := hide hQ4
  clear hP4 hQ4 hlt
  by_cases h : d + 1 ≤ X.longR y m
  · have HR2 : Hid (R = rdt ⟨y, m, d + 1, (k + 1) % 7⟩) := by rw [← HR.out, X.after_a h]; exact rfl
    have HD := hide (HQ4.out.set (.int .i64 y) (.int .i64 m) (.int .i64 (d + 1)) (.int .i64 ((k + 1) % 7)))
    clear HR
    generalize X.longR y m = L at *
    generalize hq : w.heap.size + 1 = q at *
    have hq' : w.heap.size ≤ q := by omega
    clear hq
    go_wp2_with fail
    exact bodyPost_ret (w := set4 w4 q (.int .i64 y) (.int .i64 m) (.int .i64 (d + 1)) (.int .i64 ((k + 1) % 7))) (after_res rfl HD.out) rfl ⟨by rw [HR2.out]; rfl, set4_below _ _ _ _ HB4.out hq'⟩
  · have hpq : w.heap.size ≠ w.heap.size + 1 := by omega
    by_cases h2 : m + 1 ≤ 12
    · have HR2 : Hid (R = rdt ⟨y, m + 1, 1, (k + 1) % 7⟩) := by rw [← HR.out, X.after_b h h2]; exact rfl
      have HD := hide (((HQ4.out.other hpq.symm 2 (.int .i64 1)).other hpq.symm 1 (.int .i64 (m + 1))).set (.int .i64 y) (.int .i64 (m + 1)) (.int .i64 1) (.int .i64 ((k + 1) % 7)))
      have HBs := hide (set4_below (p := w.heap.size + 1) (.int .i64 y) (.int .i64 (m + 1)) (.int .i64 1) (.int .i64 ((k + 1) % 7)) ((HB4.out.setCell (p := ⟨w.heap.size, 2, none⟩) (Nat.le_refl _) (.int .i64 1)).setCell (p := ⟨w.heap.size, 1, none⟩) (Nat.le_refl _) (.int .i64 (m + 1))) (by omega))
      clear HR
      generalize X.longR y m = L at *
      go_wp2_with fail
      exact bodyPost_ret (w := set4 ((w4.setCell ⟨w.heap.size, 2, none⟩ (.int .i64 1)).setCell ⟨w.heap.size, 1, none⟩ (.int .i64 (m + 1))) (w.heap.size + 1) (.int .i64 y) (.int .i64 (m + 1)) (.int .i64 1) (.int .i64 ((k + 1) % 7))) (after_res rfl HD.out) rfl ⟨by rw [HR2.out]; rfl, HBs.out⟩
    · have HR2 : Hid (R = rdt ⟨(y + 1) % 400, 1, 1, (k + 1) % 7⟩) := by rw [← HR.out, X.after_c h h2]; exact rfl
      have hP5 := (HP4.out.set2 (.int .i64 1)).set1 (.int .i64 (m + 1))
      have hQ5 := (HQ4.out.other hpq.symm 2 (.int .i64 1)).other hpq.symm 1 (.int .i64 (m + 1))
      have hB5 := (HB4.out.setCell (p := ⟨w.heap.size, 2, none⟩) (Nat.le_refl _) (.int .i64 1)).setCell (p := ⟨w.heap.size, 1, none⟩) (Nat.le_refl _) (.int .i64 (m + 1))
      have HP5 := hide hP5
      have HQ5 := hide hQ5
      have HB5 := hide hB5
      clear HR hP5 hQ5 hB5 HP4 HQ4 HB4
      generalize X.longR y m = L at *
      go_upto_region 9 with fail
      clear e0 e1 e2 e3 f0 f1 f2 f3 ef ff
      generalize (w4.setCell ⟨w.heap.size, 2, none⟩ (.int .i64 1)).setCell ⟨w.heap.size, 1, none⟩ (.int .i64 (m + 1)) = W5 at *
      have e0 := HP5.out.c0; have e1 := HP5.out.c1; have e2 := HP5.out.c2; have e3 := HP5.out.c3; have ef := HP5.out.fr
      have f0 := HQ5.out.c0; have f1 := HQ5.out.c1; have f2 := HQ5.out.c2; have f3 := HQ5.out.c3; have ff := HQ5.out.fr
      have HD := hide (((HQ5.out.other hpq.symm 1 (.int .i64 1)).other hpq.symm 0 (.int .i64 ((y + 1) % 400))).set (.int .i64 ((y + 1) % 400)) (.int .i64 1) (.int .i64 1) (.int .i64 ((k + 1) % 7)))
      have HBs := hide (set4_below (p := w.heap.size + 1) (.int .i64 ((y + 1) % 400)) (.int .i64 1) (.int .i64 1) (.int .i64 ((k + 1) % 7)) ((HB5.out.setCell (p := ⟨w.heap.size, 1, none⟩) (Nat.le_refl _) (.int .i64 1)).setCell (p := ⟨w.heap.size, 0, none⟩) (Nat.le_refl _) (.int .i64 ((y + 1) % 400))) (by omega))
      go_wp2_with fail
      exact bodyPost_ret (w := set4 ((W5.setCell ⟨w.heap.size, 1, none⟩ (.int .i64 1)).setCell ⟨w.heap.size, 0, none⟩ (.int .i64 ((y + 1) % 400))) (w.heap.size + 1) (.int .i64 ((y + 1) % 400)) (.int .i64 1) (.int .i64 1) (.int .i64 ((k + 1) % 7))) (after_res rfl HD.out) rfl ⟨by rw [HR2.out]; rfl, HBs.out⟩
end Go.Proofs.YtbgioclbjbmicaaDoor
