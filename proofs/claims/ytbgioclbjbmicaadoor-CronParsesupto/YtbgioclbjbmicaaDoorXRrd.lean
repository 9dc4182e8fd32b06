/- The laws' own read. -/
import Derived.Test.YtbgioclbjbmicaaDoorXRlw
namespace Go.Proofs.YtbgioclbjbmicaaDoor
open Go.RowKit

/-- What read answers. -/
def ReadEnd (r : Nat ⊕ X.Sets) (e : Ending) (w' : World) : Prop :=
  match r with
  | .inl _ => e = .returned (.tuple #[.pointer none, none5, .bool false])
  | .inr S => ∃ g G, e = .returned (.tuple #[.pointer (some ⟨g, 0, none⟩), rex G, .bool true]) ∧ ExprAt w' g S ∧ RxAt G S w'
theorem read_res {w : World} {p : Nat} {a b c d e k q : Value} {act : Act} (h2 : act.tmps[3]? = some (.pointer (some ⟨p, 0, none⟩))) (h3 : act.tmps[4]? = some k) (h4 : act.tmps[2]? = some q)
    (c0 : w.cell? ⟨p, 0, none⟩ = some a) (c1 : w.cell? ⟨p, 1, none⟩ = some b) (c2 : w.cell? ⟨p, 2, none⟩ = some c) (c3 : w.cell? ⟨p, 3, none⟩ = some d) (c4 : w.cell? ⟨p, 4, none⟩ = some e) :
    (results Tryd.f8 act.tmps).run Tryd.prog w = .ok (.tuple #[q, .agg #[a, b, c, d, e], k]) w := by
  simp [results, Tryd.results8, go_sem, h2, h3, h4, c0, c1, c2, c3, c4]
theorem alloc5 (w : World) (a b c d e : Value) (t : TypeId) : (w.alloc (.cells #[a, b, c, d, e] t)).cell? ⟨w.heap.size, 0, none⟩ = some a ∧ (w.alloc (.cells #[a, b, c, d, e] t)).cell? ⟨w.heap.size, 1, none⟩ = some b ∧ (w.alloc (.cells #[a, b, c, d, e] t)).cell? ⟨w.heap.size, 2, none⟩ = some c ∧ (w.alloc (.cells #[a, b, c, d, e] t)).cell? ⟨w.heap.size, 3, none⟩ = some d ∧ (w.alloc (.cells #[a, b, c, d, e] t)).cell? ⟨w.heap.size, 4, none⟩ = some e := by
  have h := heap_alloc_new w (.cells #[a, b, c, d, e] t)
  refine ⟨?_, ?_, ?_, ?_, ?_⟩ <;> (rw [cell_of_row _ _ _ _ _ _ h]; rfl)
/-- The place of a result that nobody wrote yet. -/
structure Nil5 (p : Nat) (w : World) : Prop where
  h : w.heap[p]? = some (.cells #[.slice none 0 0, .slice none 0 0, .slice none 0 0, .slice none 0 0, .slice none 0 0] 26)
theorem Nil5.lt {p : Nat} {w : World} (h : Nil5 p w) : p < w.heap.size := (Array.getElem?_eq_some_iff.1 h.h).1
theorem Nil5.keep {p : Nat} {w w' : World} (h : Nil5 p w) (b : Below w.heap.size w w') : Nil5 p w' := ⟨by rw [b.block _ h.lt]; exact h.h⟩
theorem Nil5.c {p : Nat} {w : World} (h : Nil5 p w) (j : Nat) (hj : j < 5) : w.cell? ⟨p, j, none⟩ = some (.slice none 0 0) := by
  rw [cell_of_row _ _ _ _ _ _ h.h]
  rcases five j hj with rfl | rfl | rfl | rfl | rfl <;> rfl
theorem Nil5.fr {p : Nat} {w : World} (h : Nil5 p w) (j : Nat) : w.frozen? ⟨p, j, none⟩ = false := by unfold World.frozen?; rw [h.h]; simp
theorem Nil5.rx {p : Nat} {w : World} (h : Nil5 p w) {G : Nat → Nat} {S : X.Sets} (hx : RxAt G S w) (a b c d e : Value) : RxAt G S (set5 w p a b c d e).drew := by
  intro f hf v hv
  have hn : G f ≠ p := by
    intro e
    have h1 := hx f hf 0 (by omega)
    rw [e, h.c 0 (by decide)] at h1
    cases h1
  have e1 : ∀ W : World, W.drew.cell? ⟨G f, v, none⟩ = W.cell? ⟨G f, v, none⟩ := fun _ => rfl
  rw [e1, set5_other _ _ _ _ _ hn]
  exact hx f hf v hv
theorem Nil5.ex {p g : Nat} {w : World} (h : Nil5 p w) {S : X.Sets} (hx : ExprAt w g S) (a b c d e : Value) : ExprAt (set5 w p a b c d e).drew g S := by
  refine ⟨fun i hi => ?_⟩
  have hn : g ≠ p := by
    intro e
    have h1 := hx.c 0 (by decide)
    rw [e, h.c 0 (by decide)] at h1
    cases h1
  have e1 : ∀ W : World, W.drew.cell? ⟨g, i, none⟩ = W.cell? ⟨g, i, none⟩ := fun _ => rfl
  rw [e1, set5_other _ _ _ _ _ hn]
  exact hx.c i hi
set_option maxHeartbeats 2000000 in
set_option maxRecDepth 100000 in
theorem read_any (s : ByteArray) (hs : s.size ≤ 1048576) (w : World) (hE : Env w) :
    Calls Tryd.prog 8 #[.string s] w fun e w' => ReadEnd (X.parse s.data.toList) e w' ∧ Below w.heap.size w w' := by
  have hN : (w.alloc (.cells #[.slice none 0 0, .slice none 0 0, .slice none 0 0, .slice none 0 0, .slice none 0 0] 26)).heap[w.heap.size]? = some (.cells #[.slice none 0 0, .slice none 0 0, .slice none 0 0, .slice none 0 0, .slice none 0 0] 26) := heap_alloc_new w _
  have hb0 : Below w.heap.size w (w.alloc (.cells #[.slice none 0 0, .slice none 0 0, .slice none 0 0, .slice none 0 0, .slice none 0 0] 26)) := Below.put (Below.refl _ _) _
  have hE0 := hE.alloc (.cells #[.slice none 0 0, .slice none 0 0, .slice none 0 0, .slice none 0 0, .slice none 0 0] 26)
  have HN := hide hN
  have HB0 := hide hb0
  clear hN hb0 hE
  go_enter Tryd.func8, Tryd.ntmps8
  go_wp2_with fail
  generalize w.alloc (.cells #[.slice none 0 0, .slice none 0 0, .slice none 0 0, .slice none 0 0, .slice none 0 0] 26) = W0 at *
  go_at_call 21
  refine (parse_any s _ hE0).mono ?_
  rintro e w1 ⟨hp, hb1⟩
  cases hR : X.parse s.data.toList with
  | inl n =>
    rw [hR] at hp
    have hp' : e = .returned (.tuple #[.pointer none, .int .i64 n]) := hp
    subst hp'
    have h40 := parse_err' hR
    have HRR := hide hR
    clear hR
    go_wp2_with fail
    go_at_call 22
    refine (refParse_any s hs w1).mono ?_
    rintro e w2 ⟨hq, hb2⟩
    rw [HRR.out] at hq
    have hq' : e = .returned (.tuple #[none5, .int .i64 n]) := hq
    subst hq'
    have hb := hb1.trans (hb2.mono hb1.size)
    have hres : Nil5 w.heap.size w2 := (Nil5.mk HN.out).keep hb
    have hB2 : Below w.heap.size w w2 := HB0.out.trans (hb.mono HB0.out.size)
    unfold none5
    have n0 : ((n : Int) == 0) = false := by simp; omega
    have n1 : ((n : Int) == n) = true := by simp
    clear hb1 hb2 hb hp hq HN HB0 hE0
    go_wp2_with fail
    have hA := alloc5 w2 (.slice none 0 0) (.slice none 0 0) (.slice none 0 0) (.slice none 0 0) (.slice none 0 0) 26
    have hb3 : Below w2.heap.size w2 (w2.alloc (.cells #[.slice none 0 0, .slice none 0 0, .slice none 0 0, .slice none 0 0, .slice none 0 0] 26)) := Below.put (Below.refl _ _) _
    generalize w2.alloc (.cells #[.slice none 0 0, .slice none 0 0, .slice none 0 0, .slice none 0 0, .slice none 0 0] 26) = W3 at *
    have hr3 := hres.keep hb3
    have HB := hide (hB2.trans (hb3.mono hB2.size))
    have HK := hide (drew5 (set5_cells (w := W3) (p := w.heap.size) (.slice none 0 0) (.slice none 0 0) (.slice none 0 0) (.slice none 0 0) (.slice none 0 0) (fun j hj => hr3.c j hj)))
    obtain ⟨q0, q1, q2, q3, q4⟩ := hA
    have p0 := hr3.c 0 (by decide)
    have p1 := hr3.c 1 (by decide)
    have p2 := hr3.c 2 (by decide)
    have p3 := hr3.c 3 (by decide)
    have p4 := hr3.c 4 (by decide)
    have pf := hr3.fr
    clear hres hb3 hB2 hr3
    generalize w2.heap.size = q at *
    go_region
    go_wp2_with fail
    refine bodyPost_ret (w := (set5 W3 w.heap.size (.slice none 0 0) (.slice none 0 0) (.slice none 0 0) (.slice none 0 0) (.slice none 0 0)).drew) (read_res rfl rfl rfl HK.out.1 HK.out.2.1 HK.out.2.2.1 HK.out.2.2.2.1 HK.out.2.2.2.2) rfl ⟨?_, (set5_below _ _ _ _ _ HB.out (Nat.le_refl _)).drew⟩
    rw [HRR.out]
    exact rfl
  | inr S =>
    rw [hR] at hp
    obtain ⟨g, rfl, hX1, _⟩ := hp
    have HRR := hide hR
    clear hR
    go_wp2_with fail
    go_at_call 22
    refine (refParse_any s hs w1).mono ?_
    rintro e w2 ⟨hq, hb2⟩
    rw [HRR.out] at hq
    obtain ⟨G, rfl, hG2⟩ := hq
    have hX2 := hX1.keep hb2
    have hb := hb1.trans (hb2.mono hb1.size)
    have hres : Nil5 w.heap.size w2 := (Nil5.mk HN.out).keep hb
    have hB2 : Below w.heap.size w w2 := HB0.out.trans (hb.mono HB0.out.size)
    unfold rex
    clear hb1 hb2 hb HN HB0 hE0 hX1
    go_wp2_with fail
    have hA := alloc5 w2 (.slice (some ⟨G 0, 0, none⟩) 60 60) (.slice (some ⟨G 1, 0, none⟩) 24 24) (.slice (some ⟨G 2, 0, none⟩) 32 32) (.slice (some ⟨G 3, 0, none⟩) 13 13) (.slice (some ⟨G 4, 0, none⟩) 7 7) 26
    have hb3 : Below w2.heap.size w2 (w2.alloc (.cells #[.slice (some ⟨G 0, 0, none⟩) 60 60, .slice (some ⟨G 1, 0, none⟩) 24 24, .slice (some ⟨G 2, 0, none⟩) 32 32, .slice (some ⟨G 3, 0, none⟩) 13 13, .slice (some ⟨G 4, 0, none⟩) 7 7] 26)) := Below.put (Below.refl _ _) _
    generalize w2.alloc (.cells #[.slice (some ⟨G 0, 0, none⟩) 60 60, .slice (some ⟨G 1, 0, none⟩) 24 24, .slice (some ⟨G 2, 0, none⟩) 32 32, .slice (some ⟨G 3, 0, none⟩) 13 13, .slice (some ⟨G 4, 0, none⟩) 7 7] 26) = W3 at *
    have hr3 := hres.keep hb3
    have HX := hide (hr3.ex (hX2.keep hb3) (.slice (some ⟨G 0, 0, none⟩) 60 60) (.slice (some ⟨G 1, 0, none⟩) 24 24) (.slice (some ⟨G 2, 0, none⟩) 32 32) (.slice (some ⟨G 3, 0, none⟩) 13 13) (.slice (some ⟨G 4, 0, none⟩) 7 7))
    have HG := hide (hr3.rx (hG2.keep hb3) (.slice (some ⟨G 0, 0, none⟩) 60 60) (.slice (some ⟨G 1, 0, none⟩) 24 24) (.slice (some ⟨G 2, 0, none⟩) 32 32) (.slice (some ⟨G 3, 0, none⟩) 13 13) (.slice (some ⟨G 4, 0, none⟩) 7 7))
    have HB := hide (hB2.trans (hb3.mono hB2.size))
    have HK := hide (drew5 (set5_cells (w := W3) (p := w.heap.size) (.slice (some ⟨G 0, 0, none⟩) 60 60) (.slice (some ⟨G 1, 0, none⟩) 24 24) (.slice (some ⟨G 2, 0, none⟩) 32 32) (.slice (some ⟨G 3, 0, none⟩) 13 13) (.slice (some ⟨G 4, 0, none⟩) 7 7) (fun j hj => hr3.c j hj)))
    obtain ⟨q0, q1, q2, q3, q4⟩ := hA
    have p0 := hr3.c 0 (by decide)
    have p1 := hr3.c 1 (by decide)
    have p2 := hr3.c 2 (by decide)
    have p3 := hr3.c 3 (by decide)
    have p4 := hr3.c 4 (by decide)
    have pf := hr3.fr
    clear hres hb3 hB2 hr3 hX2 hG2
    generalize w2.heap.size = q at *
    go_region
    go_wp2_with fail
    refine bodyPost_ret (w := (set5 W3 w.heap.size (.slice (some ⟨G 0, 0, none⟩) 60 60) (.slice (some ⟨G 1, 0, none⟩) 24 24) (.slice (some ⟨G 2, 0, none⟩) 32 32) (.slice (some ⟨G 3, 0, none⟩) 13 13) (.slice (some ⟨G 4, 0, none⟩) 7 7)).drew) (read_res rfl rfl rfl HK.out.1 HK.out.2.1 HK.out.2.2.1 HK.out.2.2.2.1 HK.out.2.2.2.2) rfl ⟨?_, (set5_below _ _ _ _ _ HB.out (Nat.le_refl _)).drew⟩
    rw [HRR.out]
    exact ⟨g, G, rfl, HX.out, HG.out⟩
end Go.Proofs.YtbgioclbjbmicaaDoor
