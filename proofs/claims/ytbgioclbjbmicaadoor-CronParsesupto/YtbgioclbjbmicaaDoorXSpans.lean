/- Package cron: the spans of a time, all four. -/
import Derived.Test.YtbgioclbjbmicaaDoorXSpan
import Derived.Test.YtbgioclbjbmicaaDoorXLast
namespace Go.Proofs.YtbgioclbjbmicaaDoor
open Go.RowKit Go.Sort

theorem wr {x : Int} (h1 : -9223372036854775808 ≤ x) (h2 : x ≤ 9223372036854775807) : IntKind.i64.wrap x = x := by
  rw [IntKind.wrap_i64]; omega
set_option maxHeartbeats 4000000 in
set_option maxRecDepth 100000 in
theorem spans_any (g : Nat) (S : X.Sets) (t : Int) (h0 : 0 ≤ t) (h1 : t ≤ 4611686018427387904) (w : World) (hE : Env w) (hX : ExprAt w g S) :
    Calls Tryd.prog 27 #[.pointer (some ⟨g, 0, none⟩), .int .i64 t] w fun e w' => e = .returned (.agg #[.int .i64 (X.mb t), .int .i64 (X.mb t + K.dim (K.Y t) (K.M t) * 86400), .bool (X.fitM S t),
      .int .i64 (t / 86400 * 86400), .int .i64 (t / 86400 * 86400 + 86400), .bool (X.fitD S t), .int .i64 (t / 3600 * 3600), .int .i64 (t / 3600 * 3600 + 3600), .bool (X.fitH S t), .int .i64 (t / 60 * 60), .int .i64 (t / 60 * 60 + 60), .bool (X.fitI S t)]) ∧ Below w.heap.size w w' := by
  have hd := X.day_bounds t h0
  have hy := K.y_of_le h0 h1
  have hdp := K.dim_pos (K.Y t) (K.M t)
  have hk := (K.forth t h0).1
  obtain ⟨m, em⟩ : ∃ m : Nat, K.M t = m := ⟨(K.M t).toNat, by omega⟩
  obtain ⟨d, ed⟩ : ∃ d : Nat, K.D t = d := ⟨(K.D t).toNat, by omega⟩
  obtain ⟨h, eh⟩ : ∃ h : Nat, K.hh t = h := ⟨(K.hh t).toNat, by have := hk.h1; omega⟩
  obtain ⟨i, ei⟩ : ∃ i : Nat, K.mm t = i := ⟨(K.mm t).toNat, by have := hk.i1; omega⟩
  obtain ⟨k, ek⟩ : ∃ k : Nat, K.W t = k := ⟨(K.W t).toNat, by unfold K.W; omega⟩
  have hk7 : k < 7 := by have : K.W t < 7 := by unfold K.W; omega
                         omega
  have hh24 : h < 24 := by have := hk.h2; omega
  have hi60 : i < 60 := by have := hk.i2; omega
  clear hk
  have fM : X.fitM S t = S (180 + m) := by unfold X.fitM; rw [em]; rfl
  have fD : X.fitD S t = X.onDay S d k := by unfold X.fitD; rw [ed, ek]
  have fH : X.fitH S t = S (60 + h) := by unfold X.fitH; rw [eh]; rfl
  have fI : X.fitI S t = S i := by unfold X.fitI; rw [ei]; rfl
  have fB : X.mb t = t / 86400 * 86400 - ((d : Int) - 1) * 86400 := by unfold X.mb; rw [ed]
  have fO : datOf t = dat (K.Y t) m d h i (K.ss t) k := by unfold datOf; rw [em, ed, eh, ei, ek]
  have hA := at_in t h0 h1
  rw [fO] at hA
  rw [fM, fD, fH, fI, fB, em]
  rw [em, ed] at hd
  rw [em] at hdp
  have HA := hide hA
  have e1 : t - t % 60 = t / 60 * 60 := by omega
  have e2 : t - t % 3600 = t / 3600 * 3600 := by omega
  have e3 : t - t % 86400 = t / 86400 * 86400 := by omega
  have j0 : (0 : Int) ≤ (m : Int) := by omega
  have j1 : (m : Int) < 60 := by omega
  have j2 : (0 : Int) ≤ (h : Int) := by omega
  have j3 : (h : Int) < 60 := by omega
  have j4 : (0 : Int) ≤ (i : Int) := by omega
  have j5 : (i : Int) < 60 := by omega
  clear fM fD fH fI fB fO hA em ed eh ei ek
  go_enter Tryd.func27, Tryd.ntmps27
  go_wp2_with fail
  go_at_call 20
  refine (HA.out _ (hE.alloc _).tab).mono ?_
  rintro e w1 ⟨rfl, hb1⟩
  have hR1 : w1.heap[w.heap.size]? = some (.cells #[.int .i64 0, .int .i64 0, .bool false, .int .i64 0, .int .i64 0, .bool false, .int .i64 0, .int .i64 0, .bool false, .int .i64 0, .int .i64 0, .bool false] 68) := by
    rw [hb1.block _ (by simp)]; exact heap_alloc_new w _
  have hB1 := (Below.put (Below.refl _ w) _).trans (hb1.mono (by simp))
  clear hb1
  have hE1 := hE.keep hB1
  have hX1 := hX.keep hB1
  have hXlt := hX.lt
  clear hE hX
  go_wp2_with fail
  go_at_call 48
  refine (days_in _ _ (by omega) (by omega) (by omega) (by omega) _ (hE1.alloc _).tab).mono ?_
  rintro e w2 ⟨rfl, rfl⟩
  have D0 := DatAt.new w1 (K.Y t) m d h i (K.ss t) k 44
  have hB2 := hB1.trans ((Below.put (Below.refl _ w1) (.cells #[.int .i64 (K.Y t), .int .i64 m, .int .i64 d, .int .i64 h, .int .i64 i, .int .i64 (K.ss t), .int .i64 k] 44)).mono hB1.size)
  have hR2 : (w1.alloc (.cells #[.int .i64 (K.Y t), .int .i64 m, .int .i64 d, .int .i64 h, .int .i64 i, .int .i64 (K.ss t), .int .i64 k] 44)).heap[w.heap.size]? = _ := (Below.heap_alloc _ _ _ (Array.getElem?_eq_some_iff.1 hR1).1).trans hR1
  have hE2 := hE1.alloc (.cells #[.int .i64 (K.Y t), .int .i64 m, .int .i64 d, .int .i64 h, .int .i64 i, .int .i64 (K.ss t), .int .i64 k] 44)
  have hX2 := hX1.alloc (.cells #[.int .i64 (K.Y t), .int .i64 m, .int .i64 d, .int .i64 h, .int .i64 i, .int .i64 (K.ss t), .int .i64 k] 44)
  generalize (w1.alloc (.cells #[.int .i64 (K.Y t), .int .i64 m, .int .i64 d, .int .i64 h, .int .i64 i, .int .i64 (K.ss t), .int .i64 k] 44)) = W2 at *
  have hg01 : w.heap.size < w1.heap.size := (Array.getElem?_eq_some_iff.1 hR1).1
  generalize hg1 : w1.heap.size = g1 at *
  clear hE1 hX1 hR1 hB1
  have d0 := D0.c0
  have d1 := D0.c1
  have d2 := D0.c2
  have d3 := D0.c3
  have d4 := D0.c4
  have d5 := D0.c5
  have d6 := D0.c6
  go_wp2_with fail
  have hd60 : d < 60 := by omega
  have hk60 : k < 60 := by omega
  have cQ : ∀ (dd : Nat) (os : Array Obj), Calls Tryd.prog 49 #[.pointer (some ⟨g, 0, none⟩), dat (K.Y t) m d h i (K.ss t) k] (grow (redrawn W2 dd) os) fun e w'' => e = .returned (.bool (X.onDay S d k)) ∧ ∃ p : Regrown, w'' = grow (redrawn W2 p.d) p.os :=
    fun dd os => Calls.regrown_of (onDay_any g S _ _ _ _ _ d k hd60 hk60 _ (hE2.keep (below_regrown W2 dd os)) (hX2.keep (below_regrown W2 dd os)))
  have HQ := hide cQ
  have r0 := fun dd os => cell_regrown d0 dd os
  have r1 := fun dd os => cell_regrown d1 dd os
  have r2 := fun dd os => cell_regrown d2 dd os
  have r3 := fun dd os => cell_regrown d3 dd os
  have r4 := fun dd os => cell_regrown d4 dd os
  have r5 := fun dd os => cell_regrown d5 dd os
  have r6 := fun dd os => cell_regrown d6 dd os
  have x0 := fun dd os => cell_regrown (hX2.c (180 + m) (by omega)) dd os
  have x1 := fun dd os => cell_regrown (hX2.c (60 + h) (by omega)) dd os
  have x2 := fun dd os => cell_regrown (hX2.c i (by omega)) dd os
  have w1 : IntKind.i64.wrap (K.dim (K.Y t) m * 86400) = K.dim (K.Y t) m * 86400 := wr (by omega) (by omega)
  have w2 : IntKind.i64.wrap (t / 86400 * 86400 - ((d : Int) - 1) * 86400 + K.dim (K.Y t) m * 86400) = t / 86400 * 86400 - ((d : Int) - 1) * 86400 + K.dim (K.Y t) m * 86400 := wr (by omega) (by omega)
  have w3 : IntKind.i64.wrap (t / 86400 * 86400 + 86400) = t / 86400 * 86400 + 86400 := wr (by omega) (by omega)
  have w4 : IntKind.i64.wrap (t / 3600 * 3600 + 3600) = t / 3600 * 3600 + 3600 := wr (by omega) (by omega)
  have w5 : IntKind.i64.wrap (t / 60 * 60 + 60) = t / 60 * 60 + 60 := wr (by omega) (by omega)
  have HR := hide hR2
  have HB2 := hide hB2
  have hlt : w.heap.size < W2.heap.size := (Array.getElem?_eq_some_iff.1 hR2).1
  clear cQ d0 d1 d2 d3 d4 d5 d6 D0 hX2 hE2 hR2 hB2 hg1 HA hy hg01
  refine wp_region_quiet_store rfl (by kernel_rfl) (by kernel_rfl) (by kernel_rfl) ?_
  simp only [List.dropLast, List.cons_append, List.nil_append, still]
  repeat (quiet_step (exact HQ.out _ _))
  refine wpQuiet_nil ?_
  intro w' hw'
  obtain ⟨⟨dd, os⟩, rfl⟩ := hw'
  have hg : (grow (redrawn W2 dd) os).heap[w.heap.size]? = _ := ((below_regrown W2 dd os).block w.heap.size hlt).trans HR.out
  obtain ⟨V, hV⟩ : ∃ V : Array Value, V = #[.int .i64 (t / 86400 * 86400 - ((d : Int) - 1) * 86400), .int .i64 (t / 86400 * 86400 - ((d : Int) - 1) * 86400 + K.dim (K.Y t) m * 86400), .bool (S (180 + m)), .int .i64 (t / 86400 * 86400), .int .i64 (t / 86400 * 86400 + 86400), .bool (X.onDay S d k), .int .i64 (t / 3600 * 3600), .int .i64 (t / 3600 * 3600 + 3600), .bool (S (60 + h)), .int .i64 (t / 60 * 60), .int .i64 (t / 60 * 60 + 60), .bool (S i)] := ⟨_, rfl⟩
  have hV12 : V.size = 12 := by rw [hV]; rfl
  have hi70 : (Tryd.prog.info? 68).map (·.size) = some V.size := by rw [hV12]; kernel_rfl
  have hone : V.all (·.oneCell') = true := by rw [hV]; simp [Value.oneCell']
  refine wp_store_row 68 (.tmp 4) (.tmp 89) rfl w.heap.size V rfl (by rw [hV]; rfl) 68 _ hg hi70 (by rw [hV12]; rfl) hone ?_
  have hg2 : ((grow (redrawn W2 dd) os).setRow w.heap.size V).heap[w.heap.size]? = some (.cells V 68) := setRow_heap _ _ _ _ _ _ hg
  have hB3 := below_setRow (HB2.out.trans ((below_regrown W2 dd os).mono HB2.out.size)) w.heap.size V (Nat.le_refl _)
  have HB3 := hide hB3
  have HG2 := hide hg2
  have HV := hide hV
  clear hg hg2 hB3 hV
  generalize (grow (redrawn W2 dd) os).setRow w.heap.size V = W3 at *
  show Exit.then _ _ Exit.normal (Act.put _ none undef) _
  go_wp2_with fail
  refine bodyPost_ret (v := .agg V) ?_ rfl ⟨by rw [HV.out], HB3.out⟩
  exact results_cell_row (P := Tryd.prog) (fn := Tryd.f27) rfl _ _ w.heap.size 68 V (0, 0) _ rfl HG2.out Tryd.underlying68 rfl hi70
end Go.Proofs.YtbgioclbjbmicaaDoor
