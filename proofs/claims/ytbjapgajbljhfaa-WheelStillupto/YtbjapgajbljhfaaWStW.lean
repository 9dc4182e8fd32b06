/- WheelStill: the walk. -/
import Derived.Test.YtbjapgajbljhfaaWStM
import Derived.Deep.QuietTactic
namespace Go.Proofs.Ytbjapgajbljhfaa
namespace Wh
open Go.RowKit Go.Lib Go.Sort Go.Shelf
attribute [local go_sem] Oper.semAt_some

theorem res_bool {fn : Func} {p : Tmp} (h : fn.results = #[.cell p 4]) (tmps : Array Value) (w : World) (g : Nat) (b : Bool) (hp : tmps.getD p undef = .pointer (some ⟨g, 0, none⟩)) (hc : w.cell? ⟨g, 0, none⟩ = some (.bool b)) : (results fn tmps).run Try.prog w = .ok (.bool b) w := by
  have hp' : tmps[p]?.getD undef = .pointer (some ⟨g, 0, none⟩) := by simpa using hp
  simp [results, h, hp', asAddr, hc, go_sem]
theorem named_act {P : Program} {c : Code} {Q : Exit → Act → World → Prop} {a : Act} {w : World} (h : ∀ A : Act, A = a → c.wp P Q A w) : c.wp P Q a w := h a rfl

set_option maxRecDepth 100000 in
set_option maxHeartbeats 16000000 in
theorem still_walk (x0 : Int) (a1 : Option Addr) (n1 c1 : Nat) (a2 : Option Addr) (n2 c2 : Nat) (x3 : Int) (z1 z2 : List Int) (w : World) (b1 : -9223372036854775808 ≤ x0) (b2 : x0 ≤ 9223372036854775807) (hz1 : Rz w a1 n1 z1) (hz2 : Rz w a2 n2 z2) (b3 : -9223372036854775808 ≤ x3) (b4 : x3 ≤ 9223372036854775807) (hn12 : n1 + n2 ≤ 1048576) :
    Calls Try.prog 4 #[.agg #[.int .i64 x0, .slice a1 n1 c1, .slice a2 n2 c2, .int .i64 x3]] w fun e w' => e = .returned (.bool true) ∧ Below w.heap.size w w' := by
  obtain ⟨now, hnow, hnow2⟩ : ∃ n : Nat, pickV x0 4611686018427387904 = (n : Int) ∧ n < 4611686018427387904 := ⟨(pickV x0 4611686018427387904).toNat, by have := pickV_in x0 4611686018427387904 (by omega); omega, by have := pickV_in x0 4611686018427387904 (by omega); omega⟩
  have P1 : Hid (∀ w, Calls Try.prog 7 #[.int .i64 x0, .int .i64 4611686018427387904] w fun e w' => e = .returned (.int .i64 (now : Nat)) ∧ w' = w) := fun w => by rw [← hnow]; exact pick_any x0 4611686018427387904 b1 b2 (by omega) (by omega) w
  have hnM : now ≤ M := by unfold M; omega
  have hn1 := hz1.2.1
  have hl1 := hide hz1.1
  have HZ1 := hide hz1
  have HZ2 := hide hz2
  have hD : Hid ((z1.map (dueOf now)).length = n1) := by show _ = _; rw [List.length_map, ← hl1.out]
  clear hnow b1 b2 hz1 hz2
  refine (callsIn_wide (n := 3)).1 (callsIn_of_wp_marks Try.func4 rfl trivial ?_ rfl)
  simp only [Try.ntmps4, List.size_toArray, List.length_cons, List.length_nil, Nat.reduceAdd, Nat.reduceSub, Array.replicate_succ, Array.replicate_zero, List.push_toArray, List.append_toArray, List.nil_append, List.cons_append]
  refine wpIn_wide.2 ?_
  go_wp2_with fail
  go_at_call 6
  obtain ⟨W0, hW0⟩ : ∃ W0, W0 = (w.alloc (.cells #[.int .i64 x0, .slice a1 n1 c1, .slice a2 n2 c2, .int .i64 x3] 43)).alloc (.cells #[.bool false] 4) := ⟨_, rfl⟩
  rw [← hW0]
  have k0 : Keep (fun _ => False) w W0 := by rw [hW0]; exact (Keep.alloc _ _ _).more (Keep.alloc _ _ _)
  have bx : W0.heap[w.heap.size]? = some (.cells #[.int .i64 x0, .slice a1 n1 c1, .slice a2 n2 c2, .int .i64 x3] 43 (0, 0)) := by
    rw [hW0]; exact (Keep.alloc (fun _ => False) _ _).blk (heap_alloc_new _ _) fun f => f
  have br : W0.heap[w.heap.size + 1]? = some (.cells #[.bool false] 4 (0, 0)) := by
    rw [hW0]
    have := heap_alloc_new (w.alloc (.cells #[.int .i64 x0, .slice a1 n1 c1, .slice a2 n2 c2, .int .i64 x3] 43)) (.cells #[.bool false] 4)
    rwa [World.size_alloc] at this
  obtain ⟨X, hX⟩ : ∃ X, X = w.heap.size := ⟨_, rfl⟩
  rw [← hX] at bx br ⊢
  have HX := hide hX
  clear hW0 hX
  refine (awake_any _).mono ?_
  rintro e w1 ⟨rfl, k1⟩
  have K1 := hide (k0.more k1)
  have BX1 := hide (k1.blk bx fun f => f)
  have BR1 := hide (k1.blk br fun f => f)
  have e0 := cell_blk BX1.out 0 rfl
  have e1 := cell_blk BX1.out 1 rfl
  have e2 := cell_blk BX1.out 2 rfl
  have hXl : X < w1.heap.size := (Array.getElem?_eq_some_iff.1 BX1.out).1
  clear k0 k1 bx br W0
  go_wp2_with fail
  go_at_call 7
  refine (P1.out _).mono ?_
  rintro e w2 ⟨rfl, hw2⟩
  rw [hw2]
  clear hw2 w2 P1
  go_wp2_with fail
  go_at_call 8
  obtain ⟨W2, hW2⟩ : ∃ W2, W2 = (w1.alloc (.cells #[.slice a1 n1 c1] 22)).alloc (.cells #[.slice a2 n2 c2] 22) := ⟨_, rfl⟩
  rw [← hW2]
  have k2 : Keep (fun _ => False) w1 W2 := by rw [hW2]; exact (Keep.alloc _ _ _).more (Keep.alloc _ _ _)
  have bd : W2.heap[w1.heap.size]? = some (.cells #[.slice a1 n1 c1] 22 (0, 0)) := by
    rw [hW2]; exact (Keep.alloc (fun _ => False) _ _).blk (heap_alloc_new _ _) fun f => f
  have bm : W2.heap[w1.heap.size + 1]? = some (.cells #[.slice a2 n2 c2] 22 (0, 0)) := by
    rw [hW2]
    have := heap_alloc_new (w1.alloc (.cells #[.slice a1 n1 c1] 22)) (.cells #[.slice a2 n2 c2] 22)
    rwa [World.size_alloc] at this
  refine (fill_any now hnM a1 n1 c1 z1 W2 (HZ1.out.at (K1.out.more k2) fun _ e => e.elim)).mono ?_
  rintro e w3 ⟨P, s0, rfl, hf, h3, k3⟩
  obtain ⟨S1, hx, hSl, hSs⟩ := h3.exact
  have HF := hide hf
  have k13 := k2.more k3
  have BX3 := hide (k13.blk BX1.out fun f => f)
  have BR3 := hide (k13.blk BR1.out fun f => f)
  have BD3 := hide (k3.blk bd fun f => f)
  have BM3 := hide (k3.blk bm fun f => f)
  have K3 := hide (K1.out.more k13)
  have H3 := hide hx
  have hX1 : X + 1 < w1.heap.size := (Array.getElem?_eq_some_iff.1 BR1.out).1
  have hY : w1.heap.size + 2 ≤ W2.heap.size := by rw [hW2, World.size_alloc, World.size_alloc]; omega
  have hY2 : W2.heap.size ≤ w3.heap.size := k3.size
  have HS1 : Hid (∀ k, S1 k → w1.heap.size + 2 ≤ k ∧ k < w3.heap.size) := fun k e => ⟨Nat.le_trans hY (hSs k e), hSl k e⟩
  have hY3 : w1.heap.size + 2 ≤ w3.heap.size := by omega
  clear hf h3 k3 hx hSl hSs k13 k2 bd bm hW2 BX1 BR1 K1 e0 e1 e2 hY hY2
  generalize w1.heap.size = Y at *
  go_wp2_with fail
  go_at_call 13
  obtain ⟨W4, hW4⟩ : ∃ W4, W4 = w3.alloc (.cells #[.pointer (some ⟨P, 0, none⟩)] 25) := ⟨_, rfl⟩
  rw [← hW4]
  have k4 : Keep (fun _ => False) w3 W4 := by rw [hW4]; exact Keep.alloc _ _ _
  have bp : W4.heap[w3.heap.size]? = some (.cells #[.pointer (some ⟨P, 0, none⟩)] 25 (0, 0)) := by rw [hW4]; exact heap_alloc_new _ _
  have hY4 : w3.heap.size < W4.heap.size := (Array.getElem?_eq_some_iff.1 bp).1
  have H4 := hide (H3.out.new k4)
  have TY : Hid (∀ id ∈ s0.ids, ∃ y1, s0.what id = .int .i64 y1) := HF.out.typed
  refine (all_any W4 H4.out (by rw [HF.out.last, hD.out]; omega) TY.out).mono ?_
  rintro e w5 ⟨Bv, xs, v, rfl, hadv, hb, hrow, hBv, k5⟩
  obtain ⟨hm, hyl⟩ := hadv.all H4.out.1
  have hxl : xs.length = n1 := by rw [hyl, HF.out.len, hD.out]
  have LS := hide (listed_any w5 hb hrow (fun x hx => TY.out x ((hm x).1 hx)) (by omega))
  have k35 := k4.more k5
  have BX5 := hide (k35.blk BX3.out fun f => f)
  have BR5 := hide (k35.blk BR3.out fun f => f)
  have BD5 := hide (k35.blk BD3.out fun f => f)
  have BM5 := hide (k35.blk BM3.out fun f => f)
  have BP5 := hide (k5.blk bp fun f => f)
  have H5 := hide (H4.out.new k5)
  have K5 := hide (K3.out.more k35)
  have HB5 := hide hb
  have RW5 := hide hrow
  have HM := hide hm
  have HBv := hide hBv
  have hY5 : W4.heap.size ≤ w5.heap.size := k5.size
  clear hadv hb hrow hBv k5 hm hyl k35 k4 bp hW4 BX3 BR3 BD3 BM3 H3 H4 K3
  generalize w3.heap.size = Z at *
  go_wp2_with fail
  go_at_call 12
  refine LS.out.mono ?_
  clear LS
  rintro e w6 ⟨aw, cw, rfl, hrow, k6⟩
  have RW6 := hide hrow
  have BX6 := hide (k6.blk BX5.out fun f => f)
  have BR6 := hide (k6.blk BR5.out fun f => f)
  have BD6 := hide (k6.blk BD5.out fun f => f)
  have BM6 := hide (k6.blk BM5.out fun f => f)
  have BP6 := hide (k6.blk BP5.out fun f => f)
  have H6 := hide (H5.out.new k6)
  have K6 := hide (K5.out.more k6)
  have HB6 := hide (k6.blk HB5.out fun f => f)
  have RV6 := hide (ownsRow_far RW5.out k6 fun _ _ f => f)
  have hY6 : w5.heap.size ≤ w6.heap.size := k6.size
  rw [hxl]
  have c1' := cell_blk BD6.out 0 (v := .slice a1 n1 c1) rfl
  have hYl : Y < w6.heap.size := by omega
  clear hrow k6 BX5 BR5 BD5 BM5 BP5 H5 K5 HB5 RW5
  go_wp2_with fail
  obtain ⟨wR, hwR⟩ : ∃ wR, wR = (w6.alloc (.cells #[.slice aw n1 cw] 27)).alloc (.cells #[.int .i64 0] 3) := ⟨_, rfl⟩
  rw [← hwR]
  have kR : Keep (fun _ => False) w6 wR := by rw [hwR]; exact (Keep.alloc _ _ _).more (Keep.alloc _ _ _)
  have bw : wR.heap[w6.heap.size]? = some (.cells #[.slice aw n1 cw] 27 (0, 0)) := by
    rw [hwR]; exact (Keep.alloc (fun _ => False) _ _).blk (heap_alloc_new _ _) fun f => f
  have bn : wR.heap[w6.heap.size + 1]? = some (.cells #[.int .i64 0] 3 (0, 0)) := by
    rw [hwR]
    have := heap_alloc_new (w6.alloc (.cells #[.slice aw n1 cw] 27)) (.cells #[.int .i64 0] 3)
    rwa [World.size_alloc] at this
  have BXR := hide (kR.blk BX6.out fun f => f)
  have BRR := hide (kR.blk BR6.out fun f => f)
  have BDR := hide (kR.blk BD6.out fun f => f)
  have BMR := hide (kR.blk BM6.out fun f => f)
  have BPR := hide (kR.blk BP6.out fun f => f)
  have HBR := hide (kR.blk HB6.out fun f => f)
  have RVR := hide (ownsRow_far RV6.out kR fun _ _ f => f)
  have RWR := hide (ownsRow_far RW6.out kR fun _ _ f => f)
  have BWR := hide bw
  have BNR := hide bn
  have HR := hide (H6.out.new kR)
  have KR := hide (K6.out.more kR)
  have hQR : w6.heap.size + 1 < wR.heap.size := (Array.getElem?_eq_some_iff.1 bn).1
  have hBvQ : Bv < w6.heap.size := (Array.getElem?_eq_some_iff.1 HB6.out).1
  have HVQ : Hid (∀ g, v.ownBlock = some g → W4.heap.size ≤ g ∧ g < w6.heap.size) := fun g e => RV6.out.lt g e
  have HWQ : Hid (∀ g, (Value.slice aw xs.length cw).ownBlock = some g → w5.heap.size ≤ g ∧ g < w6.heap.size) := fun g e => RW6.out.lt g e
  clear bw bn hwR kR BX6 BR6 BD6 BM6 BP6 HB6 RV6 RW6 H6 K6 c1'
  generalize w6.heap.size = Q at *
  obtain ⟨av, cv, hv⟩ := ownsRow_shape RVR.out
  subst hv
  have HZ2R : Hid (∀ W, Keep (fun k => S1 k ∨ k = Q + 1) wR W → Rz W a2 n2 z2) := fun W k => HZ2.out.at (KR.out.trans k fun i e => .inr (by
    have h1 := HX.out
    have h2 := HS1.out i
    rcases e with e | e
    · have := h2 e; omega
    · omega)) fun _ e => e.elim
  have HU : Hid (∀ W, Keep (fun k => S1 k ∨ k = Q + 1) wR W → W.cell? ⟨Z, 0, none⟩ = some (.pointer (some ⟨P, 0, none⟩)) ∧ W.cell? ⟨Y, 0, none⟩ = some (.slice a1 n1 c1) ∧ W.cell? ⟨Y + 1, 0, none⟩ = some (.slice a2 n2 c2) ∧ W.cell? ⟨Q, 0, none⟩ = some (.slice aw n1 cw) ∧ W.cell? ⟨X, 3, none⟩ = some (.int .i64 x3) ∧ W.heap[Bv]? = some (.cells #[.slice av xs.length cv] 27 (0, 0)) ∧ W.heap[X + 1]? = some (.cells #[.bool false] 4 (0, 0)) ∧ W.ownsRow W4.heap.size 32 3 (.slice av xs.length cv) xs.length (cells3 s0 xs) ∧ RdT s0 aw xs W) := fun W k => by
    have off : ∀ i, (i < Y + 2 ∨ Z ≤ i) → i ≠ Q + 1 → ¬ (S1 i ∨ i = Q + 1) := fun i h1 h2 e => by
      rcases e with e | e
      · have := HS1.out i e; omega
      · exact h2 e
    have hB := HBv.out
    have hTY : ∀ x ∈ xs, ∃ y, s0.what x = .int .i64 y := fun x hx => TY.out x ((HM.out x).1 hx)
    refine ⟨cell_blk (k.blk BPR.out (off _ (.inr (Nat.le_refl _)) (by omega))) 0 rfl, cell_blk (k.blk BDR.out (off _ (.inl (by omega)) (by omega))) 0 rfl, cell_blk (k.blk BMR.out (off _ (.inl (by omega)) (by omega))) 0 rfl, cell_blk (k.blk BWR.out (off _ (.inr (by omega)) (by omega))) 0 rfl, cell_blk (k.blk BXR.out (off _ (.inl (by omega)) (by omega))) 3 rfl, k.blk HBR.out (off _ (.inr (by omega)) (by omega)), k.blk BRR.out (off _ (.inl (by omega)) (by omega)), own_blk RVR.out k fun g e => ?_, rdT_own (own_blk RWR.out k fun g e => ?_) hTY⟩
    · have := HVQ.out g e
      exact off g (.inr (by omega)) (by omega)
    · have := HWQ.out g e
      exact off g (.inr (by omega)) (by omega)
  have H0 : Hid (StI wR S1 P (Q + 1) n1 n2 [] wR) := ⟨BNR.out, ⟨s0, S1, HR.out, fun k h => .inl h, by rw [HF.out.last, hD.out]; exact Nat.le_add_right _ _, TY.out⟩, Keep.refl _ _⟩
  have HSR : Hid (∀ k, S1 k → k < wR.heap.size) := fun k e => by have := HS1.out k e; show k < _; omega
  have HSQ : Hid (¬ S1 (Q + 1)) := fun e => by have := HS1.out _ e; omega
  have hXl2 : X < Y := hXl
  clear BPR BDR BMR BWR BXR HBR BRR RVR RWR BNR HR HVQ HWQ
  refine named_act fun A hA => ?_
  refine wpIn_wide.1 (wp_range1 (n := 3) (gf := 34) (lb := #[.pointer (some ⟨Bv, 0, none⟩)]) (by rw [hA]; rfl) (enters_of Try.func34 (by kernel_rfl) rfl) (encs := fun x : Nat => #[.agg #[.int .i64 (x : Nat), .int .i64 (s0.due x : Nat), s0.what x]]) (fun _ => rfl)
    (fun pre W => StI wR S1 P (Q + 1) n1 n2 pre W) (fun pre x W => (∃ post, xs = pre ++ x :: post) ∧ StI wR S1 P (Q + 1) n1 n2 pre W)
    (fun pre x a' W => ∃ Bx y, (∃ post, xs = pre ++ x :: post) ∧ s0.what x = .int .i64 y ∧ a' = { tmps := (A.tmps.setIfInBounds 49 (.agg #[.int .i64 (x : Nat), .int .i64 (s0.due x : Nat), .int .i64 y])).setIfInBounds 12 (.pointer (some ⟨Bx, 0, none⟩)), defers := [] } ∧ wR.heap.size + 1 < Bx ∧ W.heap[Bx]? = some (.cells #[.int .i64 (x : Nat), .int .i64 (s0.due x : Nat), .int .i64 y] 32 (0, 0)) ∧ StI wR S1 P (Q + 1) n1 n2 pre W)
    (fun ys W' => ys = xs ∧ StI wR S1 P (Q + 1) n1 n2 ys W') ?h0 ?hY ?hI ?assign ?body ?iter ?done)
  case h0 => exact fun q => H0.out.new ((Keep.alloc _ _ _).more (Keep.alloc _ _ _))
  case hY =>
    rintro pre x a' W q ⟨Bx, y, e1, e2, e3, e4, e5, e6⟩
    exact ⟨Bx, y, e1, e2, e3, e4, (keep_put _ _ _).blk e5 (by show ¬ (Bx = wR.heap.size + 1); omega), e6.put hQR HSR.out _⟩
  case hI =>
    rintro pre W q h
    exact h.put hQR HSR.out _
  case iter =>
    intro L hLs hLz hR W hW hL
    exact all2_any (s := s0) (xs := xs) (a := av) (c := cv) 3 (wR.heap.size + 1) Bv wR.heap.size (fun pre W => StI wR S1 P (Q + 1) n1 n2 pre W) L hLs hLz (fun pre W h => ⟨cell_blk (HU.out W h.kp).2.2.2.2.2.1 0 rfl, rdT_own (HU.out W h.kp).2.2.2.2.2.2.2.1 fun x hx => TY.out x ((HM.out x).1 hx)⟩) (fun pre W W' h hk => h.new hk) (fun pre x W1 hp hv hl => hR pre x W1 ⟨hp, hv⟩ hl) (by omega) W hW hL
  case assign => as_aux_lemma =>
    rintro lr pre x W K ⟨⟨post, hp⟩, hI⟩ hlt hK
    obtain ⟨y, hy⟩ := TY.out x ((HM.out x).1 (by rw [hp]; simp))
    rw [hy]
    subst hA
    gi_wp2
    exact hK _ _ ((Keep.alloc (fun _ => False) W _).same2 hlt (fun f => f) (fun f => f)) ⟨W.heap.size, y, ⟨post, hp⟩, hy, rfl, by omega, heap_alloc_new _ _, hI.new (Keep.alloc _ _ _)⟩
  case body => as_aux_lemma =>
    rintro lr pre x a' W ⟨Bx, y, ⟨post, hp⟩, hy, rfl, hBx, hbx, hI⟩ hlt
    subst hA
    simp only [List.setIfInBounds_toArray, List.set_cons_succ, List.set_cons_zero]
    have hxk : xs[pre.length]? = some x := by rw [hp]; simp
    have hpl : pre.length < n1 := by have := congrArg List.length hp; simp at this; omega
    obtain ⟨uZ, uY, uM, uQ, _, _, _, _, rW⟩ := HU.out W hI.kp
    obtain ⟨gw, y', eaw, ey', w0, w1, w2⟩ := rW pre.length x hxk
    have eyy : y' = y := by rw [hy] at ey'; injection ey' with _ ey'; exact ey'.symm
    rw [eyy] at w2
    subst eaw
    have x0' := cell_blk hbx 0 (v := .int .i64 (x : Nat)) rfl
    have x1' := cell_blk hbx 1 (v := .int .i64 (s0.due x : Nat)) rfl
    have x2' := cell_blk hbx 2 (v := .int .i64 y) rfl
    have cn := cell_blk hI.nb 0 (v := .int .i64 (pre.length : Nat)) rfl
    have r0 := fun dd os => cell_regrown x0' dd os
    have r1 := fun dd os => cell_regrown x1' dd os
    have r2 := fun dd os => cell_regrown x2' dd os
    have r3 := fun dd os => cell_regrown w0 dd os
    have r4 := fun dd os => cell_regrown w1 dd os
    have r5 := fun dd os => cell_regrown w2 dd os
    have r6 := fun dd os => cell_regrown cn dd os
    have r7 := fun dd os => cell_regrown uQ dd os
    have hpl' : (pre.length : Int) < (n1 : Int) := by omega
    have hpl2 : ¬ ((n1 : Int) ≤ (pre.length : Int)) := by omega
    have hpl3 : decide (n1 ≤ pre.length) = false := by simp; omega
    have HI := hide hI
    clear hI hp hxk ey' rW eyy hbx x0' x1' x2' w0 w1 w2 cn uQ
    generalize s0.due x = dx at *
    obtain ⟨k, hkl⟩ : ∃ k, pre.length = k := ⟨_, rfl⟩
    rw [hkl] at hpl hpl' hpl2 hpl3 r3 r4 r5 r6
    have HKl := hide hkl
    clear hkl
    gi_wp2
    refine wpIn_region_quiet (by kernel_rfl) (by kernel_rfl) (by kernel_rfl) ?hQ ?_
    case hQ =>
      rintro ⟨a, w, h⟩
      exact absurd (show (Exit.outgrown : Exit) = Exit.normal from h.1) (by simp)
    repeat (quiet_step (fail))
    refine wpQuiet_nil ?_
    intro w' hw'
    obtain ⟨⟨dd, os⟩, rfl⟩ := hw'
    have kb : Keep (fun _ => False) W (grow (redrawn W dd) os) := Keep.ofBelow (below_regrown W dd os) (Nat.le_refl _)
    have HI1 := hide (HI.out.new kb)
    have KB := hide kb
    clear kb HI r0 r1 r2 r3 r4 r5 r6 r7 uZ uY uM
    generalize grow (redrawn W dd) os = W1 at *
    obtain ⟨uZ, uY, uM, uQ, _, _, _, _, _⟩ := HU.out W1 HI1.out.kp
    have cn := cell_blk HI1.out.nb 0 (v := .int .i64 (pre.length : Nat)) rfl
    rw [HKl.out] at cn
    obtain ⟨s, S, hw, hS, hl, ht⟩ := HI1.out.wh
    have HW := hide hw
    have HSS := hide hS
    have HL := hide hl
    have HT := hide ht
    have HSt : Hid (∀ w2 s', Keep S W1 w2 → WAt 75 80 (fun k => S k ∨ W1.heap.size ≤ k) w2 P s' → s'.last ≤ n1 + min (pre.length + 1) n2 → Ty s' → w2.heap[Q + 1]? = some (.cells #[.int .i64 (k : Nat)] 3 (0, 0)) ∧ StI wR S1 P (Q + 1) n1 n2 (pre ++ [x]) (w2.setCell ⟨Q + 1, 0, none⟩ (.int .i64 ((k : Int) + 1))) ∧ Same2 wR.heap.size W (w2.setCell ⟨Q + 1, 0, none⟩ (.int .i64 ((k : Int) + 1)))) := fun w2 s' k2 hw2 hl2 ht2 => by
      have h1 := HI1.out.step x HSS.out hQR HSQ.out (by have := KB.out.size; omega) k2 hw2 hl2 ht2
      rw [HKl.out] at h1
      rw [show ((k + 1 : Nat) : Int) = (k : Int) + 1 by omega] at h1
      refine ⟨h1.1, h1.2.1, ((KB.out.mono fun _ f => f.elim).more h1.2.2).same2 hlt (fun e => ?_) fun e => ?_⟩
      · rcases e with e | e | e
        · have := HSR.out _ e; omega
        · omega
        · omega
      · rcases e with e | e | e
        · have := HSR.out _ e; omega
        · omega
        · omega
    clear hw hS hl ht
    by_cases hk2 : k < n2
    · have hk2' : (k : Int) < (n2 : Int) := by omega
      obtain ⟨m, hm⟩ : ∃ m, z2.getD k 0 = m := ⟨_, rfl⟩
      obtain ⟨hz1, _, hzb, hzc⟩ := HZ2R.out W1 HI1.out.kp
      obtain ⟨bm, om, ea2, hbm, hcell⟩ := hzc.resolve_left (by omega)
      subst ea2
      have cm := hcell k hk2
      rw [hm] at cm
      have hmb := hzb m (by rw [← hm, List.getD_eq_getElem?_getD, List.getElem?_eq_getElem (by omega)]; exact List.getElem_mem _)
      have P3 := hide (fun w => pick_any m 3 hmb.1 hmb.2 (by omega) (by omega) w)
      obtain ⟨p3, hpv⟩ : ∃ p3, pickV m 3 = p3 := ⟨_, rfl⟩
      have hp3 : p3 = 0 ∨ p3 = 1 ∨ p3 = 2 := by have := pickV_in m 3 (by omega); omega
      rw [hpv] at P3
      have HMb := hide hmb
      have ht0 : -9223372036854775808 ≤ m.tdiv 3 ∧ m.tdiv 3 ≤ 9223372036854775807 := by
        rcases Int.le_total 0 m with h | h
        · rw [Int.tdiv_eq_ediv_of_nonneg h]; omega
        · have e : m.tdiv 3 = -((-m).tdiv 3) := by rw [Int.neg_tdiv, Int.neg_neg]
          rw [e, Int.tdiv_eq_ediv_of_nonneg (by omega)]; omega
      have HTd := hide ht0
      have hnow := HW.out.1.nowM
      have hlast : s.last ≤ n1 + min k n2 := by have := HL.out; rw [HKl.out] at this; exact this
      clear hm hz1 hzb hzc hbm hcell hpv hmb ht0
      rcases hp3 with rfl | rfl | rfl
      · have HSc : Hid (Calls Try.prog 14 #[.pointer (some ⟨P, 0, none⟩), .int .i64 4611686018427387904, .int .i64 (k : Nat)] W1 fun e w' => e = .returned (.tuple #[.int .i64 ((s.last + 1 : Nat) : Int), .int .i64 0]) ∧ Sched 75 80 S W1 P s 4611686018427387904 (.int .i64 (k : Nat)) w') := schedI 4611686018427387904 (.int .i64 (k : Nat)) ⟨_, rfl⟩ W1 HW.out (by unfold M at hnow; omega) (by unfold M; omega) (by omega)
        gi_wp2
        refine ⟨trivial, (CallsIn.inRound lr (callsIn_wide.2 (P3.out _))).mono ?_⟩
        rintro e wq ⟨rfl, hwq⟩
        have hwq' := hwq.symm
        clear hwq
        subst hwq'
        gi_wp2
        refine ⟨trivial, (CallsIn.inRound lr (callsIn_wide.2 HSc.out)).mono ?_⟩
        rintro e w2 ⟨rfl, hsw, hsk⟩
        obtain ⟨hb2, hst, hsm⟩ := HSt.out w2 _ hsk hsw (by show s.last + 1 ≤ _; rw [HKl.out]; omega) (HT.out.add _ _)
        have cn2 := cell_blk hb2 0 (v := .int .i64 (k : Nat)) rfl
        have fz := frozen_blk hb2 0
        have HST := hide hst
        have HSM := hide hsm
        clear hst hsm hb2 hsw hsk
        gi_wp2
        exact ⟨HSM.out, HST.out⟩
      · obtain ⟨q, hq⟩ : ∃ q : Nat, pickV (m.tdiv 3) n1 = (q : Int) := ⟨(pickV (m.tdiv 3) n1).toNat, by have := pickV_in (m.tdiv 3) n1 (by omega); omega⟩
        have hqn : q < n1 := by have := pickV_in (m.tdiv 3) n1 (by omega); omega
        have HQ1 : Hid (∀ (dd : Nat) (os : Array Obj), Calls Try.prog 7 #[.int .i64 (m.tdiv 3), .int .i64 (n1 : Nat)] (grow (redrawn W1 dd) os) fun e w'' => e = .returned (.int .i64 (q : Nat)) ∧ ∃ p : Regrown, w'' = grow (redrawn W1 p.d) p.os) := fun dd os => Calls.regrown_of ((pick_any (m.tdiv 3) n1 HTd.out.1 HTd.out.2 (by omega) (by omega) _).mono fun e w' ⟨h1, h2⟩ => ⟨by rw [h1, hq], by rw [h2]; exact Below.refl _ _⟩)
        have r0 := fun dd os => cell_regrown uZ dd os
        have r1 := fun dd os => cell_regrown uM dd os
        have r2 := fun dd os => cell_regrown cn dd os
        have r3 := fun dd os => cell_regrown cm dd os
        have r4 := fun dd os => cell_regrown uY dd os
        have hwr : IntKind.i64.wrap (1 + (q : Int)) = 1 + (q : Int) := by rw [IntKind.wrap_i64]; omega
        have hwd : IntKind.i64.wrap (m.tdiv 3) = m.tdiv 3 := by have := HTd.out; rw [IntKind.wrap_i64]; omega
        have HCn : Hid (∀ w', Keep (fun _ => False) W1 w' → Calls Try.prog 15 #[.pointer (some ⟨P, 0, none⟩), .int .i64 (1 + (q : Int))] w' (Cancels 75 80 S w' P s (1 + q))) := fun w' kw => by
          have h := cancelI (1 + q) w' (HW.out.new kw) (by omega) (by omega)
          rw [show ((1 + q : Nat) : Int) = 1 + (q : Int) by omega] at h
          exact h
        clear hq
        gi_wp2
        refine ⟨trivial, (CallsIn.inRound lr (callsIn_wide.2 (P3.out _))).mono ?_⟩
        rintro e wq ⟨rfl, hwq⟩
        have hwq' := hwq.symm
        clear hwq
        subst hwq'
        gi_wp2
        refine wpIn_region_last rfl (by kernel_rfl) (by kernel_rfl) (by kernel_rfl) (by kernel_rfl) ?hQ ?_
        case hQ =>
          rintro ⟨a, w, h⟩
          exact absurd (show (Exit.outgrown : Exit) = Exit.normal from h.1) (by simp)
        simp only [List.dropLast, List.cons_append, List.nil_append, still]
        repeat (quiet_step (exact HQ1.out _ _))
        refine wpQuiet_nil ?_
        intro w' hw'
        obtain ⟨⟨dd, os⟩, rfl⟩ := hw'
        have e75 : ∀ args w, (callFunc 15 args).run Try.prog w = .ok (.enter 15 args) w := enters_of Try.func15 (by kernel_rfl) rfl
        simp only [List.getLast]
        unfold Oper.wp
        simp [go_sem, e75]
        have kb2 : Keep (fun _ => False) W1 (grow (redrawn W1 dd) os) := Keep.ofBelow (below_regrown W1 dd os) (Nat.le_refl _)
        refine (HCn.out _ kb2).mono ?_
        rintro e w9 ⟨k9, h9⟩
        obtain ⟨s', v9, rfl, hw9, hl9, ht9⟩ : ∃ s' v9, e = .returned v9 ∧ WAt 75 80 S w9 P s' ∧ s'.last = s.last ∧ Ty s' := by
          rcases h9 with ⟨_, e1, h⟩ | ⟨_, e1, h⟩
          · exact ⟨_, _, e1, h, rfl, HT.out.del _⟩
          · exact ⟨_, _, e1, h, rfl, HT.out⟩
        obtain ⟨hb2, hst, hsm⟩ := HSt.out w9 s' ((kb2.mono fun _ f => f.elim).more k9) (hw9.mono fun _ e => .inl e) (by rw [hl9, HKl.out]; omega) ht9
        have cn2 := cell_blk hb2 0 (v := .int .i64 (k : Nat)) rfl
        have fz := frozen_blk hb2 0
        have HST := hide hst
        have HSM := hide hsm
        clear hst hsm hb2 hw9 hl9 ht9 k9 h9 kb2
        gi_wp2
        exact ⟨HSM.out, HST.out⟩
      · obtain ⟨q, hq⟩ : ∃ q : Nat, pickV (m.tdiv 3) 1125899906842624 = (q : Int) := ⟨(pickV (m.tdiv 3) 1125899906842624).toNat, by have := pickV_in (m.tdiv 3) 1125899906842624 (by omega); omega⟩
        have hqn : q < 1125899906842624 := by have := pickV_in (m.tdiv 3) 1125899906842624 (by omega); omega
        have hnow2 : s.now ≤ 4611686018427387904 := by unfold M at hnow; omega
        have HQ1 : Hid (∀ (dd : Nat) (os : Array Obj), Calls Try.prog 7 #[.int .i64 (m.tdiv 3), .int .i64 1125899906842624] (grow (redrawn W1 dd) os) fun e w'' => e = .returned (.int .i64 (q : Nat)) ∧ ∃ p : Regrown, w'' = grow (redrawn W1 p.d) p.os) := fun dd os => Calls.regrown_of ((pick_any (m.tdiv 3) 1125899906842624 HTd.out.1 HTd.out.2 (by omega) (by omega) _).mono fun e w' ⟨h1, h2⟩ => ⟨by rw [h1, hq], by rw [h2]; exact Below.refl _ _⟩)
        have HQ2 : Hid (∀ (dd : Nat) (os : Array Obj), Calls Try.prog 11 #[.pointer (some ⟨P, 0, none⟩)] (grow (redrawn W1 dd) os) fun e w'' => e = .returned (.int .i64 (s.now : Nat)) ∧ ∃ p : Regrown, w'' = grow (redrawn W1 p.d) p.os) := fun dd os => by
          obtain ⟨_, _, _, h⟩ := HW.out.new (Keep.ofBelow (S := fun _ => False) (below_regrown W1 dd os) (Nat.le_refl _))
          exact Calls.regrown_of ((nowI _ h).mono fun e w' ⟨h1, h2⟩ => ⟨h1, by rw [h2]; exact Below.refl _ _⟩)
        have HQ3 : Hid (∀ (dd : Nat) (os : Array Obj), Calls Try.prog 16 #[.int .i64 (s.now : Nat), .int .i64 (q : Nat)] (grow (redrawn W1 dd) os) fun e w'' => e = .returned (.int .i64 ((s.now : Int) + (q : Int))) ∧ ∃ p : Regrown, w'' = grow (redrawn W1 p.d) p.os) := fun dd os => Calls.regrown_of ((plus_any s.now q hnow2 (by omega) _).mono fun e w' ⟨h1, h2⟩ => ⟨h1, by rw [h2]; exact Below.refl _ _⟩)
        have r0 := fun dd os => cell_regrown uZ dd os
        have r1 := fun dd os => cell_regrown uM dd os
        have r2 := fun dd os => cell_regrown cn dd os
        have r3 := fun dd os => cell_regrown cm dd os
        have hwd : IntKind.i64.wrap (m.tdiv 3) = m.tdiv 3 := by have := HTd.out; rw [IntKind.wrap_i64]; omega
        have HNx : Hid (∀ w', Keep (fun _ => False) W1 w' → Calls Try.prog 10 #[.pointer (some ⟨P, 0, none⟩), .int .i64 ((s.now : Int) + (q : Int))] w' fun e w9 => ∃ s' v9, e = .returned v9 ∧ WAt 75 80 S w9 P s' ∧ s'.last = s.last ∧ Ty s' ∧ Keep S w' w9) := fun w' kw => by
          by_cases hM : s.now + q ≤ M
          · have h := nextI (s.now + q) w' (HW.out.new kw) (by omega) hM (by omega) HT.out
            rw [show ((s.now + q : Nat) : Int) = (s.now : Int) + (q : Int) by omega] at h
            refine h.mono ?_
            rintro e w9 ⟨k9, h9⟩
            rcases h9 with ⟨s', e1, hn, hw⟩ | ⟨id, s', e1, hn, hw⟩
            · exact ⟨s', _, e1, hw, (HT.out.none hn).2, (HT.out.none hn).1, k9⟩
            · exact ⟨s', _, e1, hw, (HT.out.some hn).2, (HT.out.some hn).1, k9⟩
          · refine (next_bad ((s.now : Int) + (q : Int)) w' (HW.out.new kw) (by unfold M at hM; omega)).mono ?_
            rintro e w9 ⟨e1, k9⟩
            exact ⟨s, _, e1, (HW.out.new kw).new k9, rfl, HT.out, k9.mono fun _ f => f.elim⟩
        clear hq
        gi_wp2
        refine ⟨trivial, (CallsIn.inRound lr (callsIn_wide.2 (P3.out _))).mono ?_⟩
        rintro e wq ⟨rfl, hwq⟩
        have hwq' := hwq.symm
        clear hwq
        subst hwq'
        gi_wp2
        refine wpIn_region_last rfl (by kernel_rfl) (by kernel_rfl) (by kernel_rfl) (by kernel_rfl) ?hQ ?_
        case hQ =>
          rintro ⟨a, w, h⟩
          exact absurd (show (Exit.outgrown : Exit) = Exit.normal from h.1) (by simp)
        simp only [List.dropLast, List.cons_append, List.nil_append, still]
        repeat (quiet_step (first | exact HQ1.out _ _ | exact HQ2.out _ _ | exact HQ3.out _ _))
        refine wpQuiet_nil ?_
        intro w' hw'
        obtain ⟨⟨dd, os⟩, rfl⟩ := hw'
        have e75 : ∀ args w, (callFunc 10 args).run Try.prog w = .ok (.enter 10 args) w := enters_of Try.func10 (by kernel_rfl) rfl
        simp only [List.getLast]
        unfold Oper.wp
        simp [go_sem, e75]
        have kb2 : Keep (fun _ => False) W1 (grow (redrawn W1 dd) os) := Keep.ofBelow (below_regrown W1 dd os) (Nat.le_refl _)
        refine (HNx.out _ kb2).mono ?_
        rintro e w9 ⟨s', v9, rfl, hw9, hl9, ht9, k9⟩
        obtain ⟨hb2, hst, hsm⟩ := HSt.out w9 s' ((kb2.mono fun _ f => f.elim).more k9) (hw9.mono fun _ e => .inl e) (by rw [hl9, HKl.out]; omega) ht9
        have cn2 := cell_blk hb2 0 (v := .int .i64 (k : Nat)) rfl
        have fz := frozen_blk hb2 0
        have HST := hide hst
        have HSM := hide hsm
        clear hst hsm hb2 hw9 hl9 ht9 k9 kb2
        gi_wp2
        exact ⟨HSM.out, HST.out⟩
    · have hk2' : ¬ ((k : Int) < (n2 : Int)) := by omega
      obtain ⟨hb2, hst, hsm⟩ := HSt.out W1 s (Keep.refl _ _) (HW.out.mono fun _ e => .inl e) (by have := HL.out; omega) HT.out
      have fz := frozen_blk hb2 0
      have HST := hide hst
      have HSM := hide hsm
      clear hst hsm hb2
      gi_wp2
      exact ⟨HSM.out, HST.out⟩
  case done =>
    rintro ys W q ⟨hys, hI⟩ hlt hK
    rw [hys] at hI
    clear hys
    subst hA
    have hK' : (W.putObj (wR.heap.size + 1) (.loop q)).heap[wR.heap.size]? = some (.deferred (some [])) := (World.putObj_heap_other (by omega)).trans hK
    have hI' := hI.put hQR HSR.out (.loop q)
    obtain ⟨W8, hW8⟩ : ∃ W8, W8 = W.putObj (wR.heap.size + 1) (.loop q) := ⟨_, rfl⟩
    have hsz : wR.heap.size + 1 < W8.heap.size := by rw [hW8]; simpa using hlt
    rw [← hW8] at hK' hI' ⊢
    clear hW8 hK hI
    obtain ⟨uZ, _, _, _, uX, _, _, _, _⟩ := HU.out W8 hI'.kp
    obtain ⟨s, S, hw, hS, hl, ht⟩ := hI'.wh
    have hlast : s.last < 1048580 := by omega
    have hnow := hw.1.nowM
    have hnow2 : s.now ≤ 4611686018427387904 := by unfold M at hnow; omega
    have HW := hide hw
    have HSS := hide hS
    have HT := hide ht
    have HI := hide hI'
    have HK' := hide hK'
    clear hw hS hl ht hI' hK'
    obtain ⟨q2, hq2⟩ : ∃ q2 : Nat, pickV x3 (4611686018427387904 - (s.now : Int) + 1) = (q2 : Int) := ⟨(pickV x3 (4611686018427387904 - (s.now : Int) + 1)).toNat, by have := pickV_in x3 (4611686018427387904 - (s.now : Int) + 1) (by omega); omega⟩
    have hqb : s.now + q2 ≤ 4611686018427387904 := by have := pickV_in x3 (4611686018427387904 - (s.now : Int) + 1) (by omega); omega
    have HQ1 : Hid (∀ (dd : Nat) (os : Array Obj), Calls Try.prog 7 #[.int .i64 x3, .int .i64 (4611686018427387904 - (s.now : Int) + 1)] (grow (redrawn W8 dd) os) fun e w'' => e = .returned (.int .i64 (q2 : Nat)) ∧ ∃ p : Regrown, w'' = grow (redrawn W8 p.d) p.os) := fun dd os => Calls.regrown_of ((pick_any x3 (4611686018427387904 - (s.now : Int) + 1) b3 b4 (by omega) (by omega) _).mono fun e w' ⟨h1, h2⟩ => ⟨by rw [h1, hq2], by rw [h2]; exact Below.refl _ _⟩)
    have HQ2 : Hid (∀ (dd : Nat) (os : Array Obj), Calls Try.prog 11 #[.pointer (some ⟨P, 0, none⟩)] (grow (redrawn W8 dd) os) fun e w'' => e = .returned (.int .i64 (s.now : Nat)) ∧ ∃ p : Regrown, w'' = grow (redrawn W8 p.d) p.os) := fun dd os => by
      obtain ⟨_, _, _, h⟩ := HW.out.new (Keep.ofBelow (S := fun _ => False) (below_regrown W8 dd os) (Nat.le_refl _))
      exact Calls.regrown_of ((nowI _ h).mono fun e w' ⟨h1, h2⟩ => ⟨h1, by rw [h2]; exact Below.refl _ _⟩)
    have r0 := fun dd os => cell_regrown uZ dd os
    have r1 := fun dd os => cell_regrown uX dd os
    have hw1 : IntKind.i64.wrap (4611686018427387904 - (s.now : Int)) = 4611686018427387904 - (s.now : Int) := by rw [IntKind.wrap_i64]; omega
    have hw2 : IntKind.i64.wrap (4611686018427387904 - (s.now : Int) + 1) = 4611686018427387904 - (s.now : Int) + 1 := by rw [IntKind.wrap_i64]; omega
    have hw3 : IntKind.i64.wrap ((s.now : Int) + (q2 : Int)) = (s.now : Int) + (q2 : Int) := by rw [IntKind.wrap_i64]; omega
    have HAd : Hid (∀ w', Keep (fun _ => False) W8 w' → Calls Try.prog 9 #[.pointer (some ⟨P, 0, none⟩), .int .i64 ((s.now : Int) + (q2 : Int))] w' (Advs S w' P s (s.now + q2))) := fun w' kw => by
      have h := adv_any (s.now + q2) w' (HW.out.new kw) (by omega) (by unfold M; omega) hlast HT.out
      rw [show ((s.now + q2 : Nat) : Int) = (s.now : Int) + (q2 : Int) by omega] at h
      exact h
    clear hq2
    go_wp2_with fail
    refine wp_region_quiet_store rfl (by kernel_rfl) (by kernel_rfl) (by kernel_rfl) ?_
    simp only [List.dropLast, List.cons_append, List.nil_append, still]
    repeat (quiet_step (first | exact HQ1.out _ _ | exact HQ2.out _ _))
    refine wpQuiet_nil ?_
    intro w' hw'
    obtain ⟨⟨dd, os⟩, rfl⟩ := hw'
    have e75 : ∀ args w, (callFunc 9 args).run Try.prog w = .ok (.enter 9 args) w := enters_of Try.func9 (by kernel_rfl) rfl
    simp only [List.getLast]
    unfold Oper.wp
    simp [go_sem, e75]
    have kb2 : Keep (fun _ => False) W8 (grow (redrawn W8 dd) os) := Keep.ofBelow (below_regrown W8 dd os) (Nat.le_refl _)
    refine (HAd.out _ kb2).mono ?_
    rintro e w9 ⟨xsA, vA, rfl, _, _, _, k9⟩
    have K9 : Hid (Keep S W8 w9) := (kb2.mono fun _ f => f.elim).more k9
    have KP9 : Hid (Keep (fun k => S1 k ∨ k = Q + 1) wR w9) := HI.out.kp.trans K9.out fun i h => (HSS.out i h).elim (fun h => .inl (.inl h)) fun h => .inr (by omega)
    have D9 : Hid (w9.heap[wR.heap.size]? = some (.deferred (some []))) := K9.out.blk HK'.out fun h => (HSS.out _ h).elim (fun h => by have := HSR.out _ h; omega) fun h => by omega
    have N9 : Hid (w9.heap[Q + 1]? = some (.cells #[.int .i64 (xs.length : Nat)] 3 (0, 0))) := K9.out.blk HI.out.nb fun h => (HSS.out _ h).elim HSQ.out fun h => by omega
    clear k9 kb2 HAd HQ1 HQ2 r0 r1 hw1 hw2 hw3 uZ uX HW HSS HT HI HK' K9
    obtain ⟨_, _, _, _, _, uB, _, rV, _⟩ := HU.out w9 KP9.out
    have LS := hide (listed_any w9 uB rV (fun x hx => TY.out x ((HM.out x).1 hx)) (by omega))
    clear uB rV
    go_wp2_with fail
    go_at_call 12
    refine LS.out.mono ?_
    clear LS
    rintro e w10 ⟨ag, cg, rfl, hrow, k10⟩
    have HG := hide (rdT_own hrow fun x hx => TY.out x ((HM.out x).1 hx))
    have KP10 : Hid (Keep (fun k => S1 k ∨ k = Q + 1) wR w10) := KP9.out.trans k10 fun _ f => f.elim
    have D10 := hide (k10.blk D9.out fun f => f)
    have N10 := hide (k10.blk N9.out fun f => f)
    clear hrow k10 KP9 D9 N9
    obtain ⟨_, _, _, uQ, _, _, uR, _, rW⟩ := HU.out w10 KP10.out
    have cn := cell_blk N10.out 0 (v := .int .i64 (xs.length : Nat)) rfl
    rw [hxl] at cn ⊢
    have HRW := hide rW
    have UR := hide uR
    have UQ := hide uQ
    clear rW uR
    go_wp2_with fail
    go_loopw [14] (fun iv wx => ∃ j : Nat, iv = .int .i64 (j : Nat) ∧ j ≤ n1 ∧ Hid (Keep (fun _ => False) w10 wx)) (fun iv _ => n1 - (intOf iv).toNat)
    case atStart => exact ⟨0, rfl, Nat.zero_le _, Keep.refl _ _⟩
    case round =>
      clear uQ cn
      obtain ⟨j, rfl, hj, HJ⟩ := hrel
      have uQ := HJ.out.cell UQ.out fun f => f
      rcases Nat.lt_or_ge j n1 with hjl | hjl
      · have hjl' : (j : Int) < (n1 : Int) := by omega
        obtain ⟨x, hx⟩ : ∃ x, xs[j]? = some x := ⟨_, List.getElem?_eq_getElem (by omega)⟩
        obtain ⟨g1, y1, e1, ey1, p0, p1, p2⟩ := HG.out j x hx
        obtain ⟨g2, y2, e2, ey2, p3, p4, p5⟩ := HRW.out j x hx
        have eyy : y2 = y1 := by rw [ey1] at ey2; injection ey2 with _ h; exact h.symm
        subst e1
        subst e2
        rw [eyy] at p5
        have v0 := HJ.out.cell p0 fun f => f
        have v1 := HJ.out.cell p1 fun f => f
        have v2 := HJ.out.cell p2 fun f => f
        have v3 := HJ.out.cell p3 fun f => f
        have v4 := HJ.out.cell p4 fun f => f
        have v5 := HJ.out.cell p5 fun f => f
        clear p0 p1 p2 p3 p4 p5 ey1 ey2 eyy hx
        generalize s0.due x = dx at *
        go_wp2_with fail
        go_quiet (fail)
        have kd : Hid (Keep (fun _ => False) w10 (wr.drewN nq)) := HJ.out.more ⟨rfl, rfl, rfl, Nat.le_refl _, fun _ _ _ => rfl⟩
        go_wp2_with fail
        go_roundw
        case rel => exact ⟨j + 1, by go_num, by omega, kd.out⟩
        case measure => simp [intOf]; omega
      · have hjl' : ¬ ((j : Int) < (n1 : Int)) := by omega
        have uRr := HJ.out.blk UR.out fun f => f
        have cr := cell_blk uRr 0 (v := .bool false) rfl
        have fr := frozen_blk uRr 0
        have HSB := hide (set_blk uRr 0 (.bool true))
        have KF : Hid (Keep (fun k => S1 k ∨ k = Q + 1 ∨ k = X + 1) wR (wr.setCell ⟨X + 1, 0, none⟩ (.bool true))) := ((KP10.out.mono fun _ e => e.elim .inl fun e => .inr (.inl e)).more (HJ.out.mono fun _ f => f.elim)).more ((keep_cell wr (X + 1) 0 (.bool true)).mono fun _ e => .inr (.inr e))
        have DF : Hid ((wr.setCell ⟨X + 1, 0, none⟩ (.bool true)).heap[wR.heap.size]? = some (.deferred (some []))) := (keep_cell wr (X + 1) 0 (.bool true)).blk (HJ.out.blk D10.out fun f => f) (by show ¬ (wR.heap.size = X + 1); omega)
        clear uRr
        go_wp2_with fail
        have hk2 := keep_put (wr.setCell ⟨X + 1, 0, none⟩ (.bool true)) wR.heap.size (.deferred none)
        refine ⟨by simp, .inl ⟨_, _, rfl, run_takeDeferred DF.out, ?_⟩⟩
        refine ⟨_, res_bool rfl _ _ (X + 1) true rfl (cell_blk (hk2.blk HSB.out (by show ¬ (X + 1 = wR.heap.size); omega)) 0 rfl), rfl, ?_⟩
        refine ((KR.out.trans KF.out fun i e => .inr ?_).trans hk2 fun i e => .inr (by rw [e]; exact KR.out.size)).below (Nat.le_refl _) fun _ f => f.elim
        rw [← HX.out]
        rcases e with e | e | e
        · have := HS1.out i e; omega
        · omega
        · omega

end Wh
end Go.Proofs.Ytbjapgajbljhfaa
