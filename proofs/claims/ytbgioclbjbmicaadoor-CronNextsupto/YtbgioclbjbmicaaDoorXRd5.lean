/- The document's days: either, on. -/
import Derived.Test.YtbgioclbjbmicaaDoorXRd4
import Derived.Test.YtbgioclbjbmicaaDoorXRt0
import Derived.Deep.Cut
namespace Go.Proofs.YtbgioclbjbmicaaDoor
open Go.RowKit

set_option maxHeartbeats 1000000 in
set_option maxRecDepth 100000 in
theorem either_any (G : Nat → Nat) (S : X.Sets) (hG : X.Good S) (w : World) (hX : RxAt G S w) :
    Calls Tryd.prog 29 #[rex G] w fun e w' => e = .returned (.bool (X.enough S)) ∧ Below w.heap.size w w' := by
  have hEn := X.enough_eq hG
  have hBx := Bx.new w G
  have hb1 : Below w.heap.size w (w.alloc (.cells #[.slice (some ⟨G 0, 0, none⟩) 60 60, .slice (some ⟨G 1, 0, none⟩) 24 24, .slice (some ⟨G 2, 0, none⟩) 32 32, .slice (some ⟨G 3, 0, none⟩) 13 13, .slice (some ⟨G 4, 0, none⟩) 7 7] 26)) := Below.put (Below.refl _ _) _
  have HEn := hide hEn
  clear hEn
  generalize X.enough S = E at *
  unfold rex
  go_enter Tryd.func29, Tryd.ntmps29
  go_wp2_with fail
  generalize w.alloc (.cells #[.slice (some ⟨G 0, 0, none⟩) 60 60, .slice (some ⟨G 1, 0, none⟩) 24 24, .slice (some ⟨G 2, 0, none⟩) 32 32, .slice (some ⟨G 3, 0, none⟩) 13 13, .slice (some ⟨G 4, 0, none⟩) 7 7] 26) = W1 at *
  have hX1 := hX.keep hb1
  go_at_call 46
  refine (refWhole_any G S 2 (by decide) W1 hX1).mono ?_
  rintro e w2 ⟨rfl, hb2⟩
  have hX2 := hX1.keep hb2
  have hB2 := hBx.keep hb2
  have HB2 := hide (hb1.trans (hb2.mono hb1.size))
  have a0 := hB2.c0; have a1 := hB2.c1; have a2 := hB2.c2; have a3 := hB2.c3; have a4 := hB2.c4
  clear hb1 hb2 hX1 hX hBx hB2
  go_wp2_with fail
  go_at_call 46
  refine (refWhole_any G S 4 (by decide) w2 hX2).mono ?_
  rintro e w3 ⟨rfl, hb3⟩
  have HB3 := hide (HB2.out.trans (hb3.mono HB2.out.size))
  clear hb3 a0 a1 a2 a3 a4 hX2
  have hE := HEn.out
  cases h2 : allT S 2 <;> cases h4 : allT S 4
  all_goals
    rw [h2, h4] at hE
    simp only [Bool.not_false, Bool.not_true, Bool.and_self, Bool.and_false, Bool.false_and] at hE
    subst hE
    go_wp2_with fail
    go_ret
    exact ⟨rfl, HB3.out⟩
set_option maxHeartbeats 2000000 in
set_option maxRecDepth 100000 in
theorem on_any (G : Nat → Nat) (S : X.Sets) (y : Int) (m d k : Nat) (hm : m ≤ 12) (hd : d ≤ 31) (hk : k ≤ 6) (w : World) (hX : RxAt G S w) :
    Calls Tryd.prog 28 #[rex G, .bool (X.enough S), .agg #[.int .i64 y, .int .i64 m, .int .i64 d, .int .i64 k]] w fun e w' => e = .returned (.bool (X.onR S ⟨y, m, d, k⟩)) ∧ Below w.heap.size w w' := by
  have hR : X.onR S ⟨y, m, d, k⟩ = (S (180 + m) && (if X.enough S then S (120 + d) || S (240 + k) else S (120 + d) && S (240 + k))) := rfl
  rw [hR]
  clear hR
  generalize X.enough S = E
  have cm := hX 3 (by decide) m (by show m < 13; omega)
  have cd := hX 2 (by decide) d (by show d < 32; omega)
  have ck := hX 4 (by decide) k (by show k < 7; omega)
  rw [show 60 * 3 + m = 180 + m by omega] at cm
  rw [show 60 * 2 + d = 120 + d by omega] at cd
  rw [show 60 * 4 + k = 240 + k by omega] at ck
  have lm := World.block_lt_of_cell? _ _ cm
  have ld := World.block_lt_of_cell? _ _ cd
  have lk := World.block_lt_of_cell? _ _ ck
  have i0 : (m : Int) < 13 := by omega
  have i1 : (d : Int) < 32 := by omega
  have i2 : (k : Int) < 7 := by omega
  have j0 : (0 : Int) ≤ m := by omega
  have j1 : (0 : Int) ≤ d := by omega
  have j2 : (0 : Int) ≤ k := by omega
  unfold rex
  generalize S (180 + m) = sm at *
  generalize S (120 + d) = sd at *
  generalize S (240 + k) = sk at *
  clear hX
  have CM := hide (show ∀ W, Below w.heap.size w W → W.cell? ⟨G 3, m, none⟩ = some (.bool sm) ∧ W.cell? ⟨G 2, d, none⟩ = some (.bool sd) ∧ W.cell? ⟨G 4, k, none⟩ = some (.bool sk) from fun W hW => ⟨by rw [hW.cell (p := ⟨G 3, m, none⟩) lm]; exact cm, by rw [hW.cell (p := ⟨G 2, d, none⟩) ld]; exact cd, by rw [hW.cell (p := ⟨G 4, k, none⟩) lk]; exact ck⟩)
  have hBx := Bx.new w G
  have hb1 : Below w.heap.size w (w.alloc (.cells #[.slice (some ⟨G 0, 0, none⟩) 60 60, .slice (some ⟨G 1, 0, none⟩) 24 24, .slice (some ⟨G 2, 0, none⟩) 32 32, .slice (some ⟨G 3, 0, none⟩) 13 13, .slice (some ⟨G 4, 0, none⟩) 7 7] 26)) := Below.put (Below.refl _ _) _
  have hs1 := size_alloc w (.cells #[.slice (some ⟨G 0, 0, none⟩) 60 60, .slice (some ⟨G 1, 0, none⟩) 24 24, .slice (some ⟨G 2, 0, none⟩) 32 32, .slice (some ⟨G 3, 0, none⟩) 13 13, .slice (some ⟨G 4, 0, none⟩) 7 7] 26)
  have HBx := hide hBx
  have HB1 := hide hb1
  have HS1 := hide hs1
  clear cm cd ck lm ld lk hBx hb1 hs1
  go_enter Tryd.func28, Tryd.ntmps28
  go_upto_region 1 with fail
  generalize w.alloc (.cells #[.slice (some ⟨G 0, 0, none⟩) 60 60, .slice (some ⟨G 1, 0, none⟩) 24 24, .slice (some ⟨G 2, 0, none⟩) 32 32, .slice (some ⟨G 3, 0, none⟩) 13 13, .slice (some ⟨G 4, 0, none⟩) 7 7] 26) = W1 at *
  have hD := D4.new W1 (.int .i64 y) (.int .i64 m) (.int .i64 d) (.int .i64 k) 73
  have hb2 : Below W1.heap.size W1 (W1.alloc (.cells #[.int .i64 y, .int .i64 m, .int .i64 d, .int .i64 k] 73)) := Below.put (Below.refl _ _) _
  rw [HS1.out] at hD
  generalize W1.alloc (.cells #[.int .i64 y, .int .i64 m, .int .i64 d, .int .i64 k] 73) = W2 at *
  have hB2 := HBx.out.keep hb2
  have HB2 := hide (HB1.out.trans (hb2.mono HB1.out.size))
  obtain ⟨c1, c2, c3⟩ := CM.out _ HB2.out
  have a0 := hB2.c0; have a1 := hB2.c1; have a2 := hB2.c2; have a3 := hB2.c3; have a4 := hB2.c4
  have e0 := hD.c0; have e1 := hD.c1; have e2 := hD.c2; have e3 := hD.c3
  clear HBx HB1 HS1 CM hb2 hB2 hD
  cases sm
  · cases E
    all_goals
      go_wp2_with fail
      go_ret
      exact ⟨by simp, HB2.out⟩
  · cases E <;> cases sd <;> cases sk
    all_goals
      go_wp2_with fail
      go_ret
      exact ⟨by simp, HB2.out⟩
end Go.Proofs.YtbgioclbjbmicaaDoor
