/- Package cron: Matches. -/
import Derived.Test.YtbgioclbjbmicaaDoorXSpans
import Derived.Test.YtbgioclbjbmicaaDoorXNever
import Derived.Test.YtbgioclbjbmicaaDoorXIdx
import Derived.WalkMore
namespace Go.Proofs.YtbgioclbjbmicaaDoor
open Go.RowKit

set_option maxRecDepth 100000 in
set_option maxHeartbeats 1000000 in
theorem matches_any (g : Nat) (S : X.Sets) (t : Int) (w : World) (hE : Env w) (hX : ExprAt w g S) :
    Calls Tryd.prog 12 #[.pointer (some ⟨g, 0, none⟩), .int .i64 t] w fun e w' => e = .returned (.bool (X.matB S t)) ∧ Below w.heap.size w w' := by
  have ht := tmod0 t 60
  by_cases h : 0 ≤ t ∧ t ≤ 4611686018427387904 ∧ t % 60 = 0
  · obtain ⟨h0, h1, h2⟩ := h
    have hm : t.tmod 60 = 0 := ht.2 h2
    have hmat : X.matB S t = (X.fitM S t && X.fitD S t && X.fitH S t && X.fitI S t) := by
      unfold X.matB X.fit
      simp [h0, h1, h2]
    clear ht
    go_enter Tryd.func12, Tryd.ntmps12
    go_wp2_with fail
    go_at_call 27
    refine (spans_any g S t h0 h1 _ hE hX).mono ?_
    rintro e w1 ⟨rfl, hb1⟩
    have HB := hide hb1
    have HM := hide hmat
    clear hb1 hmat hE hX
    generalize X.mb t = b0 at *
    generalize b0 + K.dim (K.Y t) (K.M t) * 86400 = b1 at *
    generalize t / 86400 * 86400 = b2 at *
    generalize t / 3600 * 3600 = b3 at *
    generalize t / 60 * 60 = b4 at *
    go_wp2_with fail
    have ix0 := index_span0
    have ix1 := index_span1
    have ix2 := index_span2
    have ix3 := index_span3
    go_loopw [21] (fun i' wx => ∃ k : Int, 0 ≤ k ∧ k ≤ 4 ∧ i' = .int .i64 k ∧ Hid ((0 < k → X.fitM S t = true) ∧ (1 < k → X.fitD S t = true) ∧ (2 < k → X.fitH S t = true) ∧ (3 < k → X.fitI S t = true)) ∧ Below w1.heap.size w1 wx) (fun i' _ => 5 - (intOf i').toNat)
    case atStart => exact ⟨0, by omega, by omega, rfl, ⟨fun h => absurd h (by omega), fun h => absurd h (by omega), fun h => absurd h (by omega), fun h => absurd h (by omega)⟩, Below.refl _ _⟩
    case round =>
      obtain ⟨k, hk0, hk, rfl, HF, hbx⟩ := hrel
      have hk4 : k = 0 ∨ k = 1 ∨ k = 2 ∨ k = 3 ∨ k = 4 := by omega
      have HX := hide (HB.out.trans (hbx.mono HB.out.size))
      rcases hk4 with rfl | rfl | rfl | rfl | rfl
      · cases hf : X.fitM S t
        · go_wp2_with fail
          go_ret
          exact ⟨by rw [HM.out, hf]; rfl, HX.out.trans ((Below.put (Below.refl _ _) _).mono HX.out.size)⟩
        · go_wp2_with fail
          exact ⟨⟨1, by omega, by omega, rfl, ⟨fun _ => by first | exact hf | exact trivial, fun h => absurd h (by omega), fun h => absurd h (by omega), fun h => absurd h (by omega)⟩, hbx.trans ((Below.put (Below.refl _ _) _).mono hbx.size)⟩, by simp [intOf]⟩
      · cases hf : X.fitD S t
        · go_wp2_with fail
          go_ret
          exact ⟨by rw [HM.out, hf]; simp, HX.out.trans ((Below.put (Below.refl _ _) _).mono HX.out.size)⟩
        · go_wp2_with fail
          exact ⟨⟨2, by omega, by omega, rfl, ⟨fun _ => HF.out.1 (by omega), fun _ => by first | exact hf | exact trivial, fun h => absurd h (by omega), fun h => absurd h (by omega)⟩, hbx.trans ((Below.put (Below.refl _ _) _).mono hbx.size)⟩, by simp [intOf]⟩
      · cases hf : X.fitH S t
        · go_wp2_with fail
          go_ret
          exact ⟨by rw [HM.out, hf]; simp, HX.out.trans ((Below.put (Below.refl _ _) _).mono HX.out.size)⟩
        · go_wp2_with fail
          exact ⟨⟨3, by omega, by omega, rfl, ⟨fun _ => HF.out.1 (by omega), fun _ => HF.out.2.1 (by omega), fun _ => by first | exact hf | exact trivial, fun h => absurd h (by omega)⟩, hbx.trans ((Below.put (Below.refl _ _) _).mono hbx.size)⟩, by simp [intOf]⟩
      · cases hf : X.fitI S t
        · go_wp2_with fail
          go_ret
          exact ⟨by rw [HM.out, hf]; simp, HX.out.trans ((Below.put (Below.refl _ _) _).mono HX.out.size)⟩
        · go_wp2_with fail
          exact ⟨⟨4, by omega, by omega, rfl, ⟨fun _ => HF.out.1 (by omega), fun _ => HF.out.2.1 (by omega), fun _ => HF.out.2.2.1 (by omega), fun _ => by first | exact hf | exact trivial⟩, hbx.trans ((Below.put (Below.refl _ _) _).mono hbx.size)⟩, by simp [intOf]⟩
      · go_wp2_with fail
        go_ret
        exact ⟨by rw [HM.out, HF.out.1 (by omega), HF.out.2.1 (by omega), HF.out.2.2.1 (by omega), HF.out.2.2.2 (by omega)]; rfl, HX.out⟩
  · have hmat : X.matB S t = false := X.matB_no fun k => h ⟨k.1, k.2.1, k.2.2.1⟩
    have hd : (decide (t < 0) || decide (4611686018427387904 < t) || !(t.tmod 60 == 0)) = true := by
      by_cases h1 : t < 0
      · simp [h1]
      · by_cases h2 : 4611686018427387904 < t
        · simp [h2]
        · have : ¬ t.tmod 60 = 0 := fun k => h ⟨by omega, by omega, ht.1 k⟩
          simp [this]
    rw [hmat]
    clear hmat
    by_cases h1 : t < 0
    · go_enter Tryd.func12, Tryd.ntmps12
      go_wp2_with fail
      go_ret
      exact ⟨rfl, Below.refl _ _⟩
    · by_cases h2 : 4611686018427387904 < t
      · go_enter Tryd.func12, Tryd.ntmps12
        go_wp2_with fail
        go_ret
        exact ⟨rfl, Below.refl _ _⟩
      · have h3 : ¬ t.tmod 60 = 0 := fun k => h ⟨by omega, by omega, ht.1 k⟩
        have h3' : (t.tmod 60 == 0) = false := by simpa using h3
        go_enter Tryd.func12, Tryd.ntmps12
        go_wp2_with fail
        all_goals (try (go_ret; exact ⟨rfl, Below.refl _ _⟩))
end Go.Proofs.YtbgioclbjbmicaaDoor
