/- The document's days: long. -/
import Derived.Test.YtbgioclbjbmicaaDoorXRfD
import Derived.Test.YtbgioclbjbmicaaDoorXBase
import Derived.Deep.RegionHeld3
namespace Go.Proofs.YtbgioclbjbmicaaDoor
open Go.RowKit

/-- A day of the document's, by value. -/
def rdt (r : X.Rc) : Value := .agg #[.int .i64 r.y, .int .i64 r.m, .int .i64 r.d, .int .i64 r.k]
set_option maxHeartbeats 2000000 in
set_option maxRecDepth 100000 in
theorem long_any (y m d k : Int) (h0 : 0 ≤ y) (h1 : y ≤ 400) (w : World) :
    Calls Tryd.prog 50 #[.agg #[.int .i64 y, .int .i64 m, .int .i64 d, .int .i64 k]] w fun e w' => e = .returned (.int .i64 (X.longR y m)) ∧ Below w.heap.size w w' := by
  have hL : X.longR y m = K.dim (1970 + y) m := rfl
  rw [hL]
  obtain ⟨Y, hadd⟩ : ∃ Y, 1970 + y = Y := ⟨_, rfl⟩
  rw [hadd]
  have b0 : (0 : Int) ≤ Y := by omega
  have b1 : Y ≤ 3000 := by omega
  by_cases m2 : m = 2
  · subst m2
    have hd : K.dim Y 2 = K.len Y - 337 := rfl
    rw [hd]
    by_cases hl : K.lp Y
    · rw [K.len_pos hl]
      have q4 : (Y % 4 == 0) = true := by unfold K.lp at hl; simp; omega
      by_cases h100 : Y % 100 = 0
      · have q1 : (Y % 100 != 0) = false := by simp [h100]
        have q2 : (Y % 400 == 0) = true := by unfold K.lp at hl; simp; omega
        clear hl h100
        go_enter Tryd.func50, Tryd.ntmps50
        go_wp2_with fail
        go_ret
        exact ⟨rfl, Below.put (Below.refl _ _) _⟩
      · have q1 : (Y % 100 != 0) = true := by simp [h100]
        clear hl h100
        go_enter Tryd.func50, Tryd.ntmps50
        go_wp2_with fail
        go_ret
        exact ⟨rfl, Below.put (Below.refl _ _) _⟩
    · rw [K.len_neg hl]
      by_cases h4 : Y % 4 = 0
      · have q4 : (Y % 4 == 0) = true := by simp [h4]
        have q1 : (Y % 100 != 0) = false := by unfold K.lp at hl; simp; omega
        have q2 : (Y % 400 == 0) = false := by unfold K.lp at hl; simp; omega
        clear hl h4
        go_enter Tryd.func50, Tryd.ntmps50
        go_wp2_with fail
        go_ret
        exact ⟨rfl, Below.put (Below.refl _ _) _⟩
      · have q4 : (Y % 4 == 0) = false := by simp [h4]
        clear hl h4
        go_enter Tryd.func50, Tryd.ntmps50
        go_wp2_with fail
        go_ret
        exact ⟨rfl, Below.put (Below.refl _ _) _⟩
  · by_cases ms : m = 4 ∨ m = 6 ∨ m = 9 ∨ m = 11
    · have hd : K.dim Y m = 30 := by unfold K.dim; rw [if_neg m2, if_pos ms]
      rw [hd]
      rcases ms with rfl | rfl | rfl | rfl
      all_goals
        go_enter Tryd.func50, Tryd.ntmps50
        go_wp2_with fail
        go_ret
        exact ⟨rfl, Below.put (Below.refl _ _) _⟩
    · have hd : K.dim Y m = 31 := by unfold K.dim; rw [if_neg m2, if_neg ms]
      rw [hd]
      have t2 : (m == 2) = false := by simp; omega
      have t4 : (m == 4) = false := by simp; omega
      have t6 : (m == 6) = false := by simp; omega
      have t9 : (m == 9) = false := by simp; omega
      have t11 : (m == 11) = false := by simp; omega
      clear ms m2
      go_enter Tryd.func50, Tryd.ntmps50
      go_wp2_with fail
      go_ret
      exact ⟨rfl, Below.put (Below.refl _ _) _⟩
end Go.Proofs.YtbgioclbjbmicaaDoor
