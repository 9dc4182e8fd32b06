/- DiskOwns: a step whose lists lie in the law's two rooms. -/
import Derived.Test.YtmaeaibphggceaaDOst
namespace Go.Proofs.Ytmaeaibphggceaa
open Go.RowKit Go.Lib

/-- the same step, its lists in the rooms -/
def Stp.moved (q : Stp) (gR m2 gY l1 : Nat) : Stp := { q with ba := some ⟨gR, 0, none⟩, bc := m2, fa := some ⟨gY, 0, none⟩, fc := l1 }
theorem Stp.moved_like (q : Stp) (gR m2 gY l1 : Nat) : (q.moved gR m2 gY l1).like q := ⟨rfl, rfl, rfl, rfl, rfl, rfl, rfl, rfl⟩
theorem Stp.moved_out (q : Stp) (gR m2 gY l1 : Nat) {S : Nat → Prop} (h1 : ¬ S gR) (h2 : ¬ S gY) : (q.moved gR m2 gY l1).out S :=
  ⟨fun g off e _ => by
    injection e with e
    injection e with e
    subst e
    exact h1, fun g off e _ => by
    injection e with e
    injection e with e
    subst e
    exact h2⟩
theorem Stp.moved_ok {W w : World} {q : Stp} {gR gY m2 l1 x2 z1 : Nat} {X : List Nat} {Z : List Int} (hs : StpOk W q)
    (hX : w.ownsRow 0 5 1 (.slice (some ⟨gR, 0, none⟩) m2 m2) m2 (B8 X)) (hXb : ∀ d ∈ X, d < 256) (hXt : X.take x2 = q.b ++ [201, 202]) (hx : x2 = q.b.length + 2) (hxm : x2 ≤ m2) (hm : m2 < 281474976710656)
    (hZ : w.ownsRow 0 3 1 (.slice (some ⟨gY, 0, none⟩) l1 l1) l1 (Zv Z)) (hZb : ∀ x ∈ Z, -9223372036854775808 ≤ x ∧ x ≤ 9223372036854775807) (hZt : Z.take z1 = q.fate ++ [7]) (hz : z1 = q.fate.length + 1) (hzl : z1 ≤ l1) : StpOk w (q.moved gR m2 gY l1) := by
  have hb : X.take q.b.length = q.b := by
    have := congrArg (List.take q.b.length) hXt
    rw [List.take_take, Nat.min_eq_left (by omega), List.take_left] at this
    exact this
  have hf : Z.take q.fate.length = q.fate := by
    have := congrArg (List.take q.fate.length) hZt
    rw [List.take_take, Nat.min_eq_left (by omega), List.take_left] at this
    exact this
  have r1 := rd_pre (n := q.b.length) hX hXb hm (by omega)
  have r2 := rz_pre (n := q.fate.length) hZ hZb hs.rf.2.1 (by omega)
  rw [hb] at r1
  rw [hf] at r2
  exact ⟨hs.which, hs.what, hs.seg, hs.n, hs.mask, r1, r2⟩
end Go.Proofs.Ytmaeaibphggceaa
