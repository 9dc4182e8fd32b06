/- The document's text of a set: digits. -/
import Derived.Test.YtbgioclbjbmicaaDoorXRt0
import Derived.Laws.Concat
namespace Go.Proofs.YtbgioclbjbmicaaDoor
open Go.RowKit

def ten : ByteArray := ⟨#[48, 49, 50, 51, 52, 53, 54, 55, 56, 57]⟩
theorem dig_one (n : Nat) (h : n < 10) : ten.extract n (n + 1) = ⟨(Lib.decDigits n).toArray⟩ := by
  have : (List.range 10).all (fun n => decide (ten.extract n (n + 1) = ⟨(Lib.decDigits n).toArray⟩)) = true := by decide +kernel
  simpa using List.all_eq_true.1 this n (by simpa using h)
theorem dig_two (n : Nat) (h0 : 10 ≤ n) (h : n < 60) : ten.extract (n / 10) (n / 10 + 1) ++ ten.extract (n % 10) (n % 10 + 1) = ⟨(Lib.decDigits n).toArray⟩ := by
  have : (List.range 60).all (fun n => decide (n < 10) || decide (ten.extract (n / 10) (n / 10 + 1) ++ ten.extract (n % 10) (n % 10 + 1) = ⟨(Lib.decDigits n).toArray⟩)) = true := by decide +kernel
  have := List.all_eq_true.1 this n (by simpa using h)
  have hn : ¬ n < 10 := by omega
  simpa [hn] using this
set_option maxHeartbeats 1000000 in
set_option maxRecDepth 100000 in
theorem refDigits_any (n : Nat) (h : n < 60) (w : World) :
    Calls Tryd.prog 47 #[.int .i64 n] w fun e w' => e = .returned (.string ⟨(Lib.decDigits n).toArray⟩) ∧ Below w.heap.size w w' := by
  by_cases h10 : n < 10
  · have hd := dig_one n h10
    unfold ten at hd
    have i0 : (n : Int) < 10 := by omega
    have i1 : (0 : Int) ≤ n := by omega
    have i2 : (n : Int) ≤ (n : Int) + 1 := by omega
    have i3 : (n : Int) + 1 ≤ 10 := by omega
    have HD := hide hd
    clear hd
    go_enter Tryd.func47, Tryd.ntmps47
    go_wp2_with fail
    go_ret
    exact ⟨by rw [HD.out]; rfl, by first | exact Below.refl _ _ | exact ⟨rfl, rfl, rfl, Nat.le_refl _, fun _ _ => rfl⟩⟩
  · have hd := dig_two n (by omega) h
    unfold ten at hd
    have HD := hide hd
    clear hd
    have i0 : ¬ (n : Int) < 10 := by omega
    have i1 : (0 : Int) ≤ n := by omega
    go_enter Tryd.func47, Tryd.ntmps47
    go_wp2_with fail
    go_region
    go_wp2_with fail
    go_ret
    exact ⟨by rw [HD.out]; rfl, by first | exact Below.refl _ _ | exact ⟨rfl, rfl, rfl, Nat.le_refl _, fun _ _ => rfl⟩⟩
end Go.Proofs.YtbgioclbjbmicaaDoor
