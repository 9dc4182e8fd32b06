/- kept: numbers that were lent are as they were, and the marks behind them. -/
import Derived.Test.YtpblmleodcaamaaGLaw
import Derived.Test.YtpblmleodcaamaaGLnt
namespace Go.Proofs.Ytpblmleodcaamaa
namespace Gr
open Go.RowKit

theorem marked_take (z : List Int) : (marked z).take z.length = z := by simp [marked]
theorem marked_len (z : List Int) : (marked z).length = z.length + 20 := by simp [marked]
theorem marked_at {z : List Int} {i : Nat} (h1 : z.length ≤ i) (h2 : i < z.length + 20) : (marked z)[i]? = some (-77) := by
  unfold marked
  rw [List.getElem?_append_right h1, List.getElem?_replicate, if_pos (by omega)]
set_option maxHeartbeats 2000000 in
theorem kept_any (g : Nat) (s : Option Addr × Nat × Nat) (z : List Int) (B : Nat) (w : World) (ho : Own w g (marked z)) (hz : RdZ B w s z) (hl : z.length ≤ 20000) :
    Calls Try.prog 28 #[.slice (some ⟨g, 0, none⟩) (z.length + 20) (z.length + 20), .slice s.1 s.2.1 s.2.2] w fun e w' => e = .returned (.bool true) ∧ Keep (fun _ => False) w w' := by
  obtain ⟨a, n, c⟩ := s
  have hn : n = z.length := hz.1
  subst hn
  have HO := hide ho
  have hrd : RdZ w.heap.size w (some ⟨g, 0, none⟩, z.length, z.length + 20) z := by
    have := ho.rd (n := z.length) (by rw [marked_len]; omega) (by rw [marked_len]; omega) (z.length + 20)
    rwa [marked_take] at this
  have SA := hide (same_any _ _ _ _ _ _ w hrd hz)
  have HM := hide (fun i h1 h2 => marked_at (z := z) (i := i) h1 h2)
  clear ho hz hrd
  obtain ⟨n, hn⟩ : ∃ n, n = z.length := ⟨_, rfl⟩
  rw [decide_eq_true (rfl : z = z)] at SA
  rw [← hn] at SA HM hl
  rw [← hn]
  have hle : (n : Int) ≤ (n : Int) + 20 := by omega
  clear hn
  go_enter Try.func28, Try.ntmps28
  go_wp2_with fail
  go_loopw [5] (fun iv wr => ∃ i : Nat, iv = .int .i64 (i : Nat) ∧ n ≤ i ∧ i ≤ n + 20 ∧ wr = w) (fun iv _ => n + 20 - (intOf iv).toNat)
  case atStart => exact ⟨n, rfl, Nat.le_refl _, by omega, rfl⟩
  case round =>
    obtain ⟨i, rfl, h1, h2, rfl⟩ := hrel
    by_cases hlt : i < n + 20
    · have hc := (HO.out.at (HM.out i h1 hlt)).1
      have hlt' : (i : Int) < (n : Int) + 20 := by omega
      go_wp2_with fail
      go_roundw
      · exact ⟨i + 1, rfl, by omega, by omega, by trivial⟩
      · show n + 20 - ((i : Int) + 1).toNat < n + 20 - (i : Int).toNat
        omega
    · obtain rfl : i = n + 20 := by omega
      go_wp2_with fail
      go_at_call 16
      refine SA.out.mono ?_
      rintro e w3 ⟨rfl, k⟩
      go_wp2_with fail
      go_ret
      exact ⟨rfl, k⟩
end Gr
end Go.Proofs.Ytpblmleodcaamaa
