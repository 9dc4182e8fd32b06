/- QueueNews. -/
import Derived.Test.YtcopldjnkngjcaaQLaw
namespace Go.Proofs.Ytcopldjnkngjcaa
namespace Qu
open Go.RowKit

theorem refNew_bad (c : Int) (w : World) (h : c < 1 ∨ 65536 < c) :
    Calls Try.prog 11 #[.int .i64 c] w fun e w' => e = .returned (.tuple #[.pointer none, .int .i64 80]) ∧ w' = w := by
  by_cases e1 : c < 1
  · go_enter Try.func11, Try.ntmps11
    go_wp2
    go_ret2
    exact ⟨rfl, rfl⟩
  · have e2 : 65536 < c := by omega
    go_enter Try.func11, Try.ntmps11
    go_wp2
    go_ret2
    exact ⟨rfl, rfl⟩
theorem refNew_any (c : Nat) (w : World) (h1 : 1 ≤ c) (h2 : c ≤ 65536) :
    Calls Try.prog 11 #[.int .i64 c] w fun e w' => e = .returned (.tuple #[.pointer (some ⟨w.heap.size, 0, none⟩), .int .i64 0]) ∧ w' = w.alloc (.cells #[.int .i64 c, .int .i64 0, .slice none 0 0] 52) := by
  have e1 : ¬ ((c : Int) < 1) := by omega
  have e2 : ¬ ((65536 : Int) < c) := by omega
  go_enter Try.func11, Try.ntmps11
  go_wp2
  go_ret2
  exact ⟨rfl, rfl⟩

set_option maxRecDepth 100000 in
set_option maxHeartbeats 4000000 in
theorem news_walk (c : Int) (W : World) (_ : -9223372036854775808 ≤ c) (_ : c ≤ 9223372036854775807) : Calls Try.prog 3 #[.int .i64 c] W fun e W' => e = .returned (.bool true) ∧ Below W.heap.size W W' := by
  by_cases hc : c < 1 ∨ 65536 < c
  · have HN : Hid (∀ w, _) := fun w => newI_bad c w hc
    have HR : Hid (∀ w, _) := fun w => refNew_bad c w hc
    clear hc
    go_enter Try.func3, Try.ntmps3
    go_wp2_with fail
    go_at_call 9
    refine (known_any W).mono ?_
    rintro e w1 ⟨rfl, k1⟩
    have K1 := hide k1
    clear k1
    go_wp2_with fail
    go_at_call 10
    refine (HN.out w1).mono ?_
    rintro e w2 ⟨rfl, rfl⟩
    go_wp2_with fail
    go_at_call 11
    refine (HR.out w2).mono ?_
    rintro e w3 ⟨rfl, rfl⟩
    go_wp2
    go_ret
    exact ⟨rfl, K1.out.below (Nat.le_refl _) fun _ f => f.elim⟩
  · obtain ⟨n, rfl⟩ : ∃ n : Nat, c = (n : Int) := ⟨c.toNat, by omega⟩
    have h1 : 1 ≤ n := by omega
    have h2 : n ≤ 65536 := by omega
    have H12 := hide (And.intro h1 h2)
    clear hc h1 h2
    go_enter Try.func3, Try.ntmps3
    go_wp2_with fail
    go_at_call 9
    refine (known_any W).mono ?_
    rintro e w1 ⟨rfl, k1⟩
    have K1 := hide k1
    clear k1
    go_wp2_with fail
    go_at_call 10
    refine (newI n w1 H12.out.1 H12.out.2).mono ?_
    rintro e w2 ⟨P, rfl, h2, k2⟩
    have H2 := hide h2
    have K2 := hide (K1.out.more k2)
    clear h2 k2
    go_wp2_with fail
    go_at_call 11
    refine (refNew_any n w2 H12.out.1 H12.out.2).mono ?_
    rintro e w3 ⟨rfl, hw3⟩
    have k3 : Keep (fun _ => False) w2 w3 := by rw [hw3]; exact Keep.alloc _ _ _
    have H3 := hide (H2.out.new k3)
    have K3 := hide (K2.out.more k3)
    clear hw3 k3
    go_wp2_with fail
    go_at_call 12
    refine (popI w3 H3.out).mono ?_
    rintro e w4 ⟨rfl, h4, k4⟩
    have H4 : Hid (QAt KI (fun k => w1.heap.size ≤ k) w4 P (fresh n)) := h4
    have K4 := hide (K3.out.trans k4 fun k e => .inr (Nat.le_trans K1.out.size e))
    rw [show frontV KI (.int .i64 0) (fresh n) = .int .i64 0 from rfl, show (fresh (α := Int) n).row.isEmpty = true from rfl]
    clear h4 k4
    go_wp2_with fail
    go_at_call 13
    obtain ⟨_, _, m4, v4, q4⟩ := H4.out
    refine (frontI w4 q4).mono ?_
    rintro e w5 ⟨rfl, rfl⟩
    rw [show frontV KI (.int .i64 0) (fresh n) = .int .i64 0 from rfl, show (fresh (α := Int) n).row.isEmpty = true from rfl]
    clear q4
    go_wp2_with fail
    go_at_call 14
    refine (whole_any w5 H4.out).mono ?_
    rintro e w6 ⟨a, c, rfl, _, k6⟩
    rw [show (fresh (α := Int) n).row.length * 2 = 0 from rfl]
    have H6 := hide (H4.out.new k6)
    have K6 := hide (K4.out.more k6)
    clear k6
    go_wp2_with fail
    go_at_call 15
    obtain ⟨_, _, m6, v6, q6⟩ := H6.out
    refine (lenI w6 q6).mono ?_
    rintro e w7 ⟨rfl, rfl⟩
    rw [show (fresh (α := Int) n).row.length = 0 from rfl]
    clear q6
    go_wp2
    go_ret
    exact ⟨rfl, K6.out.below (Nat.le_refl _) fun _ f => f.elim⟩

end Qu
end Go.Proofs.Ytcopldjnkngjcaa
