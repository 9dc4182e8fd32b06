/- For WheelStill: plus, and Next beyond the greatest time. -/
import Derived.Test.YtbjapgajbljhfaaWAwk
import Derived.Test.YtbjapgajbljhfaaWNxt
namespace Go.Proofs.Ytbjapgajbljhfaa
namespace Wh
open Go.RowKit

theorem plus_any (a b : Nat) (ha : a ≤ 4611686018427387904) (hb : b ≤ 4611686018427387902) (w : World) :
    Calls Try.prog 16 #[.int .i64 (a : Nat), .int .i64 (b : Nat)] w fun e w' => e = .returned (.int .i64 ((a : Int) + (b : Int))) ∧ w' = w := by
  have h1 : ¬ ((9223372036854775807 : Int) - (b : Int) < (a : Int)) := by omega
  have h2 : IntKind.i64.wrap ((9223372036854775807 : Int) - (b : Int)) = (9223372036854775807 : Int) - (b : Int) := by rw [IntKind.wrap_i64]; omega
  have h3 : IntKind.i64.wrap ((a : Int) + (b : Int)) = (a : Int) + (b : Int) := by rw [IntKind.wrap_i64]; omega
  rcases Nat.eq_zero_or_pos b with h0 | h0
  · subst h0
    go_enter Try.func16, Try.ntmps16
    go_wp2_with fail
    go_ret
    exact ⟨by simp, rfl⟩
  · have h4 : (0 : Int) < (b : Int) := by omega
    go_enter Try.func16, Try.ntmps16
    go_wp2_with fail
    go_ret
    exact ⟨rfl, rfl⟩

set_option maxRecDepth 100000 in
set_option maxHeartbeats 4000000 in
theorem next_bad {S : Nat → Prop} {P : Nat} {s : St} (to : Int) (w : World) (h : WAt 75 80 S w P s) (h2 : 4611686018427387904 < to) :
    Calls Try.prog 10 #[.pointer (some ⟨P, 0, none⟩), .int .i64 to] w fun e w' => e = .returned (.tuple #[.agg #[.int .i64 0, .int .i64 0, .int .i64 0], .bool false]) ∧ Keep (fun _ => False) w w' := by
  obtain ⟨hok, m, at_, h⟩ := h
  have hdec : decide ((s.now : Int) ≤ to ∧ to ≤ 4611686018427387904) = false := by simp; omega
  have H := hide h
  have HO := hide hok
  clear h hok
  go_enter Try.func10, Try.ntmps10
  go_wp2_with (go_at_call 24; refine (aheadI to _ (H.out.stay (Keep.alloc (fun _ => False) _ _) (fun _ _ _ h => h) HO.out.rows1.sub)).mono ?_; rw [hdec]; rintro e w1 ⟨rfl, k1⟩
               have K1 := hide ((Keep.alloc (fun _ => False) _ _).more k1)
               have R1 := hide (k1.blk (heap_alloc_new w (.cells #[.int .i64 0, .int .i64 0, .int .i64 0] 32)) fun f => f)
               have r0 := cell_blk R1.out 0 rfl
               have r1 := cell_blk R1.out 1 rfl
               have r2 := cell_blk R1.out 2 rfl
               have f0 := frozen_blk R1.out 0
               have f1 := frozen_blk R1.out 1
               have f2 := frozen_blk R1.out 2
               have hlt : w.heap.size < w1.heap.size := (Array.getElem?_eq_some_iff.1 R1.out).1
               clear k1)
  refine bodyPost_ret (res_timerI rfl _ _ w.heap.size _ _ _ rfl (set3 R1.out _ _ _) rfl) rfl ⟨rfl, ?_⟩
  exact K1.out.trans (keep3 w1 w.heap.size _ _ _) fun k e => .inr (by omega)

end Wh
end Go.Proofs.Ytbjapgajbljhfaa
