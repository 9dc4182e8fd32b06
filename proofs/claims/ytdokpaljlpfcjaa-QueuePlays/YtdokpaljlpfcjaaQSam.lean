/- Chapter 8's laws: same: two answers that are alike. -/
import Derived.Test.YtdokpaljlpfcjaaQWan
import Derived.Test.YtdokpaljlpfcjaaQInt
namespace Go.Proofs.Ytdokpaljlpfcjaa
namespace Qu
open Go.RowKit

set_option maxRecDepth 100000 in
set_option maxHeartbeats 4000000 in
theorem same_any (c n kk : Int) (b : Bool) {x y : Option Addr} {m d d' : Nat} {z : List Int} (w : World) (h1 : RdZ w x m d z) (h2 : RdZ w y m d' z) (hz : z.length ≤ 8796093022208) :
    Calls Try.prog 11 #[.agg #[.int .i64 c, .int .i64 n, .bool b, .int .i64 kk, .slice x m d], .agg #[.int .i64 c, .int .i64 n, .bool b, .int .i64 kk, .slice y m d']] w fun e w' => e = .returned (.bool true) ∧ Keep (fun _ => False) w w' := by
  obtain ⟨w1, hw1⟩ : ∃ w1, w1 = (w.alloc (.cells #[.int .i64 c, .int .i64 n, .bool b, .int .i64 kk, .slice x m d] 39)).alloc (.cells #[.int .i64 c, .int .i64 n, .bool b, .int .i64 kk, .slice y m d'] 39) := ⟨_, rfl⟩
  have k1 : Keep (fun _ => False) w w1 := by rw [hw1]; exact (Keep.alloc _ _ _).more (Keep.alloc _ _ _)
  have HI := hide (ints_same w1 (h1.new k1) (h2.new k1) hz)
  have HK1 := hide k1
  have HW1 := hide hw1
  have hbb : (b == b) = true := by cases b <;> rfl
  clear h1 h2 k1 hw1
  go_enter Try.func11, Try.ntmps11
  go_wp2_with (go_at_call 12; simp only [← HW1.out]; refine HI.out.mono ?_; rintro e w2 ⟨rfl, hk⟩; have HK2 := hide hk; clear hk)
  go_ret
  exact ⟨rfl, HK1.out.more HK2.out⟩
end Qu
end Go.Proofs.Ytdokpaljlpfcjaa
