/- PackWriterOwns: room; alike. -/
import Derived.Test.YteaokgolnhdloaaPWoM
import Derived.Test.YteaokgolnhdloaaPRom
import Derived.Test.YteaokgolnhdloaaPTextR
namespace Go.Proofs.Yteaokgolnhdloaa
namespace Ow
open Go.RowKit

theorem alike_same (a b : Option Addr) (n c m d : Nat) (e : Int) (l : List Nat) (w : World) (h1 : Rd w a n l) (h2 : Rd w b m l) :
    Calls Try.prog 26 #[.slice a n c, .int .i64 e, .slice b m d, .int .i64 e] w fun en w' => en = .returned (.bool true) ∧ w' = w := by
  have k1 := conv_rd h1 c
  have k2 := conv_rd h2 d
  clear h1 h2
  generalize str l = S at *
  go_enter Try.func26, Try.ntmps26
  go_wp2
  go_ret
  exact ⟨by simp, rfl⟩
end Ow
end Go.Proofs.Yteaokgolnhdloaa
