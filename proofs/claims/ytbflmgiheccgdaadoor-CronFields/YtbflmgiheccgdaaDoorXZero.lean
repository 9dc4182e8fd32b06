/- The zero value of an expression, where the program's own facts leave it out (a small program, laid whole: drop this text elsewhere). -/
import Derived.Test.YtbflmgiheccgdaaDoorXBase
namespace Go.Proofs

def Tryd.zeroCells50 : Array Value := Array.replicate 300 (.bool false)
@[simp] theorem Tryd.zeroValue50 (w : World) : Sem.run Tryd.prog (zeroValue 50) w = Result.ok (.agg Tryd.zeroCells50) w := by kernel_rfl
@[simp] theorem Tryd.zeroCells50_size : Tryd.zeroCells50.size = 300 := by unfold Tryd.zeroCells50; simp
@[simp] theorem Tryd.zeroCells50_ne : Tryd.zeroCells50 ≠ #[] := fun h => by
  have := congrArg Array.size h
  simp at this
end Go.Proofs
