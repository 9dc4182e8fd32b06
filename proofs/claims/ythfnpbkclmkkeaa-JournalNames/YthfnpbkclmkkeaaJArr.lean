/- Arrays of bytes made as a whole. -/
import Derived.Test.YthfnpbkclmkkeaaJLay
import Derived.Test.YthfnpbkclmkkeaaJSum
import Derived.Great.Walk
namespace Go.Proofs.Ythfnpbkclmkkeaa
open Go.RowKit Go.Lib

/-- a variable is made whose zero value is named -/
theorem wpList_alloc_row {ops : Array Oper} {rest : List Oper} {o : Oper} {a : Act} {w : World} {Q : Exit → Act → World → Prop} {t : TypeId} {z : Array Value} (hz : ∀ w, (zeroValue t).run Try.prog w = .ok (.agg z) w) (hg : o.guard = none) (ho : o.op = .alloc t)
    (h : wpList Try.prog ops Q rest (a.put o.dst (.pointer (some ⟨w.heap.size, 0, none⟩))) (w.alloc (.cells z t))) : wpList Try.prog ops Q (o :: rest) a w := by
  refine Great.wpList_allocTo hg o.dst rfl _ _ ?_ h
  unfold execOp
  rw [ho]
  simp [Instr.alloc, hz, go_sem]

def z24 : List Nat := List.replicate 24 0
def z17 : List Nat := List.replicate 17 0
theorem zero24 (w : World) : (zeroValue 99).run Try.prog w = .ok (.agg (B8 z24).toArray) w := by kernel_rfl
theorem zero17 (w : World) : (zeroValue 97).run Try.prog w = .ok (.agg (B8 z17).toArray) w := by kernel_rfl
theorem size24 : (Try.prog.info? 99).map (·.size) = some 24 := by kernel_rfl
theorem size17 : (Try.prog.info? 97).map (·.size) = some 17 := by kernel_rfl

end Go.Proofs.Ythfnpbkclmkkeaa
