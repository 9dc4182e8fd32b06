/- A list of one node, made: one step of a region that draws. -/
import Derived.Test.YtgjjiomnbhildaaVOwn
import Derived.Test.YtgjjiomnbhildaaRLst
namespace Go.Proofs.Ytgjjiomnbhildaa
open Go.RowKit

theorem step_build {ops : Array Oper} {o : Oper} {a : Act} {w : World} {K : Act → World → Prop} {Q : Exit → Act → World → Prop} {E : Prop}
    (hg : o.guard = none) (t : Tmp) (hop : o.op = Op.buildSlice 35 1 #[(0, .tmp t)]) (x0 x1 x2 x3 x4 x5 x6 x7 x8 x9 : Value) (hx : a.tmps[t]?.getD undef = .agg #[x0, x1, x2, x3, x4, x5, x6, x7, x8, x9])
    (hK : K (a.put o.dst (.slice (some ⟨w.heap.size, 0, none⟩) 1 1)) (w.alloc (.cells #[x0, x1, x2, x3, x4, x5, x6, x7, x8, x9] 24))) :
    if Region.wanted o (yielded ops a.tmps) = true then Oper.wp Try.prog o a w K Q else E := by
  have hw : Region.wanted o (yielded ops a.tmps) = true := by simp [Region.wanted, hg]
  rw [if_pos hw]
  obtain ⟨d, op, ty, pos, af, gd⟩ := o
  simp only at hop hg hK
  subst hop
  unfold Oper.wp
  go_simp
  exact hK
end Go.Proofs.Ytgjjiomnbhildaa
