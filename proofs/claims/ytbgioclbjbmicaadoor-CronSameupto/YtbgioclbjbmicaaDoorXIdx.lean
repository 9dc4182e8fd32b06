/- An element of an array of structs, by value. -/
import Derived.Test.YtbgioclbjbmicaaDoorXBase
namespace Go.Proofs.YtbgioclbjbmicaaDoor
open Go.RowKit

theorem index_span0 (w : World) (v0 v1 v2 v3 v4 v5 v6 v7 v8 v9 v10 v11 : Value) : (Instr.index 68 (.agg #[v0, v1, v2, v3, v4, v5, v6, v7, v8, v9, v10, v11]) (.int .i64 0)).run Tryd.prog w = .ok (.agg #[v0, v1, v2]) w := by
  simp [Instr.index, Sem.run_bind, run_underlying Tryd.underlying68, part, asIntOf]
theorem index_span1 (w : World) (v0 v1 v2 v3 v4 v5 v6 v7 v8 v9 v10 v11 : Value) : (Instr.index 68 (.agg #[v0, v1, v2, v3, v4, v5, v6, v7, v8, v9, v10, v11]) (.int .i64 1)).run Tryd.prog w = .ok (.agg #[v3, v4, v5]) w := by
  simp [Instr.index, Sem.run_bind, run_underlying Tryd.underlying68, part, asIntOf]
theorem index_span2 (w : World) (v0 v1 v2 v3 v4 v5 v6 v7 v8 v9 v10 v11 : Value) : (Instr.index 68 (.agg #[v0, v1, v2, v3, v4, v5, v6, v7, v8, v9, v10, v11]) (.int .i64 2)).run Tryd.prog w = .ok (.agg #[v6, v7, v8]) w := by
  simp [Instr.index, Sem.run_bind, run_underlying Tryd.underlying68, part, asIntOf]
theorem index_span3 (w : World) (v0 v1 v2 v3 v4 v5 v6 v7 v8 v9 v10 v11 : Value) : (Instr.index 68 (.agg #[v0, v1, v2, v3, v4, v5, v6, v7, v8, v9, v10, v11]) (.int .i64 3)).run Tryd.prog w = .ok (.agg #[v9, v10, v11]) w := by
  simp [Instr.index, Sem.run_bind, run_underlying Tryd.underlying68, part, asIntOf]
end Go.Proofs.YtbgioclbjbmicaaDoor
