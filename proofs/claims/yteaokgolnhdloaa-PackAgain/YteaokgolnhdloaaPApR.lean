/- An append inside a region that draws its order (as PTn2, PTo5 have it, for seats that lack their functions). -/
import Derived.Test.YteaokgolnhdloaaPBase
import Derived.Maps.AppendAt
namespace Go.Proofs.Yteaokgolnhdloaa
namespace Wm
open Go.RowKit
theorem step_append_runB {ops : Array Oper} {o : Oper} {a : Act} {w : World} {K : Act → World → Prop} {Q : Exit → Act → World → Prop} {E : Prop}
    (hg : o.guard = none) (d x : Operand) (t : TypeId) (hop : o.op = Op.call { callee := Callee.builtin Builtin.append, args := #[d, x], argTypes := #[t, t] })
    (v u : Value) (hd : a.eval d = v) (hx : a.eval x = u) {v' : Value} {w' : World} (hr : (Builtin.append_ #[t, t] o.type #[v, u]).run Try.prog w = .ok v' w') (hK : K (a.put o.dst v') w') :
    if Region.wanted o (yielded ops a.tmps) = true then Oper.wp Try.prog o a w K Q else E := by
  have hw : Region.wanted o (yielded ops a.tmps) = true := by simp [Region.wanted, hg]
  rw [if_pos hw]
  unfold Oper.wp
  simp [execOp, hop, resolve, invoke, builtin, hd, hx, hr, Result.andThen]
  exact hK
theorem append_oneB {t e : TypeId} {zv : Value} {nb : Nat} (ht : Try.prog.underlying t = some (.slice e)) (hinfo : (Try.prog.info? e).map (fun i => (i.zero, i.size, i.bytes)) = some (some zv, 1, nb)) (hzs : zv.cells.size = 1) (hnb : nb ≤ 24) {w : World} {b : Nat} {v : Value} {n : Nat} {xs : List Value} (h : w.ownsRow b e 1 v n xs) (hb : b ≤ w.heap.size) (hl : n ≤ 16777216) {B : Nat} {y : Value} (hy : y.oneCell' = true) (hB : w.cell? ⟨B, 0, none⟩ = some y) (ty : TypeId) :
    ∃ a c w', (Builtin.append_ #[t, t] ty #[v, .slice (some ⟨B, 0, none⟩) 1 1]).run Try.prog w = .ok (.slice a (n + 1) c) w' ∧ w'.ownsRow b e 1 (.slice a (n + 1) c) (n + 1) (xs ++ [y]) ∧ w.grownBy w' v.ownBlock := by
  obtain ⟨i0, hi, hz0, hz1, hz2⟩ := info_parts hinfo
  have hbytes : (n + 1) * nb ≤ 140737488355328 := by
    have : (n + 1) * nb ≤ 16777217 * 24 := Nat.mul_le_mul (by omega) hnb
    omega
  obtain ⟨v', w', h1, h2, h3, _⟩ := run_append_own_at (P := Try.prog) w b t ty e i0 zv 1 nb ht hi hz0 hz1 hz2 hzs (by decide) v n xs h ⟨B, 0, none⟩ 1 1 [y] rfl (fun j u hu => by
      cases j with
      | zero =>
        have : u = y := by simpa using hu.symm
        subst this
        simpa [Addr.add] using hB
      | succ j => simp at hu) (fun u hu => by rw [List.mem_singleton.1 hu]; exact hy) (by unfold maxLen; omega) hbytes hb
  obtain ⟨a, c, e⟩ := ownsRow_shape h2
  subst e
  exact ⟨a, c, w', h1, h2, h3⟩
end Wm
end Go.Proofs.Yteaokgolnhdloaa
