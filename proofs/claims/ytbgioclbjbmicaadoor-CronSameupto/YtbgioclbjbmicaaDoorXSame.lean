/- Package cron: Same. -/
import Derived.Test.YtbgioclbjbmicaaDoorXSpan
import Derived.Test.YtbgioclbjbmicaaDoorXLast
namespace Go.Proofs.YtbgioclbjbmicaaDoor
open Go.RowKit

/-- 300 bools as a value. -/
def row300 (S : X.Sets) : Array Value := Array.ofFn (n := 300) fun i => .bool (S i.val)
theorem row300_size (S : X.Sets) : (row300 S).size = 300 := by simp [row300]
theorem row300_at (S : X.Sets) (i : Nat) (h : i < 300) : (row300 S)[i]? = some (.bool (S i)) := by simp [row300, h]
theorem row300_cut (S : X.Sets) (f : Nat) (hf : f < 5) : (row300 S).extract (f * 60) (f * 60 + 60) = row60 fun v => S (60 * f + v) := by
  apply Array.ext_getElem?
  intro i
  have hs := row300_size S
  have hs' := row60_size fun v => S (60 * f + v)
  rw [Array.getElem?_extract]
  by_cases hi : i < 60
  · rw [if_pos (by omega), row300_at _ _ (by omega), row60_at _ _ hi, Nat.mul_comm f 60]
  · rw [if_neg (by omega), Array.getElem?_eq_none (by omega)]
theorem row300_range {w : World} {g : Nat} {S : X.Sets} (h : ExprAt w g S) : w.rangeAt g 0 (row300 S).toList := by
  intro j v hv
  have hj : j < 300 := by
    rcases Nat.lt_or_ge j 300 with h' | h'
    · exact h'
    · rw [List.getElem?_eq_none (by rw [Array.length_toList, row300_size]; exact h')] at hv; cases hv
  have e : (row300 S).toList[j]? = some (.bool (S j)) := by rw [Array.getElem?_toList]; exact row300_at S j hj
  rw [Nat.zero_add, h.c j hj, ← e, hv]
def sameB (S T : X.Sets) : Bool := (List.range 5).all fun f => (List.range 60).all fun v => S (60 * f + v) == T (60 * f + v)
theorem sameB_self (S : X.Sets) : sameB S S = true := by simp [sameB]
theorem run_size_set (w : World) : (sizeOf 57).run Tryd.prog w = .ok 60 w := by
  have h := size_set
  cases hq : Tryd.prog.info? 57 with
  | none => simp [hq] at h
  | some i =>
    simp only [hq, Option.map_some, Option.some.injEq] at h
    simp [sizeOf, typeInfo, hq, h]
theorem eql_sets (d : Nat) (w : World) (S T : X.Sets) : (Op.equalIn (d + 3) 58 (.agg (row300 S)) (.agg (row300 T))).run Tryd.prog w = .ok (sameB S T) w := by
  refine run_equalIn_arr w (d + 2) 58 57 5 60 _ _ _ Tryd.underlying58 (run_size_set w) ?_
  intro i hi
  have ha : (isAgg 57).run Tryd.prog w = .ok true w := by simp [isAgg, Sem.run_bind, run_underlying Tryd.underlying57]
  refine ⟨.agg (row60 fun v => S (60 * i + v)), .agg (row60 fun v => T (60 * i + v)), ?_, ?_, eql_set d w _ _⟩
  · simp [part, Sem.run_bind, ha, row300_cut S i hi]
  · simp [part, Sem.run_bind, ha, row300_cut T i hi]
theorem guard_sets : Tryd.prog.eqGuardType Tryd.prog.depth 58 = false := by kernel_rfl
theorem size_sets : (Tryd.prog.info? 58).map (·.size) = some 300 := by kernel_rfl
theorem wpQuiet_load {P : Program} {ops : Array Oper} {C : World → Prop} {Q : Act → Prop} {a : Act} {op : Oper} {rest : List Oper} (hw : Region.wanted op (yielded ops a.tmps) = true) (ty : TypeId) (x : Operand) (ho : op.op = .load ty x)
    (b o : Nat) (hx : a.eval x = .pointer (some ⟨b, o, none⟩)) (cs : List Value) (d : TypeDesc) (hS : ∀ w, C w → w.rangeAt b o cs)
    (hu : P.underlying ty = some d) (hd : d.isRow = true) (hi : (P.info? ty).map (·.size) = some cs.length) (h : wpQuiet P ops C Q rest (a.put op.dst (.agg cs.toArray))) : wpQuiet P ops C Q (op :: rest) a := by
  unfold wpQuiet
  rw [if_pos hw]
  refine ⟨_, fun w hw' => ?_, h⟩
  unfold Oper.quietAt
  have : (execOp a.eval op).run P w = .ok (.value (.agg cs.toArray)) w := by
    unfold execOp
    simp only [ho, hx, Instr.loadAt, Instr.sureAddr, Sem.run_bind, Sem.run_pure, Result.andThen_ok, run_loadVar_mid w b o ty cs d (hS w hw') hu hd hi]
  rw [this]
  exact ⟨rfl, rfl⟩
set_option maxRecDepth 100000 in
set_option maxHeartbeats 400000 in
theorem same_any (g k : Nat) (S T : X.Sets) (w : World) (hX : ExprAt w g S) (hY : ExprAt w k T) :
    Calls Tryd.prog 18 #[.pointer (some ⟨g, 0, none⟩), .pointer (some ⟨k, 0, none⟩)] w fun e w' => e = .returned (.bool (sameB S T)) ∧ Below w.heap.size w w' := by
  have hu := Tryd.underlying58
  have hm := guard_sets
  have hr := row300_range hX
  have hr' := row300_range hY
  have heq : ∀ w', (Op.equalIn 10000 58 (.agg (row300 S)) (.agg (row300 T))).run Tryd.prog w' = .ok (sameB S T) w' := fun w' => eql_sets 9997 w' _ _
  have hi0 : (Tryd.prog.info? 58).map (·.size) = some (row300 S).toList.length := by rw [Array.length_toList, row300_size]; exact size_sets
  have hi1 : (Tryd.prog.info? 58).map (·.size) = some (row300 T).toList.length := by rw [Array.length_toList, row300_size]; exact size_sets
  have hlen : (row300 S).toList.length = 300 := by rw [Array.length_toList, row300_size]
  have hlen' : (row300 T).toList.length = 300 := by rw [Array.length_toList, row300_size]
  generalize hF : row300 S = F at *
  have hFl : F.toList.toArray = F := by simp
  generalize F.toList = cs at *
  have hcs : Value.agg cs.toArray = .agg F := by rw [hFl]
  generalize hF' : row300 T = F' at *
  have hFl' : F'.toList.toArray = F' := by simp
  generalize F'.toList = cs' at *
  have hcs' : Value.agg cs'.toArray = .agg F' := by rw [hFl']
  clear hF hF'
  go_enter Tryd.func18, Tryd.ntmps18
  go_wp2_with fail
  refine wp_region_quiet_lit (by kernel_rfl) (by kernel_rfl) ?_
  have hr2 : ∀ w', (∃ n, w' = w.drewN n) → w'.rangeAt g 0 cs := by rintro w' ⟨n, rfl⟩ j v hv; exact hr j v hv
  have hr3 : ∀ w', (∃ n, w' = w.drewN n) → w'.rangeAt k 0 cs' := by rintro w' ⟨n, rfl⟩ j v hv; exact hr' j v hv
  repeat (first | (refine wpQuiet_load (by rfl) _ _ rfl g 0 rfl cs _ hr2 hu rfl hi0 ?_) | (refine wpQuiet_load (by rfl) _ _ rfl k 0 rfl cs' _ hr3 hu rfl hi1 ?_) | (quiet_step (fail)))
  refine wpQuiet_nil ?_
  rintro w' ⟨n, rfl⟩
  go_wp2_with fail
  go_ret
  exact ⟨rfl, ⟨rfl, rfl, rfl, Nat.le_refl _, fun _ _ => rfl⟩⟩
end Go.Proofs.YtbgioclbjbmicaaDoor
