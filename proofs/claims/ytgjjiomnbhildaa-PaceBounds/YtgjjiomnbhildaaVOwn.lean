/- Rows of nodes of the call's own. -/
import Derived.Test.YtgjjiomnbhildaaVBnd
import Derived.Test.YtgjjiomnbhildaaVKno
import Derived.Deep.OwnRows
import Derived.Laws.AppendOwnNone
namespace Go.Proofs.Ytgjjiomnbhildaa
open Go.RowKit

theorem cell_blk {w : World} {p : Nat} {cs : Array Value} {t : TypeId} (h : w.heap[p]? = some (.cells cs t (0, 0))) (j : Nat) {v : Value} (hv : cs[j]? = some v) : w.cell? ⟨p, j, none⟩ = some v := by
  rw [World.cell?, h]
  simpa using hv
theorem frozen_blk {w : World} {p : Nat} {cs : Array Value} {t : TypeId} (h : w.heap[p]? = some (.cells cs t (0, 0))) (j : Nat) : w.frozen? ⟨p, j, none⟩ = false := by
  simp [World.frozen?, h]
theorem set_blk {w : World} {p : Nat} {cs : Array Value} {t : TypeId} (h : w.heap[p]? = some (.cells cs t (0, 0))) (j : Nat) (v : Value) : (w.setCell ⟨p, j, none⟩ v).heap[p]? = some (.cells (cs.setIfInBounds j v) t (0, 0)) := by
  simp [World.setCell, Array.getElem?_modify, h]
theorem own_stay {w w' : World} {b : Nat} {e : TypeId} {s : Nat} {v : Value} {n : Nat} {xs : List Value} (h : w.ownsRow b e s v n xs) (hb : ∀ g, v.ownBlock = some g → w'.heap[g]? = w.heap[g]?) : w'.ownsRow b e s v n xs := by
  refine ⟨h.1, ?_⟩
  rcases h.2 with h | ⟨g, cap, cur, rfl, e2, e3, e4⟩
  · exact .inl h
  · exact .inr ⟨g, cap, cur, rfl, e2, (hb g rfl).trans e3, e4⟩
theorem own_blk {w : World} {b : Nat} {e : TypeId} {s : Nat} {v : Value} {n : Nat} {xs : List Value} (h : w.ownsRow b e s v n xs) {g : Nat} (hg : v.ownBlock = some g) : b ≤ g ∧ g < w.heap.size ∧ ∃ cur, w.heap[g]? = some (.cells cur e (0, 0)) := by
  rcases h.2 with ⟨rfl, _⟩ | ⟨g', cap, cur, rfl, e2, e3, e4⟩
  · cases hg
  · cases hg
    exact ⟨e2, (Array.getElem?_eq_some_iff.1 e3).1, cur, e3⟩
theorem own_far {w : World} {b : Nat} {e t : TypeId} {s : Nat} {v : Value} {n : Nat} {xs : List Value} (h : w.ownsRow b e s v n xs) {O : Nat} {cs : Array Value} (hO : w.heap[O]? = some (.cells cs t (0, 0))) (ht : t ≠ e) : v.ownBlock ≠ some O := fun hg => by
  obtain ⟨_, _, cur, h3⟩ := own_blk h hg
  rw [hO] at h3
  injection h3 with h3
  injection h3 with _ h3
  exact ht h3
theorem own_below {w w' : World} {b : Nat} {e : TypeId} {s : Nat} {v : Value} {n : Nat} {xs : List Value} (h : w.ownsRow b e s v n xs) (hb : Below w.heap.size w w') : w'.ownsRow b e s v n xs :=
  own_stay h fun g hg => hb.block g (own_blk h hg).2.1
theorem own_shape {w : World} {b : Nat} {e : TypeId} {s : Nat} {v : Value} {n : Nat} {xs : List Value} (h : w.ownsRow b e s v n xs) : ∃ a c, v = .slice a n c := by
  rcases h.2 with ⟨rfl, rfl⟩ | ⟨g, cap, cur, rfl, _⟩ <;> exact ⟨_, _, rfl⟩

def V.flat (qs : List V.Nd) : List Value := (qs.map V.Nd.row).flatten
theorem flat_snoc (qs : List V.Nd) (q : V.Nd) : V.flat (qs ++ [q]) = V.flat qs ++ q.row := by simp [V.flat]
theorem flat_length (qs : List V.Nd) : (V.flat qs).length = qs.length * 10 := by
  induction qs with
  | nil => rfl
  | cons q qs ih => simp only [V.flat, List.map_cons, List.flatten_cons, List.length_append] at ih ⊢; rw [ih]; simp [V.Nd.row]; omega
theorem flat_get (qs : List V.Nd) (i j : Nat) (q : V.Nd) (u : Value) (hq : qs[i]? = some q) (hu : q.row[j]? = some u) : (V.flat qs)[i * 10 + j]? = some u := by
  induction qs generalizing i with
  | nil => simp at hq
  | cons p qs ih =>
    have hl : ∀ q : V.Nd, q.row.length = 10 := fun q => rfl
    have e : V.flat (p :: qs) = p.row ++ V.flat qs := by simp [V.flat]
    have hj : j < 10 := by rw [← hl q]; exact (List.getElem?_eq_some_iff.1 hu).1
    rw [e]
    cases i with
    | zero =>
      simp only [List.getElem?_cons_zero, Option.some.injEq] at hq
      subst hq
      rw [Nat.zero_mul, Nat.zero_add, List.getElem?_append_left (by rw [hl]; omega)]
      exact hu
    | succ i =>
      simp only [List.getElem?_cons_succ] at hq
      rw [List.getElem?_append_right (by rw [hl]; omega), hl, show (i + 1) * 10 + j - 10 = i * 10 + j by omega]
      exact ih i hq
/-- a row of the call's own, read -/
theorem own_rdn {w : World} {b : Nat} {v : Value} {qs : List V.Nd} (h : w.ownsRow b 24 10 v qs.length (V.flat qs)) (hin : ∀ q ∈ qs, V.Nd.In q) (hl : qs.length ≤ 64) : ∃ a c, v = .slice a qs.length c ∧ RdN w a qs.length qs := by
  rcases h.2 with ⟨rfl, h0⟩ | ⟨g, cap, cur, rfl, e2, e3, e4, e5, e6, e7⟩
  · exact ⟨none, 0, by rw [h0], rfl, by omega, hin, .inl h0⟩
  · refine ⟨_, _, rfl, rfl, by omega, hin, .inr ⟨g, 0, rfl, (Array.getElem?_eq_some_iff.1 e3).1, fun i q hq => ⟨fun j u hu => ?_, (Array.getElem?_eq_some_iff.1 e3).1⟩⟩⟩
    have := flat_get qs i j q u hq hu
    rw [← e7, List.getElem?_take] at this
    split at this
    · rw [Nat.zero_add]; exact cell_blk e3 _ (by simpa using this)
    · cases this

/-- 'append' as one step of a region that draws -/
theorem step_append_run {ops : Array Oper} {o : Oper} {a : Act} {w : World} {K : Act → World → Prop} {Q : Exit → Act → World → Prop} {E : Prop}
    (hg : o.guard = none) (d x : Operand) (t : TypeId) (hop : o.op = Op.call { callee := Callee.builtin Builtin.append, args := #[d, x], argTypes := #[t, t] })
    (v u : Value) (hd : a.eval d = v) (hx : a.eval x = u) {v' : Value} {w' : World} (hr : (Builtin.append_ #[t, t] o.type #[v, u]).run Try.prog w = .ok v' w') (hK : K (a.put o.dst v') w') :
    if Region.wanted o (yielded ops a.tmps) = true then Oper.wp Try.prog o a w K Q else E := by
  have hw : Region.wanted o (yielded ops a.tmps) = true := by simp [Region.wanted, hg]
  rw [if_pos hw]
  unfold Oper.wp
  simp [execOp, hop, resolve, invoke, builtin, hd, hx, hr, Result.andThen]
  exact hK

theorem info_node : (Try.prog.info? 24).map (fun i => (i.zero, i.size, i.bytes)) = some (some (.agg #[.string ⟨#[]⟩, .int .i64 0, .int .i64 0, .int .i64 0, .int .i64 0, .int .i64 0, .int .i64 0, .int .i64 0, .slice none 0 0, .slice none 0 0]), 10, 120) := by kernel_rfl
/-- a node more behind a row of the call's own -/
theorem append_node {w : World} {b : Nat} {v : Value} {qs : List V.Nd} (h : w.ownsRow b 24 10 v qs.length (V.flat qs)) (hb : b ≤ w.heap.size) (hl : qs.length < 64) (q : V.Nd) {B : Nat} (hB : ∀ j u, q.row[j]? = some u → w.cell? ((⟨B, 0, none⟩ : Addr).add j) = some u) (c : Nat) (ty : TypeId) :
    ∃ v' w', (Builtin.append_ #[35, 35] ty #[v, .slice (some ⟨B, 0, none⟩) 1 c]).run Try.prog w = .ok v' w' ∧ w'.ownsRow b 24 10 v' (qs.length + 1) (V.flat (qs ++ [q])) ∧ w.grownBy w' v.ownBlock := by
  have hi := info_node
  rcases hi0 : Try.prog.info? 24 with _ | i
  · rw [hi0] at hi; cases hi
  · rw [hi0] at hi
    simp only [Option.map_some, Option.some.injEq, Prod.mk.injEq] at hi
    obtain ⟨hz, hs, hby⟩ := hi
    obtain ⟨v', w', h1, h2, h3, _⟩ := run_append_own (P := Try.prog) w b 35 ty 24 i _ 10 120 Try.underlying35 hi0 hz hs hby rfl (by decide) v qs.length _ h ⟨B, 0, none⟩ 1 c q.row rfl hB (fun u hu => by simp [V.Nd.row] at hu; rcases hu with rfl | rfl | rfl | rfl | rfl | rfl | rfl | rfl | rfl | rfl <;> rfl) (by unfold maxLen; omega) (by omega) hb
    exact ⟨v', w', h1, by rw [flat_snoc]; exact h2, h3⟩
end Go.Proofs.Ytgjjiomnbhildaa
