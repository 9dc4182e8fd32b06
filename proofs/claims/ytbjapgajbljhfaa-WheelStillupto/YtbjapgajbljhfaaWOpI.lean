/- Package wheel: the timers of a slot, gone through. -/
import Derived.Test.YtbjapgajbljhfaaWOpM
namespace Go.Proofs.Ytbjapgajbljhfaa
namespace Wh
open Go.RowKit Go.Shelf
attribute [local go_sem] Oper.semAt_some

set_option maxRecDepth 100000 in
set_option maxHeartbeats 4000000 in
theorem all1I {S : Nat → Prop} {W2 : World} {P m : Nat} {at_ : Nat → Nat} {s : St} (l i Bs Bo : Nat) (n : Nat) (hok : Ok s) (L : World → Prop) (lp : Nat)
    (hY : ∀ pre x W1, (OpI 75 80 S W2 P m at_ s l i pre W1 ∧ ∃ r, s.row l i = pre ++ x :: r) → L W1 → YieldAt Fence.wide n Try.prog lp #[.pointer (some ⟨at_ x, 0, none⟩)] W1 fun e W' => e = .returned (.bool true) ∧ OpI 75 80 S W2 P m at_ s l i (pre ++ [x]) W' ∧ L W')
    (W : World) (h0 : OpI 75 80 S W2 P m at_ s l i [] W) (hL : L W) (hBs : W.cell? ⟨Bs, 0, none⟩ = some (.pointer (some ⟨Bo, 0, none⟩))) (hBo : W.cell? ⟨Bo, 0, none⟩ = some (ptr at_ (s.row l i).head?)) :
    CallsIn Fence.wide n Try.prog 55 #[.func (.yield lp) #[] #[], .pointer (some ⟨Bs, 0, none⟩)] W fun e W' => (∃ v, e = .returned v) ∧ (∃ xs, xs = s.row l i ∧ OpI 75 80 S W2 P m at_ s l i xs W') ∧ L W' := by
  have HY := hide hY
  have HO := hide hok
  have H0 := hide h0
  have HLL := hide hL
  clear hY hok h0 hL
  refine callsIn_of_wp Try.func55 rfl trivial ?_ rfl
  simp only [Try.ntmps55, List.size_toArray, List.length_cons, List.length_nil, Nat.reduceAdd, Nat.reduceSub, Array.replicate_succ, Array.replicate_zero, List.push_toArray, List.append_toArray, List.nil_append, List.cons_append]
  gi_wp2
  gi_loopw [3] (fun p wr => ∃ (pre rest : List Nat), p = ptr at_ rest.head? ∧ s.row l i = pre ++ rest ∧ Hid (OpI 75 80 S W2 P m at_ s l i pre wr ∧ L wr)) (fun p _ => left at_ (s.row l i) p)
  case atStart => exact ⟨[], s.row l i, rfl, rfl, H0.out, HLL.out⟩
  case round =>
    obtain ⟨pre, rest, hp, hrow, HI⟩ := hrel
    cases rest with
    | nil =>
      obtain rfl : _ = Value.pointer none := hp
      gi_wp2
      go_end0
      exact ⟨⟨_, rfl⟩, ⟨_, by rw [hrow, List.append_nil], HI.out.1⟩, HI.out.2⟩
    | cons x ys =>
      simp only [List.head?_cons, ptr] at hp
      subst hp
      obtain ⟨rest', hr', hlk⟩ := HI.out.1.rest
      obtain rfl : rest' = x :: ys := List.append_cancel_left (hr'.symm.trans hrow)
      obtain ⟨b, hE⟩ := hlk [] ys x rfl
      have e4 := hE.c4
      obtain ⟨fn, tmps, assign, body, hy, hR⟩ := HY.out pre x wr ⟨HI.out.1, ys, hrow⟩ HI.out.2
      have HR := hide hR
      have HROW := hide hrow
      have hnd : Hid ((s.row l i).Nodup) := HO.out.rows1.nd l i
      have hinj : Hid (∀ a ∈ s.row l i, ∀ b ∈ s.row l i, at_ a = at_ b → a = b) := fun a ha b hb e => HI.out.1.inn.inj a (mem_row.1 ha).1 b (mem_row.1 hb).1 e
      clear hr' hlk hE hR hrow
      gi_wp2
      refine ⟨(fun h => by cases h), (round_any HR.out).mono ?_⟩
      rintro e W3 ⟨rfl, hJ3, hL3⟩
      have HJ := hide (And.intro hJ3 hL3)
      clear hJ3 hL3
      gi_wp2
      refine ⟨⟨pre ++ [x], ys, rfl, by rw [HROW.out]; simp, HJ.out⟩, ?_⟩
      rw [show (Value.pointer (some ⟨at_ x, 0, none⟩)) = ptr at_ (some x) from rfl, left_at HROW.out hnd.out hinj.out]
      have hlen : pre.length < (s.row l i).length := by rw [HROW.out]; simp
      cases ys with
      | nil => simp only [List.head?_nil, ptr, left]; omega
      | cons y t =>
        rw [List.head?_cons, left_at (pre := pre ++ [x]) (ys := t) (by rw [HROW.out]; simp) hnd.out hinj.out]
        simp
        omega
set_option maxRecDepth 100000 in
set_option maxHeartbeats 4000000 in
theorem all1S {S : Nat → Prop} {W2 : World} {P m : Nat} {at_ : Nat → Nat} {s : St} (l i Bs Bo : Nat) (n : Nat) (hok : Ok s) (L : World → Prop) (lp : Nat)
    (hY : ∀ pre x W1, (OpI 95 97 S W2 P m at_ s l i pre W1 ∧ ∃ r, s.row l i = pre ++ x :: r) → L W1 → YieldAt Fence.wide n Try.prog lp #[.pointer (some ⟨at_ x, 0, none⟩)] W1 fun e W' => e = .returned (.bool true) ∧ OpI 95 97 S W2 P m at_ s l i (pre ++ [x]) W' ∧ L W')
    (W : World) (h0 : OpI 95 97 S W2 P m at_ s l i [] W) (hL : L W) (hBs : W.cell? ⟨Bs, 0, none⟩ = some (.pointer (some ⟨Bo, 0, none⟩))) (hBo : W.cell? ⟨Bo, 0, none⟩ = some (ptr at_ (s.row l i).head?)) :
    CallsIn Fence.wide n Try.prog 66 #[.func (.yield lp) #[] #[], .pointer (some ⟨Bs, 0, none⟩)] W fun e W' => (∃ v, e = .returned v) ∧ (∃ xs, xs = s.row l i ∧ OpI 95 97 S W2 P m at_ s l i xs W') ∧ L W' := by
  have HY := hide hY
  have HO := hide hok
  have H0 := hide h0
  have HLL := hide hL
  clear hY hok h0 hL
  refine callsIn_of_wp Try.func66 rfl trivial ?_ rfl
  simp only [Try.ntmps66, List.size_toArray, List.length_cons, List.length_nil, Nat.reduceAdd, Nat.reduceSub, Array.replicate_succ, Array.replicate_zero, List.push_toArray, List.append_toArray, List.nil_append, List.cons_append]
  gi_wp2
  gi_loopw [3] (fun p wr => ∃ (pre rest : List Nat), p = ptr at_ rest.head? ∧ s.row l i = pre ++ rest ∧ Hid (OpI 95 97 S W2 P m at_ s l i pre wr ∧ L wr)) (fun p _ => left at_ (s.row l i) p)
  case atStart => exact ⟨[], s.row l i, rfl, rfl, H0.out, HLL.out⟩
  case round =>
    obtain ⟨pre, rest, hp, hrow, HI⟩ := hrel
    cases rest with
    | nil =>
      obtain rfl : _ = Value.pointer none := hp
      gi_wp2
      go_end0
      exact ⟨⟨_, rfl⟩, ⟨_, by rw [hrow, List.append_nil], HI.out.1⟩, HI.out.2⟩
    | cons x ys =>
      simp only [List.head?_cons, ptr] at hp
      subst hp
      obtain ⟨rest', hr', hlk⟩ := HI.out.1.rest
      obtain rfl : rest' = x :: ys := List.append_cancel_left (hr'.symm.trans hrow)
      obtain ⟨b, hE⟩ := hlk [] ys x rfl
      have e4 := hE.c4
      obtain ⟨fn, tmps, assign, body, hy, hR⟩ := HY.out pre x wr ⟨HI.out.1, ys, hrow⟩ HI.out.2
      have HR := hide hR
      have HROW := hide hrow
      have hnd : Hid ((s.row l i).Nodup) := HO.out.rows1.nd l i
      have hinj : Hid (∀ a ∈ s.row l i, ∀ b ∈ s.row l i, at_ a = at_ b → a = b) := fun a ha b hb e => HI.out.1.inn.inj a (mem_row.1 ha).1 b (mem_row.1 hb).1 e
      clear hr' hlk hE hR hrow
      gi_wp2
      refine ⟨(fun h => by cases h), (round_any HR.out).mono ?_⟩
      rintro e W3 ⟨rfl, hJ3, hL3⟩
      have HJ := hide (And.intro hJ3 hL3)
      clear hJ3 hL3
      gi_wp2
      refine ⟨⟨pre ++ [x], ys, rfl, by rw [HROW.out]; simp, HJ.out⟩, ?_⟩
      rw [show (Value.pointer (some ⟨at_ x, 0, none⟩)) = ptr at_ (some x) from rfl, left_at HROW.out hnd.out hinj.out]
      have hlen : pre.length < (s.row l i).length := by rw [HROW.out]; simp
      cases ys with
      | nil => simp only [List.head?_nil, ptr, left]; omega
      | cons y t =>
        rw [List.head?_cons, left_at (pre := pre ++ [x]) (ys := t) (by rw [HROW.out]; simp) hnd.out hinj.out]
        simp
        omega

end Wh
end Go.Proofs.Ytbjapgajbljhfaa
