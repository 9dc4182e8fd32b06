/- Package queue: the function that All answers, gone through without an early leave. -/
import Derived.Test.YtobmnkoohgkiiaaQAll
import Derived.RangeFuncBox
import Derived.OwnWalkIn
import Derived.TacticsInMore
import Derived.LoopNIn
import Derived.LoopIn
namespace Go.Proofs.Ytobmnkoohgkiiaa
namespace Qu
open Go.RowKit
attribute [local go_sem] Oper.semAt_some

/-- a function that is handed in is not nil -/
theorem func_nil1 (w : World) (d : Nat) (t : TypeId) (ps rs : Array TypeId) (b : Bool) (ht : Try.prog.underlying t = some (.func ps rs b)) (lp : Nat) : (Op.equalIn (d + 1) t (.func (.yield lp) #[] #[]) .nilFunc).run Try.prog w = .ok false w := by
  simp [Op.equalIn, run_underlying ht]
theorem func_nil (w : World) (t : TypeId) (ps rs : Array TypeId) (b : Bool) (ht : Try.prog.underlying t = some (.func ps rs b)) (lp : Nat) : (binOp .eql t (.func (.yield lp) #[] #[]) .nilFunc).run Try.prog w = .ok (.bool false) w := by
  simp only [binOp]
  simp [Op.equal, Op.maxDepth, func_nil1 w 9999 t ps rs b ht lp]

/-- a round, whatever stands about it -/
theorem round_any {n k : Nat} {P : Program} {l : Nat} {f : FuncId} {tmps : Array Value} {assign body : Code} {w : World} {R : Ending → World → Prop} (h : RoundIn Fence.wide n P l f tmps assign body w R) : RoundIn Fence.wide k P l f tmps assign body w R := ⟨h.1, fun c cs _ => h.2 c cs (room_wide _)⟩

set_option maxRecDepth 100000 in
set_option maxHeartbeats 4000000 in
theorem all1I {r : List (Nat × TI)} {a : Option Addr} {c : Nat} (n lp Bv b0 : Nat) (I : List (Nat × TI) → World → Prop) (L : World → Prop)
    (hLs : ∀ A B, L A → Same2 b0 A B → L B) (hLz : ∀ A, L A → b0 + 1 < A.heap.size)
    (hIv : ∀ pre W, I pre W → W.cell? ⟨Bv, 0, none⟩ = some (.slice a r.length c) ∧ RowAt KI (fun _ => True) W (.slice a r.length c) r)
    (hIk : ∀ pre W W', I pre W → Keep (fun _ => False) W W' → I pre W')
    (hY : ∀ pre x W1, (∃ post, r = pre ++ x :: post) → I pre W1 → L W1 → YieldAt Fence.wide n Try.prog lp #[.int .i64 (x.1 : Nat), KI.enc x.2] W1 fun e W' => e = .returned (.bool true) ∧ I (pre ++ [x]) W' ∧ L W')
    (hl : r.length ≤ 65536) (W : World) (h0 : I [] W) (hL : L W) :
    CallsIn Fence.wide n Try.prog 42 #[.func (.yield lp) #[] #[], .pointer (some ⟨Bv, 0, none⟩)] W fun e W' => (∃ v, e = .returned v) ∧ (∃ xs, xs = r ∧ I xs W') ∧ L W' := by
  have cv := (hIv [] W h0).1
  have HY := hide hY
  have HLs := hide hLs
  have HLz := hide hLz
  have HIv := hide hIv
  have HIk := hide hIk
  have H0 := hide h0
  have HLL := hide hL
  clear hY hLs hLz hIv hIk h0 hL
  refine callsIn_of_wp Try.func42 rfl trivial ?_ rfl
  simp only [Try.ntmps42, List.size_toArray, List.length_cons, List.length_nil, Nat.reduceAdd, Nat.reduceSub, Array.replicate_succ, Array.replicate_zero, List.push_toArray, List.append_toArray, List.nil_append, List.cons_append]
  have hq := fun w => func_nil w 92 _ _ _ Try.underlying92 lp
  gi_wp2
  gi_loopw [9] (fun s9 wr => ∃ i : Nat, s9 = .int .i64 (i : Nat) ∧ i ≤ r.length ∧ Hid (I (r.take i) wr ∧ L wr)) (fun s9 _ => r.length - (intOf s9).toNat)
  case atStart => exact ⟨0, rfl, Nat.zero_le _, by rw [List.take_zero]; exact H0.out, HLL.out⟩
  case round =>
    obtain ⟨i, rfl, hi, HI⟩ := hrel
    by_cases hlt : i < r.length
    · obtain ⟨g, off, cap, hv, _, _, hc, _, hra, _⟩ := (HIv.out _ _ HI.out.1).2.full (by omega)
      obtain ⟨rfl, rfl⟩ : a = some ⟨g, off, none⟩ ∧ c = cap := by injection hv with h1 _ h2; exact ⟨h1, h2⟩
      obtain ⟨x, hx⟩ : ∃ x, r[i]? = some x := ⟨r[i], by simp⟩
      have x0 : wr.cell? ⟨g, off + i * 2, none⟩ = some (.int .i64 (x.1 : Nat)) := RowAt.at_ okI hra hx (j := 0) (by decide) rfl
      have x1 : wr.cell? ⟨g, off + i * 2 + 1, none⟩ = some (KI.enc x.2) := RowAt.at_ okI hra hx (j := 1) (by decide) rfl
      have hpost : r = r.take i ++ x :: r.drop (i + 1) := by
        rw [show x = r[i] from ((List.getElem?_eq_some_iff.1 hx).2).symm]
        simp
      have hnext : r.take i ++ [x] = r.take (i + 1) := by rw [List.take_add_one, hx]; rfl
      obtain ⟨y0, y1⟩ := x
      have ka : Keep (fun _ => False) wr (wr.alloc (.cells #[.int .i64 (y0 : Nat), KI.enc y1] 91)) := Keep.alloc _ _ _
      have hz := HLz.out _ HI.out.2
      obtain ⟨fn, tmps, assign, body, hy, hR⟩ := HY.out (r.take i) (y0, y1) _ ⟨_, hpost⟩ (HIk.out _ _ _ HI.out.1 ka) (HLs.out _ _ HI.out.2 (ka.same2 hz (fun f => f) (fun f => f)))
      rw [hnext] at hR
      have HR := hide hR
      unfold KI at x1 hy
      simp only at x0 x1 hy
      clear hR hnext hpost hx hra hv ka
      gi_wp2_with fail
      refine ⟨(fun h => by cases h), (round_any HR.out).mono ?_⟩
      rintro e W5 ⟨rfl, hI5, hL5⟩
      have HI5 := hide (And.intro hI5 hL5)
      clear hI5 hL5
      gi_wp2_with fail
      refine ⟨⟨i + 1, rfl, by omega, HI5.out⟩, ?_⟩
      show r.length - ((i : Int) + 1).toNat < r.length - (i : Int).toNat
      omega
    · obtain rfl : i = r.length := by omega
      have HI2 : Hid (I r wr ∧ L wr) := by have := HI.out; rw [List.take_length] at this; exact this
      gi_wp2_with fail
      refine bodyPost_end (results_none rfl _ _ _) rfl ?_
      exact ⟨⟨_, rfl⟩, ⟨r, rfl, HI2.out.1⟩, HI2.out.2⟩
set_option maxRecDepth 100000 in
set_option maxHeartbeats 4000000 in
theorem all1S {r : List (Nat × TS)} {a : Option Addr} {c : Nat} (n lp Bv b0 : Nat) (I : List (Nat × TS) → World → Prop) (L : World → Prop)
    (hLs : ∀ A B, L A → Same2 b0 A B → L B) (hLz : ∀ A, L A → b0 + 1 < A.heap.size)
    (hIv : ∀ pre W, I pre W → W.cell? ⟨Bv, 0, none⟩ = some (.slice a r.length c) ∧ RowAt KS (fun _ => True) W (.slice a r.length c) r)
    (hIk : ∀ pre W W', I pre W → Keep (fun _ => False) W W' → I pre W')
    (hY : ∀ pre x W1, (∃ post, r = pre ++ x :: post) → I pre W1 → L W1 → YieldAt Fence.wide n Try.prog lp #[.int .i64 (x.1 : Nat), KS.enc x.2] W1 fun e W' => e = .returned (.bool true) ∧ I (pre ++ [x]) W' ∧ L W')
    (hl : r.length ≤ 65536) (W : World) (h0 : I [] W) (hL : L W) :
    CallsIn Fence.wide n Try.prog 44 #[.func (.yield lp) #[] #[], .pointer (some ⟨Bv, 0, none⟩)] W fun e W' => (∃ v, e = .returned v) ∧ (∃ xs, xs = r ∧ I xs W') ∧ L W' := by
  have cv := (hIv [] W h0).1
  have HY := hide hY
  have HLs := hide hLs
  have HLz := hide hLz
  have HIv := hide hIv
  have HIk := hide hIk
  have H0 := hide h0
  have HLL := hide hL
  clear hY hLs hLz hIv hIk h0 hL
  refine callsIn_of_wp Try.func44 rfl trivial ?_ rfl
  simp only [Try.ntmps44, List.size_toArray, List.length_cons, List.length_nil, Nat.reduceAdd, Nat.reduceSub, Array.replicate_succ, Array.replicate_zero, List.push_toArray, List.append_toArray, List.nil_append, List.cons_append]
  have hq := fun w => func_nil w 96 _ _ _ Try.underlying96 lp
  gi_wp2
  gi_loopw [9] (fun s9 wr => ∃ i : Nat, s9 = .int .i64 (i : Nat) ∧ i ≤ r.length ∧ Hid (I (r.take i) wr ∧ L wr)) (fun s9 _ => r.length - (intOf s9).toNat)
  case atStart => exact ⟨0, rfl, Nat.zero_le _, by rw [List.take_zero]; exact H0.out, HLL.out⟩
  case round =>
    obtain ⟨i, rfl, hi, HI⟩ := hrel
    by_cases hlt : i < r.length
    · obtain ⟨g, off, cap, hv, _, _, hc, _, hra, _⟩ := (HIv.out _ _ HI.out.1).2.full (by omega)
      obtain ⟨rfl, rfl⟩ : a = some ⟨g, off, none⟩ ∧ c = cap := by injection hv with h1 _ h2; exact ⟨h1, h2⟩
      obtain ⟨x, hx⟩ : ∃ x, r[i]? = some x := ⟨r[i], by simp⟩
      have x0 : wr.cell? ⟨g, off + i * 2, none⟩ = some (.int .i64 (x.1 : Nat)) := RowAt.at_ okS hra hx (j := 0) (by decide) rfl
      have x1 : wr.cell? ⟨g, off + i * 2 + 1, none⟩ = some (KS.enc x.2) := RowAt.at_ okS hra hx (j := 1) (by decide) rfl
      have hpost : r = r.take i ++ x :: r.drop (i + 1) := by
        rw [show x = r[i] from ((List.getElem?_eq_some_iff.1 hx).2).symm]
        simp
      have hnext : r.take i ++ [x] = r.take (i + 1) := by rw [List.take_add_one, hx]; rfl
      obtain ⟨y0, y1⟩ := x
      have ka : Keep (fun _ => False) wr (wr.alloc (.cells #[.int .i64 (y0 : Nat), KS.enc y1] 95)) := Keep.alloc _ _ _
      have hz := HLz.out _ HI.out.2
      obtain ⟨fn, tmps, assign, body, hy, hR⟩ := HY.out (r.take i) (y0, y1) _ ⟨_, hpost⟩ (HIk.out _ _ _ HI.out.1 ka) (HLs.out _ _ HI.out.2 (ka.same2 hz (fun f => f) (fun f => f)))
      rw [hnext] at hR
      have HR := hide hR
      unfold KS at x1 hy
      simp only at x0 x1 hy
      clear hR hnext hpost hx hra hv ka
      gi_wp2_with fail
      refine ⟨(fun h => by cases h), (round_any HR.out).mono ?_⟩
      rintro e W5 ⟨rfl, hI5, hL5⟩
      have HI5 := hide (And.intro hI5 hL5)
      clear hI5 hL5
      gi_wp2_with fail
      refine ⟨⟨i + 1, rfl, by omega, HI5.out⟩, ?_⟩
      show r.length - ((i : Int) + 1).toNat < r.length - (i : Int).toNat
      omega
    · obtain rfl : i = r.length := by omega
      have HI2 : Hid (I r wr ∧ L wr) := by have := HI.out; rw [List.take_length] at this; exact this
      gi_wp2_with fail
      refine bodyPost_end (results_none rfl _ _ _) rfl ?_
      exact ⟨⟨_, rfl⟩, ⟨r, rfl, HI2.out.1⟩, HI2.out.2⟩

end Qu
end Go.Proofs.Ytobmnkoohgkiiaa
