/- Package wheel: what All goes through (no early leave); the laws' own listed. -/
import Derived.Test.YtbjapgajbljhfaaWAll
namespace Go.Proofs.Ytbjapgajbljhfaa
namespace Wh
open Go.RowKit Go.Shelf
attribute [local go_sem] Oper.semAt_some

theorem func_nil1 (w : World) (d : Nat) (t : TypeId) (ps rs : Array TypeId) (b : Bool) (ht : Try.prog.underlying t = some (.func ps rs b)) (f : Fn) (xs ys : Array Value) : (Op.equalIn (d + 1) t (.func f xs ys) .nilFunc).run Try.prog w = .ok false w := by
  simp [Op.equalIn, run_underlying ht]
/-- a function that is there is not nil -/
theorem func_nil (w : World) (t : TypeId) (ps rs : Array TypeId) (b : Bool) (ht : Try.prog.underlying t = some (.func ps rs b)) (f : Fn) (xs ys : Array Value) : (binOp .eql t (.func f xs ys) .nilFunc).run Try.prog w = .ok (.bool false) w := by
  simp only [binOp]
  simp [Op.equal, Op.maxDepth, func_nil1 w 9999 t ps rs b ht f xs ys]

/-- a list of timers, read -/
def RdT (s : St) (a : Option Addr) (xs : List Nat) (w : World) : Prop := ∀ i x, xs[i]? = some x → ∃ g y, a = some ⟨g, 0, none⟩ ∧ s.what x = .int .i64 y ∧ w.cell? ⟨g, i * 3, none⟩ = some (.int .i64 (x : Nat)) ∧ w.cell? ⟨g, i * 3 + 1, none⟩ = some (.int .i64 (s.due x : Nat)) ∧ w.cell? ⟨g, i * 3 + 2, none⟩ = some (.int .i64 y)
theorem rdT_own {s : St} {w : World} {base c : Nat} {a : Option Addr} {xs : List Nat} (h : w.ownsRow base 32 3 (.slice a xs.length c) xs.length (cells3 s xs)) (hw : ∀ x ∈ xs, ∃ y, s.what x = .int .i64 y) : RdT s a xs w := by
  intro i x hx
  have hi : i < xs.length := (List.getElem?_eq_some_iff.1 hx).1
  obtain ⟨g, e, _, _, hc⟩ := row3_cells h (by omega)
  obtain ⟨y, hy⟩ := hw x (List.mem_of_getElem? hx)
  obtain ⟨c0, c1, c2⟩ := cells3_at s xs i hi
  have hg : xs.getD i 0 = x := by rw [List.getD_eq_getElem?_getD, hx]; rfl
  rw [hg] at c0 c1 c2
  rw [Nat.mul_comm] at c0 c1 c2
  exact ⟨g, y, e, hy, hc _ _ c0, hc _ _ c1, by rw [← hy]; exact hc _ _ c2⟩

set_option maxRecDepth 100000 in
set_option maxHeartbeats 4000000 in
theorem all2_any {s : St} {xs : List Nat} {a : Option Addr} {c : Nat} (n lp Bv b0 : Nat) (I : List Nat → World → Prop) (L : World → Prop)
    (hLs : ∀ A B, L A → Same2 b0 A B → L B) (hLz : ∀ A, L A → b0 + 1 < A.heap.size)
    (hIv : ∀ pre W, I pre W → W.cell? ⟨Bv, 0, none⟩ = some (.slice a xs.length c) ∧ RdT s a xs W)
    (hIk : ∀ pre W W', I pre W → Keep (fun _ => False) W W' → I pre W')
    (hY : ∀ pre x W1, (∃ post, xs = pre ++ x :: post) → I pre W1 → L W1 → YieldAt Fence.wide n Try.prog lp #[.agg #[.int .i64 (x : Nat), .int .i64 (s.due x : Nat), s.what x]] W1 fun e W' => e = .returned (.bool true) ∧ I (pre ++ [x]) W' ∧ L W')
    (hl : xs.length ≤ 1048580) (W : World) (h0 : I [] W) (hL : L W) :
    CallsIn Fence.wide n Try.prog 34 #[.func (.yield lp) #[] #[], .pointer (some ⟨Bv, 0, none⟩)] W fun e W' => (∃ v, e = .returned v) ∧ (∃ ys, ys = xs ∧ I ys W') ∧ L W' := by
  have cv := (hIv [] W h0).1
  have HY := hide hY
  have HLs := hide hLs
  have HLz := hide hLz
  have HIv := hide hIv
  have HIk := hide hIk
  have H0 := hide h0
  have HLL := hide hL
  have hq := fun w => func_nil w 85 _ _ _ Try.underlying85 (.yield lp) #[] #[]
  clear hY hLs hLz hIv hIk h0 hL
  refine callsIn_of_wp Try.func34 rfl trivial ?_ rfl
  simp only [Try.ntmps34, List.size_toArray, List.length_cons, List.length_nil, Nat.reduceAdd, Nat.reduceSub, Array.replicate_succ, Array.replicate_zero, List.push_toArray, List.append_toArray, List.nil_append, List.cons_append]
  gi_wp2
  gi_loopw [9] (fun s9 wr => ∃ i : Nat, s9 = .int .i64 (i : Nat) ∧ i ≤ xs.length ∧ Hid (I (xs.take i) wr ∧ L wr)) (fun s9 _ => xs.length - (intOf s9).toNat)
  case atStart => exact ⟨0, rfl, Nat.zero_le _, by rw [List.take_zero]; exact H0.out, HLL.out⟩
  case round =>
    obtain ⟨i, rfl, hi, HI⟩ := hrel
    by_cases hlt : i < xs.length
    · obtain ⟨x, hx⟩ : ∃ x, xs[i]? = some x := ⟨xs[i], by simp⟩
      obtain ⟨g, y, rfl, hy, x0, x1, x2⟩ := (HIv.out _ _ HI.out.1).2 i x hx
      have hpost : xs = xs.take i ++ x :: xs.drop (i + 1) := by
        rw [show x = xs[i] from ((List.getElem?_eq_some_iff.1 hx).2).symm]
        simp
      have hnext : xs.take i ++ [x] = xs.take (i + 1) := by rw [List.take_add_one, hx]; rfl
      have ka : Keep (fun _ => False) wr (wr.alloc (.cells #[.int .i64 (x : Nat), .int .i64 (s.due x : Nat), .int .i64 y] 32)) := Keep.alloc _ _ _
      have hz := HLz.out _ HI.out.2
      obtain ⟨fn, tmps, assign, body, hyd, hR⟩ := HY.out (xs.take i) x _ ⟨_, hpost⟩ (HIk.out _ _ _ HI.out.1 ka) (HLs.out _ _ HI.out.2 (ka.same2 hz (fun f => f) (fun f => f)))
      rw [hnext] at hR
      rw [hy] at hyd
      have HR := hide hR
      clear hR hnext hpost hx ka hy
      gi_wp2_with fail
      refine ⟨(fun h => by cases h), (round_any HR.out).mono ?_⟩
      rintro e W5 ⟨rfl, hI5, hL5⟩
      have HI5 := hide (And.intro hI5 hL5)
      clear hI5 hL5
      gi_wp2_with fail
      refine ⟨⟨i + 1, rfl, by omega, HI5.out⟩, ?_⟩
      show xs.length - ((i : Int) + 1).toNat < xs.length - (i : Int).toNat
      omega
    · obtain rfl : i = xs.length := by omega
      have HI2 : Hid (I xs wr ∧ L wr) := by have := HI.out; rw [List.take_length] at this; exact this
      gi_wp2_with fail
      refine bodyPost_end (results_none rfl _ _ _) rfl ?_
      exact ⟨⟨_, rfl⟩, ⟨xs, rfl, HI2.out.1⟩, HI2.out.2⟩

end Wh
end Go.Proofs.Ytbjapgajbljhfaa
