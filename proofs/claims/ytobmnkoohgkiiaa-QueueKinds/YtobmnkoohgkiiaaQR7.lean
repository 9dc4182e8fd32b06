/- Package queue, things of two parts: All, what it goes through (out of ref_gen.py). -/
import Derived.Test.YtobmnkoohgkiiaaQR6
import Derived.Test.YtobmnkoohgkiiaaQAl1
namespace Go.Proofs.Ytobmnkoohgkiiaa
namespace Qu
open Go.RowKit
attribute [local go_sem] Oper.semAt_some

set_option maxRecDepth 100000 in
set_option maxHeartbeats 4000000 in
theorem cloneF {S : Nat → Prop} {v : Value} {r : List (Nat × _)} (w : World) (h : RowAt KF S w v r) (hl : r.length ≤ 65536) :
    Calls Try.prog 55 #[v] w fun e w' => ∃ a c, e = .returned (.slice a r.length c) ∧ RowAt KF (fun i => w.heap.size ≤ i) w' (.slice a r.length c) r ∧ Keep (fun _ => False) w w' := by
  rcases h with ⟨rfl, rfl⟩ | ⟨g, off, cap, rfl, _, _, hc, _, hra, _⟩
  · have hq := fun w => Lib.run_eql_slice_nil (P := Try.prog) w 72 104 none 0 0 0 0 Try.underlying72
    go_enter Try.func55, Try.ntmps55
    go_wp2
    go_ret
    exact ⟨none, 0, rfl, .inl ⟨rfl, rfl⟩, Keep.refl _ _⟩
  · have hq := fun w => Lib.run_eql_slice_nil (P := Try.prog) w 72 104 (some ⟨g, off, none⟩) r.length cap 0 0 Try.underlying72
    obtain ⟨i0, hi0, hz0, hz1, hz2⟩ := info_parts infoF
    have HI := hide (And.intro hi0 (And.intro hz0 (And.intro hz1 hz2)))
    have HR := hide hra
    clear hi0 hz0 hz1 hz2 hra
    go_enter Try.func55, Try.ntmps55
    go_wp2_with (at_builtin; refine wpList_append_own _ rfl _ _ 72 rfl w.heap.size 104 i0 (.agg #[.int .i64 0, .int .i64 0, .int .i64 0]) 3 _ Try.underlying72 HI.out.1 HI.out.2.1 HI.out.2.2.1 HI.out.2.2.2 rfl (by decide) _ _ _ rfl (World.ownsRow_made w #[] 0 (Nat.le_refl _) (Nat.zero_le _) rfl) ⟨g, off, none⟩ r.length cap (flat KF r) rfl ?qc1 ?qc2 ?qc3 ?qc4 ?qc5 ?qc6 ?_)
    case qc1 => exact flat_length okF.cln r
    case qc2 =>
      intro j u hj
      rw [Addr.add_mid]
      exact (Keep.alloc (fun _ => False) w _).cell (HR.out j u hj) fun f => f
    case qc3 => exact flat_one okF r
    case qc4 => unfold maxLen; omega
    case qc5 => omega
    case qc6 => simp
    intro v' w1 hown hgrow hnil
    have hown2 : w1.ownsRow w.heap.size KF.te (KF.c + 1) v' r.length (flat KF r) := by
      have h2 : w1.ownsRow w.heap.size 104 3 v' r.length (flat KF r) := by simpa using hown
      exact h2
    obtain ⟨a', c', rfl⟩ := ownsRow_shape hown2
    have HO := hide hown2
    have HG := hide hgrow
    clear hown hown2 hgrow hnil
    go_wp2
    go_ret
    exact ⟨a', c', rfl, RowAt.ofOwns HO.out, (Keep.alloc _ _ _).grownNew HG.out fun k hk => .inr (by simp [Value.ownBlock] at hk; omega)⟩

/-- what All answers -/
def AllsF (w : World) (r : List (Nat × Rk)) (e : Ending) (w' : World) : Prop :=
  ∃ B a c, e = .returned (.func (.func 56) #[] #[.pointer (some ⟨B, 0, none⟩)]) ∧ w.heap.size ≤ B ∧ w'.heap[B]? = some (.cells #[.slice a r.length c] 72 (0, 0)) ∧ RowAt KF (fun i => w.heap.size ≤ i) w' (.slice a r.length c) r ∧ Keep (fun _ => False) w w'

set_option maxRecDepth 100000 in
set_option maxHeartbeats 4000000 in
theorem allF {S : Nat → Prop} {P m : Nat} {v : Value} {s : St _} (w : World) (h : QIn KF S w P m v s) (hl : s.row.length ≤ 65536) :
    Calls Try.prog 40 #[.pointer (some ⟨P, 0, none⟩)] w (AllsF w s.row) := by
  have CL := hide (cloneF w h.row hl)
  have c3 := h.c3
  obtain ⟨a, cap, rfl, hc, _⟩ := h.row.shape
  clear h
  go_enter Try.func40, Try.ntmps40
  go_wp2_with (go_at_call 55; refine CL.out.mono ?_; rintro e w1 ⟨a1, c1, rfl, r1, k1⟩; have R1 := hide r1; have K1 := hide k1; clear r1 k1)
  go_ret
  have kb : Keep (fun _ => False) w1 (w1.alloc (.cells #[.slice a1 s.row.length c1] 72)) := Keep.alloc _ _ _
  exact ⟨w1.heap.size, a1, c1, rfl, K1.out.size, heap_alloc_new _ _, R1.out.far kb (fun _ _ f => f), K1.out.more kb⟩

set_option maxRecDepth 100000 in
set_option maxHeartbeats 4000000 in
theorem all1F {r : List (Nat × Rk)} {a : Option Addr} {c : Nat} (n lp Bv b0 : Nat) (I : List (Nat × Rk) → World → Prop) (L : World → Prop)
    (hLs : ∀ A B, L A → Same2 b0 A B → L B) (hLz : ∀ A, L A → b0 + 1 < A.heap.size)
    (hIv : ∀ pre W, I pre W → W.cell? ⟨Bv, 0, none⟩ = some (.slice a r.length c) ∧ RowAt KF (fun _ => True) W (.slice a r.length c) r)
    (hIk : ∀ pre W W', I pre W → Keep (fun _ => False) W W' → I pre W')
    (hY : ∀ pre x W1, (∃ post, r = pre ++ x :: post) → I pre W1 → L W1 → YieldAt Fence.wide n Try.prog lp #[.int .i64 (x.1 : Nat), KF.enc x.2] W1 fun e W' => e = .returned (.bool true) ∧ I (pre ++ [x]) W' ∧ L W')
    (hl : r.length ≤ 65536) (W : World) (h0 : I [] W) (hL : L W) :
    CallsIn Fence.wide n Try.prog 56 #[.func (.yield lp) #[] #[], .pointer (some ⟨Bv, 0, none⟩)] W fun e W' => (∃ v, e = .returned v) ∧ (∃ xs, xs = r ∧ I xs W') ∧ L W' := by
  have cv := (hIv [] W h0).1
  have HY := hide hY
  have HLs := hide hLs
  have HLz := hide hLz
  have HIv := hide hIv
  have HIk := hide hIk
  have H0 := hide h0
  have HLL := hide hL
  clear hY hLs hLz hIv hIk h0 hL
  refine callsIn_of_wp Try.func56 rfl trivial ?_ rfl
  simp only [Try.ntmps56, List.size_toArray, List.length_cons, List.length_nil, Nat.reduceAdd, Nat.reduceSub, Array.replicate_succ, Array.replicate_zero, List.push_toArray, List.append_toArray, List.nil_append, List.cons_append]
  have hq := fun w => func_nil w 108 _ _ _ Try.underlying108 lp
  gi_wp2
  gi_loopw [9] (fun s9 wr => ∃ i : Nat, s9 = .int .i64 (i : Nat) ∧ i ≤ r.length ∧ Hid (I (r.take i) wr ∧ L wr)) (fun s9 _ => r.length - (intOf s9).toNat)
  case atStart => exact ⟨0, rfl, Nat.zero_le _, by rw [List.take_zero]; exact H0.out, HLL.out⟩
  case round =>
    obtain ⟨i, rfl, hi, HI⟩ := hrel
    by_cases hlt : i < r.length
    · obtain ⟨g, off, cap, hv, _, _, hc, _, hra, _⟩ := (HIv.out _ _ HI.out.1).2.full (by omega)
      obtain ⟨rfl, rfl⟩ : a = some ⟨g, off, none⟩ ∧ c = cap := by injection hv with h1 _ h2; exact ⟨h1, h2⟩
      obtain ⟨x, hx⟩ : ∃ x, r[i]? = some x := ⟨r[i], by simp⟩
      have x0 : wr.cell? ⟨g, off + i * 3, none⟩ = some (.int .i64 (x.1 : Nat)) := RowAt.at_ okF hra hx (j := 0) (by decide) rfl
      have x1 : wr.cell? ⟨g, off + i * 3 + 1, none⟩ = some (.int .i64 x.2.1.1) := RowAt.at_ okF hra hx (j := 1) (by decide) rfl
      have x2 : wr.cell? ⟨g, off + i * 3 + 2, none⟩ = some (.int .i64 x.2.1.2) := RowAt.at_ okF hra hx (j := 2) (by decide) rfl
      have hpost : r = r.take i ++ x :: r.drop (i + 1) := by
        rw [show x = r[i] from ((List.getElem?_eq_some_iff.1 hx).2).symm]
        simp
      have hnext : r.take i ++ [x] = r.take (i + 1) := by rw [List.take_add_one, hx]; rfl
      obtain ⟨y0, y1⟩ := x
      have ka : Keep (fun _ => False) wr (wr.alloc (.cells #[.int .i64 (y0 : Nat), .int .i64 y1.1.1, .int .i64 y1.1.2] 104)) := Keep.alloc _ _ _
      have hz := HLz.out _ HI.out.2
      obtain ⟨fn, tmps, assign, body, hy, hR⟩ := HY.out (r.take i) (y0, y1) _ ⟨_, hpost⟩ (HIk.out _ _ _ HI.out.1 ka) (HLs.out _ _ HI.out.2 (ka.same2 hz (fun f => f) (fun f => f)))
      rw [hnext] at hR
      have HR := hide hR
      unfold KF at hy
      simp only at x0 x1 x2 hy
      clear hR hnext hpost hx hra hv ka
      gi_wp2_with fail
      refine ⟨(fun h => by cases h), (round_any HR.out).mono ?_⟩
      rintro e W5 ⟨rfl, hI5, hL5⟩
      have HI5 := hide (And.intro hI5 hL5)
      clear hI5 hL5
      gi_wp2_with fail
      refine ⟨⟨i + 1, rfl, by omega, HI5.out⟩, ?_⟩
      show r.length - ((i : Int) + 1).toNat < r.length - (i : Int).toNat
      omega
    · obtain rfl : i = r.length := by omega
      have HI2 : Hid (I r wr ∧ L wr) := by have := HI.out; rw [List.take_length] at this; exact this
      gi_wp2_with fail
      refine bodyPost_end (results_none rfl _ _ _) rfl ?_
      exact ⟨⟨_, rfl⟩, ⟨r, rfl, HI2.out.1⟩, HI2.out.2⟩

end Qu
end Go.Proofs.Ytobmnkoohgkiiaa
