/- Package wheel: the timers that come, one by one; Advance. -/
import Derived.Test.YtbjapgajbljhfaaWAdM
namespace Go.Proofs.Ytbjapgajbljhfaa
namespace Wh
open Go.RowKit Go.Shelf
attribute [local go_sem] Oper.semAt_some

set_option maxHeartbeats 1000000 in
theorem coming_any (P to : Nat) (w : World) : Calls Try.prog 25 #[.pointer (some ⟨P, 0, none⟩), .int .i64 (to : Nat)] w fun e w' => e = .returned (.func (.func 44) #[] #[.pointer (some ⟨w.heap.size, 0, none⟩), .pointer (some ⟨w.heap.size + 1, 0, none⟩)]) ∧ w' = (w.alloc (.cells #[.pointer (some ⟨P, 0, none⟩)] 25)).alloc (.cells #[.int .i64 (to : Nat)] 3) := by
  go_enter Try.func25, Try.ntmps25
  go_wp2
  go_ret
  exact ⟨rfl, rfl⟩

set_option maxRecDepth 100000 in
set_option maxHeartbeats 4000000 in
theorem com1 {S0 : Nat → Prop} {W2 : World} {P Ba : Nat} {s : St} {to : Nat} (Bw Bt n : Nat) (hok : Ok s) (h2 : to ≤ M) (hlast : s.last < 2 ^ 62) (hwt : ∀ id ∈ s.ids, ∃ y1, s.what id = .int .i64 y1) (L : World → Prop) (lp : Nat)
    (hLs : ∀ A B, L A → Same2 W2.heap.size A B → L B) (hLz : ∀ A, L A → W2.heap.size + 1 < A.heap.size)
    (hY : ∀ pre x W1, (∃ m' v, AdI 75 80 27 32 S0 W2 P Ba s to (pre ++ [x]) pre m' v W1) → L W1 → YieldAt Fence.wide n Try.prog lp #[.agg #[.int .i64 (x : Nat), .int .i64 (s.due x : Nat), s.what x]] W1 fun e W' => e = .returned (.bool true) ∧ (∃ m' v, AdI 75 80 27 32 S0 W2 P Ba s to (pre ++ [x]) (pre ++ [x]) m' v W') ∧ L W')
    (W : World) (h0 : ∃ m' v, AdI 75 80 27 32 S0 W2 P Ba s to [] [] m' v W) (hL : L W) (hBw : W2.cell? ⟨Bw, 0, none⟩ = some (.pointer (some ⟨P, 0, none⟩))) (hBt : W2.cell? ⟨Bt, 0, none⟩ = some (.int .i64 (to : Nat)))
    (hS : ∀ k, S0 k → k < W2.heap.size) (hSa : ¬ S0 Ba) (hSw : ¬ (S0 Bw ∨ Bw = Ba)) (hSt : ¬ (S0 Bt ∨ Bt = Ba)) :
    CallsIn Fence.wide n Try.prog 44 #[.func (.yield lp) #[] #[], .pointer (some ⟨Bw, 0, none⟩), .pointer (some ⟨Bt, 0, none⟩)] W fun e W' => (∃ v, e = .returned v) ∧ (∃ xs, Adv s to xs ∧ ∃ v, WAt 75 80 S0 W' P (s.adv to) ∧ W'.heap[Ba]? = some (.cells #[v] 27 (0, 0)) ∧ W'.ownsRow (W2.heap.size + 2) 32 3 v xs.length (cells3 s xs) ∧ Keep (fun k => S0 k ∨ k = Ba) W2 W') ∧ L W' := by
  obtain ⟨lf, hlf⟩ := lenOf_ex 75 80 68 69 mapTI P
  have HY := hide hY
  have HO := hide hok
  have H0 := hide h0
  have HLL := hide hL
  have HLs := hide hLs
  have HLz := hide hLz
  have HLF := hide hlf
  have HT := hide hwt
  have HS := hide hS
  clear hY hok h0 hL hLs hLz hlf hwt hS
  refine callsIn_of_wp Try.func44 rfl trivial ?_ rfl
  simp only [Try.ntmps44, List.size_toArray, List.length_cons, List.length_nil, Nat.reduceAdd, Nat.reduceSub, Array.replicate_succ, Array.replicate_zero, List.push_toArray, List.append_toArray, List.nil_append, List.cons_append]
  gi_wp2
  gi_loopw [] (fun wr => ∃ (pre : List Nat), Hid ((∃ m' v, AdI 75 80 27 32 S0 W2 P Ba s to pre pre m' v wr) ∧ L wr)) (fun wr => lf wr)
  case atStart => exact ⟨[], H0.out, HLL.out⟩
  case round =>
    obtain ⟨pre, HI⟩ := hrel
    obtain ⟨m', v, hA⟩ := HI.out.1
    have HA := hide hA
    have w0 := hA.keep.cell hBw hSw
    have t0 := hA.keep.cell hBt hSt
    clear hA
    have NX := hide (nextI to wr HA.out.at_ HA.out.mid.le h2 (by rw [HA.out.mid.eqL]; exact hlast) (fun id hid => by rw [HA.out.mid.eqW]; exact HT.out id (by have := hid; rw [HA.out.mid.ids] at this; exact (List.mem_filter.1 this).1)))
    have hlfm : lf wr = m'.ids.length := HLF.out _ _ _ HA.out.at_
    gi_wp2_with fail
    refine ⟨trivial, (fun h => by cases h), callsIn_wide.2 (NX.out.mono ?_)⟩
    rintro e w3 ⟨k3, ⟨s2, rfl, hno, h3⟩ | ⟨id, s2, rfl, hso, h3⟩⟩
    · have ST := hide (HA.out.step k3 HS.out hSa)
      have L3 := hide (HLs.out _ _ HI.out.2 (k3.same2 (HLz.out _ HI.out.2) (fun e => by have := HS.out _ e; omega) (fun e => by have := HS.out _ e; omega)))
      have hz3 := HLz.out _ L3.out
      obtain ⟨hadv, rfl⟩ := HA.out.mid.none hno
      have HD := hide hadv
      have H3 := hide h3
      clear hadv h3 hno k3 NX
      gi_wp2_with fail
      refine ⟨fun _ h => (by cases h), ?_⟩
      gi_wp2_with fail
      refine bodyPost_ret (results_none rfl _ _ _) rfl ?_
      have ka : Keep (fun _ => False) w3 (w3.alloc (.cells #[.int .i64 0, .int .i64 0, .int .i64 0] 32)) := Keep.alloc _ _ _
      refine ⟨⟨_, rfl⟩, ⟨pre, HD.out, v, H3.out.new ka, ka.blk ST.out.1 (fun f => f), ⟨ST.out.2.1.1, ST.out.2.1.2.imp (fun x => x) fun ⟨g, cap, cur, h1, h2, h3, h4⟩ => ⟨g, cap, cur, h1, h2, ka.blk h3 (fun f => f), h4⟩⟩, ST.out.2.2.more (ka.mono fun _ e => e.elim)⟩, HLs.out _ _ L3.out (ka.same2 hz3 (fun f => f) (fun f => f))⟩
    · have ST := hide (HA.out.step k3 HS.out hSa)
      have L3 := hide (HLs.out _ _ HI.out.2 (k3.same2 (HLz.out _ HI.out.2) (fun e => by have := HS.out _ e; omega) (fun e => by have := HS.out _ e; omega)))
      have hz3 := HLz.out _ L3.out
      have hidm : id ∈ s.ids := by have := hso.1; rw [HA.out.mid.ids] at this; exact (List.mem_filter.1 this).1
      have hmid := HA.out.mid.some hso h3.1
      have hlen : s2.ids.length + 1 = m'.ids.length := by rw [hso.2.2.2]; exact del_length HA.out.at_.1 hso.1
      obtain ⟨y1, hy1⟩ := HT.out id hidm
      rw [HA.out.mid.eqD, HA.out.mid.eqW, hy1]
      have ka : Keep (fun _ => False) w3 (w3.alloc (.cells #[.int .i64 (id : Nat), .int .i64 (s.due id : Nat), .int .i64 y1] 32)) := Keep.alloc _ _ _
      have HAd : Hid (AdI 75 80 27 32 S0 W2 P Ba s to (pre ++ [id]) pre s2 v (w3.alloc (.cells #[.int .i64 (id : Nat), .int .i64 (s.due id : Nat), .int .i64 y1] 32))) :=
        AdI.new ⟨hmid, h3, ST.out.1, ST.out.2.1, ST.out.2.2⟩ ka
      obtain ⟨fn, tmps, assign, body, hy, hR⟩ := HY.out pre id _ ⟨s2, v, HAd.out⟩ (HLs.out _ _ L3.out (ka.same2 hz3 (fun f => f) (fun f => f)))
      rw [hy1] at hy
      have HR := hide hR
      clear hR hmid h3 hso k3 NX ka
      gi_wp2_with fail
      refine ⟨(fun h => by cases h), (round_any HR.out).mono ?_⟩
      rintro e W5 ⟨rfl, ⟨m5, v5, hA5⟩, hL5⟩
      have HA5 := hide hA5
      have HL5 := hide hL5
      clear hA5 hL5
      gi_wp2_with fail
      refine ⟨⟨pre ++ [id], ⟨m5, v5, HA5.out⟩, HL5.out⟩, ?_⟩
      rw [HLF.out _ _ _ HA5.out.at_, hlfm]
      have e1 := HA5.out.mid.lt HO.out
      have e2 := HA.out.mid.lt HO.out
      simp at e1
      omega

end Wh
end Go.Proofs.Ytbjapgajbljhfaa
