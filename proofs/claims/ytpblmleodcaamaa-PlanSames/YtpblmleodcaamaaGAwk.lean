/- awake. -/
import Derived.Test.YtpblmleodcaamaaGAwM
import Derived.Test.YtpblmleodcaamaaGOr2
namespace Go.Proofs.Ytpblmleodcaamaa
namespace Gr
open Go.RowKit

set_option maxRecDepth 100000 in
set_option maxHeartbeats 4000000 in
theorem awake_any (w : World) :
    Calls Try.prog 7 #[] w fun e w' => e = .returned (.bool true) ∧ Keep (fun _ => False) w w' := by
  go_enter Try.func7, Try.ntmps7
  go_wp2_with fail
  go_at_call 23
  refine (one_any _ (none, 0, 0) (none, 0, 0) _).mono ?_
  rintro e w1 ⟨rfl, k1⟩
  have K1 := hide k1
  clear k1
  go_wp2_with fail
  go_at_call 23
  refine (one_any _ (some ⟨w1.heap.size, 0, none⟩, 1, 1) (none, 0, 0) _).mono ?_
  rintro e w2 ⟨rfl, k2⟩
  have K2 := hide k2
  clear k2
  go_wp2_with fail
  go_at_call 23
  refine (one_any _ (some ⟨w2.heap.size, 0, none⟩, 1, 1) (some ⟨w2.heap.size + 1, 0, none⟩, 1, 1) _).mono ?_
  rintro e w3 ⟨rfl, k3⟩
  have K3 := hide k3
  clear k3
  simp only [Nd.row]
  go_wp2_with fail
  go_at_call 10
  have KA1 := hide (Keep.alloc (fun _ => False) w1 (.cells #[.int .i64 0] 3))
  have KA2 := hide (Keep.alloc (fun _ => False) w2 (.cells #[.int .i64 0] 3))
  have KA3 := hide (Keep.alloc (fun _ => False) (w2.alloc (.cells #[.int .i64 0] 3)) (.cells #[.int .i64 1] 3))
  have CA1 := hide (cell_one w1 (.int .i64 0) 3)
  have CA2 := hide (cell_one w2 (.int .i64 0) 3)
  have CA3 := hide (cell_one (w2.alloc (.cells #[.int .i64 0] 3)) (.int .i64 1) 3)
  rw [World.size_alloc] at CA3
  have hs1 : w1.heap.size < w2.heap.size := by have := K2.out.size; rw [World.size_alloc] at this; omega
  have hs2 : w2.heap.size + 2 ≤ w3.heap.size := by have := K3.out.size; rw [World.size_alloc, World.size_alloc] at this; omega
  have KB := hide (Keep.alloc (fun _ => False) w3 (.cells #[.string nA, .int .i64 0, .int .i64 2, .int .i64 10, .int .i64 0, .int .i64 4, .int .i64 8, .int .i64 0, .slice none 0 0, .slice none 0 0, .string nB, .int .i64 0, .int .i64 2, .int .i64 10, .int .i64 0, .int .i64 4, .int .i64 8, .int .i64 0, .slice (some ⟨w1.heap.size, 0, none⟩) 1 1, .slice none 0 0, .string nC, .int .i64 0, .int .i64 2, .int .i64 10, .int .i64 0, .int .i64 4, .int .i64 8, .int .i64 0, .slice (some ⟨w2.heap.size, 0, none⟩) 1 1, .slice (some ⟨w2.heap.size + 1, 0, none⟩) 1 1] 44))
  have BB := hide (heap_alloc_new w3 (.cells #[.string nA, .int .i64 0, .int .i64 2, .int .i64 10, .int .i64 0, .int .i64 4, .int .i64 8, .int .i64 0, .slice none 0 0, .slice none 0 0, .string nB, .int .i64 0, .int .i64 2, .int .i64 10, .int .i64 0, .int .i64 4, .int .i64 8, .int .i64 0, .slice (some ⟨w1.heap.size, 0, none⟩) 1 1, .slice none 0 0, .string nC, .int .i64 0, .int .i64 2, .int .i64 10, .int .i64 0, .int .i64 4, .int .i64 8, .int .i64 0, .slice (some ⟨w2.heap.size, 0, none⟩) 1 1, .slice (some ⟨w2.heap.size + 1, 0, none⟩) 1 1] 44))
  show Calls Try.prog 10 #[.agg #[.string nP, .int .i64 100, .slice (some ⟨w3.heap.size, 0, none⟩) 3 3]] ((w3.alloc (.cells #[.string nA, .int .i64 0, .int .i64 2, .int .i64 10, .int .i64 0, .int .i64 4, .int .i64 8, .int .i64 0, .slice none 0 0, .slice none 0 0, .string nB, .int .i64 0, .int .i64 2, .int .i64 10, .int .i64 0, .int .i64 4, .int .i64 8, .int .i64 0, .slice (some ⟨w1.heap.size, 0, none⟩) 1 1, .slice none 0 0, .string nC, .int .i64 0, .int .i64 2, .int .i64 10, .int .i64 0, .int .i64 4, .int .i64 8, .int .i64 0, .slice (some ⟨w2.heap.size, 0, none⟩) 1 1, .slice (some ⟨w2.heap.size + 1, 0, none⟩) 1 1] 44)).alloc (.cells #[.string nP, .int .i64 100, .slice (some ⟨w3.heap.size, 0, none⟩) 3 3] 24)) _
  have HS4 := hide (show (w3.alloc (.cells #[.string nA, .int .i64 0, .int .i64 2, .int .i64 10, .int .i64 0, .int .i64 4, .int .i64 8, .int .i64 0, .slice none 0 0, .slice none 0 0, .string nB, .int .i64 0, .int .i64 2, .int .i64 10, .int .i64 0, .int .i64 4, .int .i64 8, .int .i64 0, .slice (some ⟨w1.heap.size, 0, none⟩) 1 1, .slice none 0 0, .string nC, .int .i64 0, .int .i64 2, .int .i64 10, .int .i64 0, .int .i64 4, .int .i64 8, .int .i64 0, .slice (some ⟨w2.heap.size, 0, none⟩) 1 1, .slice (some ⟨w2.heap.size + 1, 0, none⟩) 1 1] 44)).heap.size = w3.heap.size + 1 by simp)
  generalize w3.alloc (.cells #[.string nA, .int .i64 0, .int .i64 2, .int .i64 10, .int .i64 0, .int .i64 4, .int .i64 8, .int .i64 0, .slice none 0 0, .slice none 0 0, .string nB, .int .i64 0, .int .i64 2, .int .i64 10, .int .i64 0, .int .i64 4, .int .i64 8, .int .i64 0, .slice (some ⟨w1.heap.size, 0, none⟩) 1 1, .slice none 0 0, .string nC, .int .i64 0, .int .i64 2, .int .i64 10, .int .i64 0, .int .i64 4, .int .i64 8, .int .i64 0, .slice (some ⟨w2.heap.size, 0, none⟩) 1 1, .slice (some ⟨w2.heap.size + 1, 0, none⟩) 1 1] 44) = w4 at *
  have K5 := hide (Keep.alloc (fun _ => False) w4 (.cells #[.string nP, .int .i64 100, .slice (some ⟨w3.heap.size, 0, none⟩) 3 3] 24))
  have B5 := hide (heap_alloc_new w4 (.cells #[.string nP, .int .i64 100, .slice (some ⟨w3.heap.size, 0, none⟩) 3 3] 24))
  rw [HS4.out] at B5
  generalize w4.alloc (.cells #[.string nP, .int .i64 100, .slice (some ⟨w3.heap.size, 0, none⟩) 3 3] 24) = w5 at *
  have hs5 : w3.heap.size + 1 ≤ w5.heap.size := by have := K5.out.size; have := HS4.out; omega
  have b5 := K5.out.blk BB.out fun f => f
  have k35 := KB.out.more K5.out
  have k25 := (KA3.out.more K3.out).more k35
  have x1 := ((K2.out.more (KA2.out.more k25))).cell CA1.out fun f => f
  have x2 := k25.cell CA2.out fun f => f
  have x3 := (K3.out.more k35).cell CA3.out fun f => f
  have rd1 : ∀ (g : Nat) (y : Int), g < w5.heap.size → w5.cell? ⟨g, 0, none⟩ = some (.int .i64 y) → RdZ w5.heap.size w5 (some ⟨g, 0, none⟩, 1, 1) [y] := fun g y hg hc => ⟨rfl, by simp, .inr ⟨g, 0, rfl, hg, fun j x hj => by
    cases j with
    | zero => obtain rfl : y = x := by simpa using hj
              exact hc
    | succ j => simp at hj⟩⟩
  have rd0 : RdZ w5.heap.size w5 (none, 0, 0) [] := ⟨rfl, by simp, .inl rfl⟩
  have RP : Hid (RdP w5.heap.size w5 (some ⟨w3.heap.size, 0, none⟩, 3, 3) (ex w1.heap.size w2.heap.size (w2.heap.size + 1))) := by
    refine ⟨rfl, by simp, .inr ⟨w3.heap.size, 0, rfl, by omega, fun i x hx => ?_⟩, fun x hx => ?_⟩
    · match i with
      | 0 => obtain rfl := Option.some.inj hx
             exact fun j v hv => cell_blk b5 _ (by match j, hv with | 0, hv | 1, hv | 2, hv | 3, hv | 4, hv | 5, hv | 6, hv | 7, hv | 8, hv | 9, hv => exact hv)
      | 1 => obtain rfl := Option.some.inj hx
             exact fun j v hv => cell_blk b5 _ (by match j, hv with | 0, hv | 1, hv | 2, hv | 3, hv | 4, hv | 5, hv | 6, hv | 7, hv | 8, hv | 9, hv => exact hv)
      | 2 => obtain rfl := Option.some.inj hx
             exact fun j v hv => cell_blk b5 _ (by match j, hv with | 0, hv | 1, hv | 2, hv | 3, hv | 4, hv | 5, hv | 6, hv | 7, hv | 8, hv | 9, hv => exact hv)
      | i + 3 => cases hx
    · simp only [ex, List.mem_cons, List.not_mem_nil, or_false] at hx
      rcases hx with rfl | rfl | rfl
      · exact ⟨rd0, rd0⟩
      · exact ⟨rd1 _ _ (by omega) x1, rd0⟩
      · exact ⟨rd1 _ _ (by omega) x2, rd1 _ _ (by omega) x3⟩
  have SZ : Sz nP (ex w1.heap.size w2.heap.size (w2.heap.size + 1)) := ⟨by decide, fun x hx => by
    simp only [ex, List.mem_cons, List.not_mem_nil, or_false] at hx
    rcases hx with rfl | rfl | rfl <;> exact (by decide : (1 : Nat) ≤ 9223372036854775807)⟩
  have KK := hide (K1.out.more (KA1.out.more (K2.out.more (KA2.out.more k25))))
  have CK := hide (check_any nP 100 _ _ _ _ RP.out (Nat.le_refl _) SZ)
  have CO := hide (fun w' (k : Keep (fun _ => False) w5 w') => order_any nP 100 _ _ _ w' (RP.out.new k) k.size SZ)
  have CB := hide (fun w' (k : Keep (fun _ => False) w5 w') => below_any nP 100 _ _ 0 _ w' (RP.out.new k) k.size SZ)
  rw [ex_chk] at CK CO
  rw [ex_belC] at CB
  have HBL := hide (ex_bel w1.heap.size w2.heap.size (w2.heap.size + 1))
  have HOR := hide (fun l => ex_ord (p := w1.heap.size) (q := w2.heap.size) (r := w2.heap.size + 1) (l := l))
  have p0 := cell_blk B5.out 0 (v := .string nP) rfl
  have p1 := cell_blk B5.out 1 (v := .int .i64 100) rfl
  have p2 := cell_blk B5.out 2 (v := .slice (some ⟨w3.heap.size, 0, none⟩) 3 3) rfl
  have P0 := hide p0
  have P1 := hide p1
  have P2 := hide p2
  clear p0 p1 p2 rd0 rd1 x1 x2 x3 k25 k35 b5 SZ KA1 KA2 KA3 CA1 CA2 CA3 KB BB K5 K1 K2 K3
  refine CK.out.mono ?_
  rintro e w6 ⟨rfl, k6⟩
  have K6 := hide k6
  have p0 := k6.cell P0.out fun f => f
  have p1 := k6.cell P1.out fun f => f
  have p2 := k6.cell P2.out fun f => f
  clear k6 CK
  have CO1 := hide (CO.out w6 K6.out)
  clear CO
  go_wp2_with fail
  go_at_call 14
  refine CO1.out.mono ?_
  rintro e w7 ⟨l, v, rfl, ho, _, ho2, k7⟩
  obtain ⟨hl3, hlo⟩ := ho2 (by trivial)
  obtain rfl := HOR.out l hlo hl3
  have HO := hide ho
  have K7 := hide (K6.out.more k7)
  have p0 := k7.cell p0 fun f => f
  have p1 := k7.cell p1 fun f => f
  have p2 := k7.cell p2 fun f => f
  clear ho ho2 k7 hl3 hlo CO1 HOR
  have CB1 := hide (CB.out w7 K7.out)
  clear CB
  go_wp2_with fail
  go_at_call 18
  refine CB1.out.mono ?_
  rintro e w8 ⟨l, u, rfl, hb, _, hb2, k8⟩
  obtain rfl : l = [1, 2] := (hb2 (by trivial)).trans HBL.out
  have HB := hide hb
  have O8 := hide (ownsRow_new HO.out k8)
  have K8 := hide (K7.out.more k8)
  clear hb hb2 k8 CB1 HBL p0 p1 p2 P0 P1 P2
  obtain ⟨va, vc, rfl, rv⟩ := ownsRow_rd O8.out (by decide)
  obtain ⟨ua, uc, rfl, ru⟩ := ownsRow_rd HB.out (by decide)
  have kA := Keep.alloc (fun _ => False) w8 (.cells #[.int .i64 0, .int .i64 1, .int .i64 2] 3)
  have rA : RdZ (w8.heap.size + 1) (w8.alloc (.cells #[.int .i64 0, .int .i64 1, .int .i64 2] 3)) (some ⟨w8.heap.size, 0, none⟩, 3, 3) [0, 1, 2] := ⟨rfl, by simp, .inr ⟨w8.heap.size, 0, rfl, by omega, fun j x hj => cell_blk (heap_alloc_new w8 _) _ (by
    match j, hj with
    | 0, hj | 1, hj | 2, hj => obtain rfl := Option.some.inj hj; rfl)⟩⟩
  have SM := hide (same_any _ _ _ _ _ _ _ (rv.new kA) rA)
  have RU := hide ru
  have K9 := hide (K8.out.more kA)
  clear rv ru kA rA
  go_wp2_with fail
  go_at_call 16
  refine SM.out.mono ?_
  rintro e w9 ⟨rfl, k9⟩
  have K10 := hide (K9.out.more k9)
  have RU9 := hide ((RU.out.new (Keep.alloc (fun _ => False) w8 (.cells #[.int .i64 0, .int .i64 1, .int .i64 2] 3))).new k9)
  clear k9 SM RU
  have kB := Keep.alloc (fun _ => False) w9 (.cells #[.int .i64 1, .int .i64 2] 3)
  have rB : RdZ (w9.heap.size + 1) (w9.alloc (.cells #[.int .i64 1, .int .i64 2] 3)) (some ⟨w9.heap.size, 0, none⟩, 2, 2) [1, 2] := ⟨rfl, by simp, .inr ⟨w9.heap.size, 0, rfl, by omega, fun j x hj => cell_blk (heap_alloc_new w9 _) _ (by
    match j, hj with
    | 0, hj | 1, hj => obtain rfl := Option.some.inj hj; rfl)⟩⟩
  have SM := hide (same_any _ _ _ _ _ _ _ (RU9.out.new kB) rB)
  have K11 := hide (K10.out.more kB)
  clear kB rB
  have hd1 : decide (List.map (fun x : Nat => (x : Int)) [0, 1, 2] = [0, 1, 2]) = true := by decide
  have hd2 : decide (List.map (fun x : Nat => (x : Int)) [1, 2] = [1, 2]) = true := by decide
  rw [hd2] at SM
  rw [hd1]
  clear hd1 hd2
  go_wp2_with fail
  go_at_call 16
  refine SM.out.mono ?_
  rintro e w10 ⟨rfl, k10⟩
  have K12 := hide ((KK.out.more K11.out).more k10)
  clear k10
  go_wp2_with fail
  go_ret
  exact ⟨rfl, K12.out⟩
end Gr
end Go.Proofs.Ytpblmleodcaamaa
