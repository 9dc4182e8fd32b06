/- The laws' fits, sameInts. -/
import Derived.Test.YtiackejbpcjmeaaRSma
import Derived.Test.YtiackejbpcjmeaaGRfE
import Derived.Test.YtiackejbpcjmeaaRRuA
import Derived.Test.YtiackejbpcjmeaaRStp
import Derived.Test.YtiackejbpcjmeaaRTdR
namespace Go.Proofs.Ytiackejbpcjmeaa
namespace Rn
open Go.RowKit Gr

theorem fits_any (nm : ByteArray) (dl : Int) (s : Option Addr × Nat × Nat) (xs : List No) (w : World) (hP : RdP w.heap.size w s xs) (hsz : Sz nm xs) :
    Calls Try.prog 6 #[.agg #[.string nm, .int .i64 dl, .slice s.1 s.2.1 s.2.2]] w fun e w' => (e = .returned (.tuple #[.bool false, .bool false]) ∨ e = .returned (.tuple #[.bool true, .bool (decide ((chk nm dl xs).2 = 0))]) ∧ xs.length + edges xs ≤ 20000) ∧ Keep (fun _ => False) w w' := by
  obtain ⟨a, n, c⟩ := s
  have k1 := Keep.alloc (fun _ => False) w (.cells #[.string nm, .int .i64 dl, .slice a n c] 24)
  have b1 := heap_alloc_new w (.cells #[.string nm, .int .i64 dl, .slice a n c] 24)
  have HP1 := hide ((hP.new k1).mono k1.size)
  have K1 := hide k1
  have HB1 := hide b1
  have HSZ := hide hsz
  obtain ⟨r2, hr2⟩ : ∃ r, r = (chk nm dl xs).2 := ⟨_, rfl⟩
  rw [← hr2]
  have HR2 := hide hr2
  have HCE : Hid (((r2 : Int) == 0) = decide (r2 = 0)) := by
    show _ = _
    rw [Bool.eq_iff_iff]; simp
  clear hr2
  clear hP hsz k1 b1
  go_enter Try.func6, Try.ntmps6
  go_upto_region 1 with fail
  generalize hw1 : w.alloc (.cells #[.string nm, .int .i64 dl, .slice a n c] 24) = w1 at *
  generalize w.heap.size = A at *
  clear hw1
  have c0 := cell_blk HB1.out 0 (v := .string nm) rfl
  have c1 := cell_blk HB1.out 1 (v := .int .i64 dl) rfl
  have c2 := cell_blk HB1.out 2 (v := .slice a n c) rfl
  have SM := hide (small_any nm dl (a, n, c) xs _ w1 HP1.out)
  go_wp2_with fail
  go_at_call 22
  refine SM.out.mono ?_
  rintro e w2 ⟨⟨b, rfl, hb⟩, k2⟩
  have HB := hide hb
  have K2 := hide (K1.out.more k2)
  have b2 := k2.blk HB1.out (fun f => f)
  have d0 := cell_blk b2 0 (v := .string nm) rfl
  have d1 := cell_blk b2 1 (v := .int .i64 dl) rfl
  have d2 := cell_blk b2 2 (v := .slice a n c) rfl
  have CK := hide (refCheck_any nm dl (a, n, c) xs _ w2 ((HP1.out.new k2).mono k2.size) (Nat.le_refl _) HSZ.out)
  rw [← HR2.out] at CK
  clear hb k2 b2 SM c0 c1 c2 HB1
  cases b with
  | false =>
    go_wp2_with fail
    go_ret2
    exact ⟨.inl rfl, K2.out⟩
  | true =>
    go_wp2_with fail
    go_at_call 23
    refine CK.out.mono ?_
    rintro e w3 ⟨rfl, k3⟩
    have K3 := hide (K2.out.more k3)
    clear k3 CK
    go_wp2_with fail
    go_ret2
    exact ⟨.inr ⟨by rw [← HCE.out]; rfl, HB.out trivial⟩, K3.out⟩
set_option maxRecDepth 100000 in
theorem sameInts_any (s t : Option Addr × Nat × Nat) (z : List Int) (w : World) (hS : RdZ w.heap.size w s z) (hT : RdZ w.heap.size w t z) :
    Calls Try.prog 35 #[.slice s.1 s.2.1 s.2.2, .slice t.1 t.2.1 t.2.2] w fun e w' => e = .returned (.bool true) ∧ Keep (fun _ => False) w w' := by
  obtain ⟨sa, n, sc⟩ := s
  obtain ⟨ta, m, tc⟩ := t
  have hn : n = z.length := hS.1
  have hm : m = n := by have : m = z.length := hT.1; omega
  subst hm
  have hb : m ≤ 17592186044416 := hS.2.1
  have HN := hide hn
  have HSS := hide hS
  have HTT := hide hT
  clear hS hT hn
  go_enter Try.func35, Try.ntmps35
  go_wp2_with fail
  go_loopw [5] (fun v5 wr => ∃ i : Nat, v5 = .int .i64 (i : Nat) ∧ i ≤ m ∧ Hid (Keep (fun _ => False) w wr)) (fun v5 _ => m - (intOf v5).toNat)
  case atStart => exact ⟨0, rfl, Nat.zero_le _, Keep.refl _ _⟩
  case round =>
    obtain ⟨i, rfl, hi, HK⟩ := hrel
    by_cases hlt : i < m
    · have hz : z[i]? = some (z[i]'(by have := HN.out; omega)) := List.getElem?_eq_getElem _
      generalize z[i]'_ = v at hz
      have hs3 := HSS.out.2.2
      have ht3 := HTT.out.2.2
      simp only at hs3 ht3
      obtain ⟨g1, o1, e1, _, h1⟩ := hs3.resolve_left (by omega)
      obtain ⟨g2, o2, e2, _, h2⟩ := ht3.resolve_left (by omega)
      subst e1 e2
      have q1 := HK.out.cell (h1 i v hz) (fun f => f)
      have q2 := HK.out.cell (h2 i v hz) (fun f => f)
      clear h1 h2 hs3 ht3 hz
      go_wp2_with fail
      go_region
      go_wp2
      go_roundw
      · exact ⟨i + 1, rfl, by omega, HK.out.more (Keep.drew _ _)⟩
      · show m - ((i : Int) + 1).toNat < m - (i : Int).toNat
        omega
    · obtain rfl : i = m := by omega
      go_wp2_with fail
      go_ret
      exact ⟨rfl, HK.out⟩
end Rn
end Go.Proofs.Ytiackejbpcjmeaa
