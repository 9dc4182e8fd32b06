/- PaceJitters, PaceChances, PaceWaits: the walks. -/
import Derived.Test.YtfnndnceaddhgabVWai
import Derived.Test.YtfnndnceaddhgabVKno
import Derived.Deep.RegionHeld3
import Derived.Deep.QuietTactic
import Derived.Deep.Cut
namespace Go.Proofs.Ytfnndnceaddhgab
open Go.RowKit

theorem countOf_any (c : Int) (h0 : -9223372036854775808 ≤ c) (h1 : c ≤ 9223372036854775807) (w : World) :
    Calls Try.prog 8 #[.int .i64 c] w fun e w' => e = .returned (.int .i64 (V.pk c 9223372036854775807 : Nat)) ∧ w' = w := by
  have hp := hide (fun w => pick_any c 9223372036854775807 h0 h1 (by decide) (by decide) w)
  go_enter Try.func8, Try.ntmps8
  go_wp2_with (go_at_call 11; refine (hp.out _).mono ?_; rintro e w' ⟨rfl, rfl⟩)
  go_ret
  exact ⟨rfl, rfl⟩

/-- a case, in memory -/
structure CaseAt (w : World) (B l : Nat) (r n a m : Int) : Prop where
  c0 : w.cell? ⟨B, 0, none⟩ = some (.int .u64 (l : Int))
  c1 : w.cell? ⟨B, 1, none⟩ = some (.int .i64 r)
  c2 : w.cell? ⟨B, 2, none⟩ = some (.int .i64 n)
  c3 : w.cell? ⟨B, 3, none⟩ = some (.int .i64 a)
  c4 : w.cell? ⟨B, 4, none⟩ = some (.int .i64 m)
  lt : B < w.heap.size
theorem CaseAt.keep {w w' : World} {B l : Nat} {r n a m : Int} (h : CaseAt w B l r n a m) (b : Below w.heap.size w w') : CaseAt w' B l r n a m :=
  ⟨by rw [b.cell (p := ⟨B, 0, none⟩) h.lt]; exact h.c0, by rw [b.cell (p := ⟨B, 1, none⟩) h.lt]; exact h.c1, by rw [b.cell (p := ⟨B, 2, none⟩) h.lt]; exact h.c2, by rw [b.cell (p := ⟨B, 3, none⟩) h.lt]; exact h.c3, by rw [b.cell (p := ⟨B, 4, none⟩) h.lt]; exact h.c4, Nat.lt_of_lt_of_le h.lt b.size⟩
theorem CaseAt.new (w : World) (l : Nat) (r n a m : Int) (t : TypeId) : CaseAt (w.alloc (.cells #[.int .u64 (l : Int), .int .i64 r, .int .i64 n, .int .i64 a, .int .i64 m] t)) w.heap.size l r n a m :=
  ⟨by rw [World.cell?_alloc_mark]; rfl, by rw [World.cell?_alloc_mark]; rfl, by rw [World.cell?_alloc_mark]; rfl, by rw [World.cell?_alloc_mark]; rfl, by rw [World.cell?_alloc_mark]; rfl, by simp⟩

theorem jit_lt (l a b c m : Nat) : V.jit l a b c m ≤ m := V.jit_le l a b c m
theorem jit_twice (l a b c n : Nat) : V.jit l a b c (2 ^ (n + 1) - 1) = V.jit l a b c (2 ^ n - 1) ∨ V.jit l a b c (2 ^ (n + 1) - 1) = V.jit l a b c (2 ^ n - 1) + 2 ^ n := by
  unfold V.jit
  have h1 := Nat.two_pow_pos n
  have h2 := Nat.two_pow_pos (n + 1)
  rw [show 2 ^ n - 1 + 1 = 2 ^ n by omega, show 2 ^ (n + 1) - 1 + 1 = 2 ^ (n + 1) by omega, Nat.pow_succ, Nat.mod_mul]
  rcases Nat.mod_two_eq_zero_or_one (V.mix (V.mix (V.mix l a) b) c / 2 ^ n) with h | h <;> rw [h] <;> omega

theorem wr64 {x : Int} (h0 : -9223372036854775808 ≤ x) (h1 : x ≤ 9223372036854775807) : IntKind.i64.wrap x = x := by rw [IntKind.wrap_i64]; omega
theorem shl64 (K P : Nat) (h : P = 2 ^ K) (hP : P ≤ 549755813888) : IntKind.i64.wrap ((2 : Int) ^ K) = (P : Int) := by
  have e : ((2 : Int) ^ K) = (P : Int) := by rw [h]; simp
  rw [e, wr64 (by omega) (by omega)]
theorem shl64' (K P : Nat) (h : P = 2 ^ K) (hP : P ≤ 549755813888) : IntKind.i64.wrap ((2 : Int) ^ (K + 1)) = 2 * (P : Int) := by
  have e : ((2 : Int) ^ (K + 1)) = 2 * (P : Int) := by rw [h, Int.pow_succ]; simp; omega
  rw [e, wr64 (by omega) (by omega)]

set_option maxHeartbeats 1000000 in
theorem jitters_walk (l : Nat) (r n a m : Int) (bt : Int) (w : World) (hr : V.i64 r) (hn : V.i64 n) (ha : V.i64 a) (hm : V.i64 m) (hbt : V.i64 bt) :
    Calls Try.prog 3 #[.agg #[.int .u64 (l : Int), .int .i64 r, .int .i64 n, .int .i64 a, .int .i64 m], .int .i64 bt] w fun e w' => e = .returned (.bool true) ∧ Below w.heap.size w w' := by
  have p1 := hide (fun w => countOf_any r hr.1 hr.2 w)
  have p2 := hide (fun w => countOf_any n hn.1 hn.2 w)
  have p3 := hide (fun w => countOf_any a ha.1 ha.2 w)
  have p4 := hide (fun w => delayOf_any m hm.1 hm.2 w)
  have p5 := hide (fun w => pick_any bt 40 hbt.1 hbt.2 (by decide) (by decide) w)
  have q1 := V.pk_lt r 9223372036854775807 (by decide)
  have q2 := V.pk_lt n 9223372036854775807 (by decide)
  have q3 := V.pk_lt a 9223372036854775807 (by decide)
  have q4 := V.pk_lt m 1099511627777 (by decide)
  have q5 := V.pk_lt bt 40 (by decide)
  generalize V.pk r 9223372036854775807 = A at *
  generalize V.pk n 9223372036854775807 = B at *
  generalize V.pk a 9223372036854775807 = C at *
  generalize V.pk m 1099511627777 = M at *
  generalize V.pk bt 40 = K at *
  obtain ⟨P, hPe⟩ : ∃ P, P = 2 ^ K := ⟨_, rfl⟩
  have hP : P ≤ 549755813888 := by rw [hPe]; exact (Nat.pow_le_pow_right (by decide) (show K ≤ 39 by omega) : 2 ^ K ≤ 2 ^ 39)
  have hP0 : 1 ≤ P := by rw [hPe]; exact Nat.two_pow_pos K
  have hs1 := shl64 K P hPe hP
  have hs2' := shl64' K P hPe hP
  obtain ⟨K', hK'⟩ : ∃ K', K' = K + 1 := ⟨_, rfl⟩
  have hk1 : IntKind.i64.wrap ((K : Int) + 1) = (K' : Int) := by rw [wr64 (by omega) (by omega)]; omega
  have hs2 : IntKind.i64.wrap ((2 : Int) ^ K') = 2 * (P : Int) := by rw [hK']; exact hs2'
  have hk2 : K' ≤ 40 := by omega
  clear hs2' hK'
  have j1 := hide (fun w => jitter_any l A B C M (by omega) (by omega) (by omega) (by omega) w)
  have j2 := hide (fun w => jitter_any l A B C 0 (by omega) (by omega) (by omega) (by omega) w)
  have j3' := fun w => jitter_any l A B C (P - 1) (by omega) (by omega) (by omega) (by omega) w
  have j4' := fun w => jitter_any l A B C (2 * P - 1) (by omega) (by omega) (by omega) (by omega) w
  rw [show ((P - 1 : Nat) : Int) = IntKind.i64.wrap ((P : Int) - 1) by rw [wr64 (by omega) (by omega)]; omega] at j3'
  rw [show ((2 * P - 1 : Nat) : Int) = IntKind.i64.wrap (2 * (P : Int) - 1) by rw [wr64 (by omega) (by omega)]; omega] at j4'
  have j3 := hide j3'
  have j4 := hide j4'
  clear j3' j4'
  rw [jit_none] at j2
  have e1 := jit_lt l A B C M
  have e3 := jit_lt l A B C (P - 1)
  have e4 := jit_twice l A B C K
  rw [Nat.pow_succ, ← hPe, Nat.mul_comm P 2] at e4
  have HPe := hide hPe
  clear hPe
  generalize V.jit l A B C M = X at *
  generalize V.jit l A B C (P - 1) = LO at *
  generalize V.jit l A B C (2 * P - 1) = HI at *
  have E4 := hide e4
  have hHI : HI < 2 * P := by omega
  clear e4
  have KW := hide ((Below.refl w.heap.size w).alloc (Nat.le_refl _) (Obj.cells #[.int .u64 (l : Int), .int .i64 r, .int .i64 n, .int .i64 a, .int .i64 m] 24))
  have CW := hide (CaseAt.new w l r n a m 24)
  go_enter Try.func3, Try.ntmps3
  go_wp2_with fail
  go_at_call 7
  refine (known_any _).mono ?_
  rintro e w2 ⟨rfl, hb2⟩
  have K2 := hide (KW.out.trans (hb2.mono (by simp)))
  have C2 := hide (CW.out.keep hb2)
  clear hb2 KW CW
  obtain ⟨c0, c1, c2, c3, c4, lt⟩ := C2.out
  have hz := K2.out.size
  go_wp2_with fail
  go_at_call 8
  refine (p1.out _).mono ?_
  rintro e w3 ⟨rfl, rfl⟩
  go_wp2_with fail
  go_at_call 8
  refine (p2.out _).mono ?_
  rintro e w3 ⟨rfl, rfl⟩
  go_wp2_with fail
  go_at_call 8
  refine (p3.out _).mono ?_
  rintro e w3 ⟨rfl, rfl⟩
  go_wp2_with fail
  go_at_call 9
  refine (p4.out _).mono ?_
  rintro e w3 ⟨rfl, rfl⟩
  go_wp2_with fail
  go_at_call 10
  refine (j1.out _).mono ?_
  rintro e w4 ⟨rfl, hb4⟩
  have K4 := hide (K2.out.trans (hb4.mono hz))
  have C4 := hide (C2.out.keep hb4)
  clear hb4 K2 C2 c0 c1 c2 c3 c4 lt hz
  obtain ⟨c0, c1, c2, c3, c4, lt⟩ := C4.out
  have hz := K4.out.size
  go_wp2_with fail
  go_at_call 10
  refine (j2.out _).mono ?_
  rintro e w5 ⟨rfl, hb5⟩
  have K5 := hide (K4.out.trans (hb5.mono hz))
  have C5 := hide (C4.out.keep hb5)
  clear hb5 K4 C4 c0 c1 c2 c3 c4 lt hz
  obtain ⟨c0, c1, c2, c3, c4, lt⟩ := C5.out
  have hz := K5.out.size
  go_wp2_with fail
  go_at_call 11
  refine (p5.out _).mono ?_
  rintro e w3 ⟨rfl, rfl⟩
  clear p1 p2 p3 p4 p5 j1 j2
  go_wp2_with fail
  go_region_held3 (fun wx => wx.cell? ⟨w.heap.size, 0, none⟩ = some (.int .u64 (l : Int))) (first | exact c0 | go_keep) (first
    | (go_at_call 10
       refine (j3.out _).mono ?_
       rintro e w6 ⟨rfl, hb6⟩
       have K6 := hide (K5.out.drew.trans (hb6.mono hz))
       have C6 := hide (C5.out.keep ((Below.refl _ w3).drew.trans hb6))
       have c60 := C6.out.c0
       clear hb6))
  have hz6 := K6.out.size
  clear K5 C5 c0 c1 c2 c3 c4 lt hz
  go_wp2_with fail
  go_region_held3 (fun wx => wx.cell? ⟨w.heap.size, 0, none⟩ = some (.int .u64 (l : Int))) (first | exact c60 | go_keep) (first
    | (go_at_call 10
       refine (j4.out _).mono ?_
       rintro e w7 ⟨rfl, hb7⟩
       have K7 := hide (K6.out.drew.trans (hb7.mono hz6))
       have C7 := hide (C6.out.keep ((Below.refl _ w6).drew.trans hb7))
       have c70 := C7.out.c0
       clear hb7))
  clear j3 j4 K6 C6 hz6
  obtain ⟨v1, ev1, fv1⟩ : ∃ v : Bool, ((HI : Int) == (LO : Int)) = v ∧ (v = true ∨ (v = false ∧ HI = LO + P)) := by
    refine ⟨_, rfl, ?_⟩
    rcases E4.out with h | h
    · left; rw [beq_iff_eq]; omega
    · right
      refine ⟨?_, h⟩
      rw [beq_eq_false_iff_ne]; omega
  have hlo : (LO : Int) < (P : Int) := by omega
  go_upto_region 14 with fail
  rcases fv1 with rfl | ⟨rfl, hv⟩
  · go_wp2_with fail
    go_ret
    exact ⟨rfl, K7.out⟩
  · have HV := hide hv
    have hv2 : ((HI : Int) == IntKind.i64.wrap ((LO : Int) + (P : Int))) = true := by rw [wr64 (by omega) (by omega), beq_iff_eq]; omega
    have hv3 : ((HI : Int) == (LO : Int) + (P : Int)) = true := by rw [beq_iff_eq]; omega
    clear hv
    go_wp2_with fail
    go_ret
    exact ⟨rfl, K7.out⟩
end Go.Proofs.Ytfnndnceaddhgab
