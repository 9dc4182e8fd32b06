/- PaceChances: the walk. -/
import Derived.Test.YtfnndnceaddhgabVCas
namespace Go.Proofs.Ytfnndnceaddhgab
open Go.RowKit

set_option maxHeartbeats 1000000 in
theorem chances_walk (l : Nat) (r n a m : Int) (w : World) (hr : V.i64 r) (hn : V.i64 n) (ha : V.i64 a) (hm : V.i64 m) :
    Calls Try.prog 4 #[.agg #[.int .u64 (l : Int), .int .i64 r, .int .i64 n, .int .i64 a, .int .i64 m]] w fun e w' => e = .returned (.bool true) ∧ Below w.heap.size w w' := by
  have p1 := hide (fun w => countOf_any r hr.1 hr.2 w)
  have p2 := hide (fun w => countOf_any n hn.1 hn.2 w)
  have p3 := hide (fun w => countOf_any a ha.1 ha.2 w)
  have p4 := hide (fun w => delayOf_any m hm.1 hm.2 w)
  have q1 := V.pk_lt r 9223372036854775807 (by decide)
  have q2 := V.pk_lt n 9223372036854775807 (by decide)
  have q3 := V.pk_lt a 9223372036854775807 (by decide)
  have q4 := V.pk_lt m 1099511627777 (by decide)
  generalize V.pk r 9223372036854775807 = A at *
  generalize V.pk n 9223372036854775807 = B at *
  generalize V.pk a 9223372036854775807 = C at *
  generalize V.pk m 1099511627777 = M at *
  have j1 := hide (fun w => jitter_any l A B C M (by omega) (by omega) (by omega) (by omega) w)
  have m1 := hide (fun w => mix_any l A (by omega) w)
  have m2 := hide (fun w => mix_any (V.mix l A) B (by omega) w)
  have m3 := hide (fun w => mix_any (V.mix (V.mix l A) B) C (by omega) w)
  have HE := hide (show V.jit l A B C M = V.mix (V.mix (V.mix l A) B) C % (M + 1) from rfl)
  have e1 := jit_lt l A B C M
  have l3 := V.mix_lt (V.mix (V.mix l A) B) C
  generalize V.jit l A B C M = X at *
  generalize V.mix (V.mix (V.mix l A) B) C = Z at *
  generalize V.mix (V.mix l A) B = Y at *
  generalize V.mix l A = U at *
  have HE2 : (X : Int) = (Z : Int) % ((M : Int) + 1) := by rw [HE.out, Int.natCast_emod]; rfl
  have HE3 := hide HE2
  clear HE2
  have KW := hide ((Below.refl w.heap.size w).alloc (Nat.le_refl _) (Obj.cells #[.int .u64 (l : Int), .int .i64 r, .int .i64 n, .int .i64 a, .int .i64 m] 24))
  have CW := hide (CaseAt.new w l r n a m 24)
  go_enter Try.func4, Try.ntmps4
  go_wp2_with fail
  go_at_call 8
  refine (p1.out _).mono ?_
  rintro e w3 ⟨rfl, rfl⟩
  go_wp2_with fail
  go_at_call 8
  refine (p2.out _).mono ?_
  rintro e w3 ⟨rfl, rfl⟩
  go_wp2_with fail
  go_at_call 8
  refine (p3.out _).mono ?_
  rintro e w3 ⟨rfl, rfl⟩
  go_wp2_with fail
  go_at_call 9
  refine (p4.out _).mono ?_
  rintro e w3 ⟨rfl, rfl⟩
  go_wp2_with fail
  go_at_call 10
  refine (j1.out _).mono ?_
  rintro e w4 ⟨rfl, hb4⟩
  have K4 := hide (KW.out.trans (hb4.mono (by simp)))
  have C4 := hide (CW.out.keep hb4)
  clear hb4 KW CW
  obtain ⟨c0, c1, c2, c3, c4, lt⟩ := C4.out
  have hz := K4.out.size
  go_wp2_with fail
  go_at_call 12
  refine (m1.out _).mono ?_
  rintro e w3 ⟨rfl, rfl⟩
  go_wp2_with fail
  go_at_call 12
  refine (m2.out _).mono ?_
  rintro e w3 ⟨rfl, rfl⟩
  go_wp2_with fail
  go_at_call 12
  refine (m3.out _).mono ?_
  rintro e w3 ⟨rfl, rfl⟩
  clear p1 p2 p3 p4 j1 m1 m2 m3
  go_wp2_with fail
  go_at_call 7
  refine (known_any _).mono ?_
  rintro e w5 ⟨rfl, hb5⟩
  have K5 := hide (K4.out.trans (hb5.mono hz))
  clear hb5 K4 C4
  have hbe : ((X : Int) == (Z : Int) % ((M : Int) + 1)) = true := by rw [beq_iff_eq]; exact HE3.out
  have hne : ¬ (M : Int) + 1 = 0 := by omega
  go_wp2_with fail
  go_ret
  exact ⟨rfl, K5.out⟩
end Go.Proofs.Ytfnndnceaddhgab
