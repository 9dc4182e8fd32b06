/- Contract of pace.Delay. -/
import Derived.Test.YtgjjiomnbhildaaVPrim
import Derived.Test.YtgjjiomnbhildaaShelf
import Derived.Lib.ItoaNum
namespace Go.Proofs.Ytgjjiomnbhildaa
open Go.RowKit

theorem len_bit (m : Nat) (hm : m ≤ 1099511627776) : Lib.bitLen m ≤ 64 ∧ m < 2 ^ Lib.bitLen m := by
  refine ⟨Lib.bitLen_le m 64 (by decide) (by omega), ?_⟩
  rcases Nat.eq_zero_or_pos m with rfl | h
  · decide
  · exact (Lib.bitLenAux_bounds 64 m (by omega) (by omega)).2.2

theorem delay_any (b m k : Nat) (hb : b ≤ 1099511627776) (hm : m ≤ 1099511627776) (hk : k < 9223372036854775807) (w : World) :
    Calls Try.prog 6 #[.int .i64 b, .int .i64 m, .int .i64 (k + 1 : Nat)] w fun e w' => e = .returned (.tuple #[.int .i64 (V.dbl b m k : Nat), .int .i64 0]) ∧ w' = w := by
  have d1 : decide (0 ≤ (b : Int) ∧ (b : Int) ≤ 1099511627776) = true := decide_eq_true (by omega)
  have d2 : decide (0 ≤ (m : Int) ∧ (m : Int) ≤ 1099511627776) = true := decide_eq_true (by omega)
  generalize hX : V.dbl b m k = X
  have HX := hide hX
  clear hX
  generalize hK : k + 1 = K
  have HK := hide hK
  have hK1 : 1 ≤ K := by omega
  have hK2 : K < 9223372036854775808 := by omega
  clear hK
  have hL0 := Try.bits_Len (m : Int) w (by omega) (by omega)
  rw [Int.toNat_natCast] at hL0
  obtain ⟨hL1, hL2⟩ := len_bit m hm
  generalize Lib.bitLen m = L at *
  have HL := hide hL0
  have HL2 := hide hL2
  have HE := hide (show min k L = k ∧ V.dbl b m k = X ∨ min k L = L ∧ V.dbl b m L = X by
    rcases Nat.lt_or_ge L k with h | h
    · exact .inr ⟨by omega, by rw [← HX.out]; exact (V.dbl_enough b m k L hL2 (by omega)).symm⟩
    · exact .inl ⟨by omega, HX.out⟩)
  clear hL0 hL2
  go_enter Try.func6, Try.ntmps6
  go_wp2_with (go_at_call 12; refine (isDelay_any _ _).mono ?_; rintro e w' ⟨rfl, rfl⟩; first | rw [d1] | rw [d2])
  go_at_call 13
  refine HL.out.mono ?_
  rintro e w2 ⟨rfl, rfl⟩
  go_wp2_with fail
  go_loop [8, 32] (fun d i => ∃ D I : Nat, d = .int .i64 D ∧ i = .int .i64 I ∧ I ≤ K - 1 ∧ I ≤ L ∧ D ≤ 1099511627776 ∧ Hid (D = V.dbl b m I)) (fun _ i => 64 - (intOf i).toNat)
  case atStart => exact ⟨min b m, 0, by congr 1; omega, rfl, by omega, by omega, by omega, hide rfl⟩
  case round =>
    obtain ⟨D, I, rfl, rfl, hI1, hI2, hD, HR⟩ := hrel
    by_cases c : I < K - 1 ∧ I < L
    · have c' : (I : Int) < min ((K : Int) - 1) (L : Int) := by omega
      go_wp2
      have e := HR.out
      exact ⟨⟨min (2 * D) m, I + 1, by congr 1; omega, by go_num, by omega, by omega, by omega, hide (by rw [e]; rfl)⟩, by simp [intOf]; omega⟩
    · have c' : ¬ (I : Int) < min ((K : Int) - 1) (L : Int) := by omega
      go_wp2
      go_ret2
      refine ⟨ret2 ?_, rfl⟩
      have e := HR.out
      have hk1 := HK.out
      rcases HE.out with ⟨h1, h2⟩ | ⟨h1, h2⟩
      · rw [show I = k by omega, h2] at e; rw [e]
      · rw [show I = L by omega, h2] at e; rw [e]
end Go.Proofs.Ytgjjiomnbhildaa
