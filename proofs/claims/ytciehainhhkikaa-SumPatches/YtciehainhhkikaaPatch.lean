/- Contract of Patch. -/
import Derived.Test.YtciehainhhkikaaMem
namespace Go.Proofs.Ytciehainhhkikaa
open Go.RowKit

/-- may it be? -/
def fits (n at_ : Int) (o m : Nat) : Prop := 0 ≤ n ∧ 0 ≤ at_ ∧ o = m ∧ (o : Int) ≤ n - at_

set_option maxHeartbeats 1000000 in
theorem patch_no (s n at_ : Int) (a b : Option Addr) (o c m d : Nat) (w : World) (_hn : -9223372036854775808 ≤ n) (hn' : n ≤ 9223372036854775807) (_ha : -9223372036854775808 ≤ at_) (ha' : at_ ≤ 9223372036854775807) (h : ¬ fits n at_ o m) :
    Calls Try.prog 19 #[.int .u32 s, .int .i64 n, .int .i64 at_, .slice a o c, .slice b m d] w fun e w' => e = .returned (.tuple #[.int .u32 0, .int .i64 10]) ∧ w' = w := by
  by_cases h1 : n < 0
  · go_enter Try.func19, Try.ntmps19
    go_wp2
    go_ret2
    exact ⟨rfl, rfl⟩
  · by_cases h2 : at_ < 0
    · go_enter Try.func19, Try.ntmps19
      go_wp2
      go_ret2
      exact ⟨rfl, rfl⟩
    · by_cases h3 : o = m
      · have h4 : n - at_ < (o : Int) := by
          rcases Decidable.em (n - at_ < (o : Int)) with h' | h'
          · exact h'
          · exact absurd ⟨by omega, by omega, h3, by omega⟩ h
        subst h3
        clear h
        go_enter Try.func19, Try.ntmps19
        go_wp2
        go_ret2
        exact ⟨rfl, rfl⟩
      · have h4 : ((o : Int) != (m : Int)) = true := by rw [bne_iff_ne]; omega
        clear h h3
        go_enter Try.func19, Try.ntmps19
        go_wp2
        go_ret2
        exact ⟨rfl, rfl⟩

theorem moved_int (x : Nat) (n : Int) (hx : x < 4294967296) (h0 : 0 ≤ n) (hn : n ≤ 9223372036854775807) (w : World) :
    Calls Try.prog 27 #[.int .u32 (x : Int), .int .i64 n] w fun e w' => e = .returned (.int .u32 (M.itZ (8 * n.toNat) x : Nat)) ∧ w' = w := by
  obtain ⟨m, rfl⟩ := Int.eq_ofNat_of_zero_le h0
  rw [Int.toNat_natCast]
  exact moved_any x m hx (by omega) w

set_option maxHeartbeats 1000000 in
theorem patch_yes (s : Nat) (n at_ : Int) (a b : Option Addr) (o c d : Nat) (x y : List Nat) (w : World) (hs : s < 4294967296) (hn' : n ≤ 9223372036854775807) (hn : 0 ≤ n) (ha : 0 ≤ at_) (hf : (o : Int) ≤ n - at_) (hx : Rd w a o x) (hy : Rd w b o y) :
    Calls Try.prog 19 #[.int .u32 (s : Int), .int .i64 n, .int .i64 at_, .slice a o c, .slice b o d] w fun e w' => e = .returned (.tuple #[.int .u32 (s ^^^ M.itZ (8 * ((n - at_).toNat - o)) (M.more 0 x ^^^ M.more 0 y) : Nat), .int .i64 0]) ∧ Below w.heap.size w w' := by
  have hxo := hx.2.1
  have l1 := M.more_lt 0 x
  have l2 := M.more_lt 0 y
  have l3 := M.xor_lt32 l1 l2
  have x1 := xor32 _ _ l1 l2
  have x2 := xor32 _ _ hs (M.itZ_lt (8 * ((n - at_).toNat - o)) l3)
  have h1 : ¬ n < 0 := by omega
  have h2 : ¬ at_ < 0 := by omega
  have h3 : ((o : Int) != (o : Int)) = false := by simp
  have h4 : ¬ n - at_ < (o : Int) := by omega
  have HX := hide hx
  have HY := hide hy
  clear hx hy
  go_enter Try.func19, Try.ntmps19
  go_wp2_with fail
  refine (sum_any _ _ _ _ _ HX.out).mono ?_
  rintro e w1 ⟨rfl, hb1⟩
  go_wp2_with fail
  refine (sum_any _ _ _ _ _ (HY.out.below (Nat.le_refl _) hb1)).mono ?_
  rintro e w2 ⟨rfl, hb2⟩
  go_wp2_with fail
  refine (moved_int _ _ l3 (by omega) (by omega) _).mono ?_
  rintro e w3 ⟨rfl, rfl⟩
  go_wp2
  go_ret2
  exact ⟨rfl, hb1.trans (hb2.mono hb1.size)⟩

end Go.Proofs.Ytciehainhhkikaa
