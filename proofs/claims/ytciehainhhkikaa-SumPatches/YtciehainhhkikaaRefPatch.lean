/- The document's Patch; both Patches by one answer. -/
import Derived.Test.YtciehainhhkikaaPatch
import Derived.Test.YtciehainhhkikaaRefMoved
namespace Go.Proofs.Ytciehainhhkikaa
open Go.RowKit

set_option maxHeartbeats 1000000 in
theorem refPatch_no (s n at_ : Int) (a b : Option Addr) (o c m d : Nat) (w : World) (_hn : -9223372036854775808 ≤ n) (hn' : n ≤ 9223372036854775807) (_ha : -9223372036854775808 ≤ at_) (ha' : at_ ≤ 9223372036854775807) (h : ¬ fits n at_ o m) :
    Calls Try.prog 20 #[.int .u32 s, .int .i64 n, .int .i64 at_, .slice a o c, .slice b m d] w fun e w' => e = .returned (.tuple #[.int .u32 0, .int .i64 10]) ∧ w' = w := by
  by_cases h1 : n < 0
  · go_enter Try.func20, Try.ntmps20
    go_wp2
    go_ret2
    exact ⟨rfl, rfl⟩
  · by_cases h2 : at_ < 0
    · go_enter Try.func20, Try.ntmps20
      go_wp2
      go_ret2
      exact ⟨rfl, rfl⟩
    · by_cases h3 : o = m
      · have h4 : n - at_ < (o : Int) := by
          rcases Decidable.em (n - at_ < (o : Int)) with h' | h'
          · exact h'
          · exact absurd ⟨by omega, by omega, h3, by omega⟩ h
        subst h3
        clear h
        go_enter Try.func20, Try.ntmps20
        go_wp2
        go_ret2
        exact ⟨rfl, rfl⟩
      · have h4 : ((o : Int) != (m : Int)) = true := by rw [bne_iff_ne]; omega
        clear h h3
        go_enter Try.func20, Try.ntmps20
        go_wp2
        go_ret2
        exact ⟨rfl, rfl⟩

set_option maxHeartbeats 1000000 in
theorem refPatch_yes (s : Nat) (n at_ : Int) (a b : Option Addr) (o c d : Nat) (x y : List Nat) (w : World) (hs : s < 4294967296) (hn' : n ≤ 9223372036854775807) (hn : 0 ≤ n) (ha : 0 ≤ at_) (hf : (o : Int) ≤ n - at_) (hx : Rd w a o x) (hy : Rd w b o y) :
    Calls Try.prog 20 #[.int .u32 (s : Int), .int .i64 n, .int .i64 at_, .slice a o c, .slice b o d] w fun e w' => e = .returned (.tuple #[.int .u32 (s ^^^ M.itZ (8 * ((n - at_).toNat - o)) (M.more 0 x ^^^ M.more 0 y) : Nat), .int .i64 0]) ∧ Below w.heap.size w w' := by
  have hxo := hx.2.1
  have l1 := M.more_lt 0 x
  have l2 := M.more_lt 0 y
  have l3 := M.xor_lt32 l1 l2
  have x1 := xor32 _ _ l1 l2
  have x2 := xor32 _ _ hs (M.itZ_lt (8 * ((n - at_).toNat - o)) l3)
  have h1 : ¬ n < 0 := by omega
  have h2 : ¬ at_ < 0 := by omega
  have h3 : ((o : Int) != (o : Int)) = false := by simp
  have h4 : ¬ n - at_ < (o : Int) := by omega
  have HX := hide hx
  have HY := hide hy
  clear hx hy
  go_enter Try.func20, Try.ntmps20
  go_wp2_with fail
  refine (refSum_any _ _ _ _ _ HX.out).mono ?_
  rintro e w1 ⟨rfl, rfl⟩
  go_wp2_with fail
  refine (refSum_any _ _ _ _ _ HY.out).mono ?_
  rintro e w2 ⟨rfl, rfl⟩
  go_wp2_with fail
  refine (refMoved_int _ _ l3 (by omega) (by omega) _).mono ?_
  rintro e w3 ⟨rfl, hb3⟩
  go_wp2
  go_ret2
  exact ⟨rfl, hb3⟩

def fitsB (n at_ : Int) (o m : Nat) : Bool := decide (0 ≤ n) && (decide (0 ≤ at_) && (decide (o = m) && decide ((o : Int) ≤ n - at_)))
theorem fitsB_iff (n at_ : Int) (o m : Nat) : fitsB n at_ o m = true ↔ fits n at_ o m := by simp [fitsB, fits]

/-- the sum that Patch answers -/
def pv (s : Nat) (n at_ : Int) (x y : List Nat) : Nat := if fitsB n at_ x.length y.length = true then s ^^^ M.itZ (8 * ((n - at_).toNat - x.length)) (M.more 0 x ^^^ M.more 0 y) else 0
/-- its error -/
def pe (n at_ : Int) (x y : List Nat) : Int := if fitsB n at_ x.length y.length = true then 0 else 10

theorem patch_any (s : Nat) (n at_ : Int) (a b : Option Addr) (o c m d : Nat) (x y : List Nat) (w : World) (hs : s < 4294967296) (h1 : -9223372036854775808 ≤ n) (h2 : n ≤ 9223372036854775807) (h3 : -9223372036854775808 ≤ at_) (h4 : at_ ≤ 9223372036854775807) (hx : Rd w a o x) (hy : Rd w b m y) :
    Calls Try.prog 19 #[.int .u32 (s : Int), .int .i64 n, .int .i64 at_, .slice a o c, .slice b m d] w fun e w' => e = .returned (.tuple #[.int .u32 (pv s n at_ x y : Nat), .int .i64 (pe n at_ x y)]) ∧ Below w.heap.size w w' := by
  have ho := hx.1
  have hm := hy.1
  by_cases hf : fitsB n at_ x.length y.length = true
  · have e1 : pv s n at_ x y = s ^^^ M.itZ (8 * ((n - at_).toNat - x.length)) (M.more 0 x ^^^ M.more 0 y) := if_pos hf
    have e2 : pe n at_ x y = 0 := if_pos hf
    obtain ⟨f1, f2, f3, f4⟩ := (fitsB_iff _ _ _ _).1 hf
    have f3' : o = m := by omega
    subst f3'
    rw [e1, e2, ← ho]
    exact patch_yes s n at_ a b o c d x y w hs h2 f1 f2 (by omega) hx hy
  · have e1 : pv s n at_ x y = 0 := if_neg hf
    have e2 : pe n at_ x y = 10 := if_neg hf
    rw [e1, e2]
    rw [← ho, ← hm, fitsB_iff] at hf
    exact (patch_no s n at_ a b o c m d w h1 h2 h3 h4 hf).mono fun _ _ h => ⟨h.1, by rw [h.2]; exact Below.refl _ _⟩

theorem refPatch_any (s : Nat) (n at_ : Int) (a b : Option Addr) (o c m d : Nat) (x y : List Nat) (w : World) (hs : s < 4294967296) (h1 : -9223372036854775808 ≤ n) (h2 : n ≤ 9223372036854775807) (h3 : -9223372036854775808 ≤ at_) (h4 : at_ ≤ 9223372036854775807) (hx : Rd w a o x) (hy : Rd w b m y) :
    Calls Try.prog 20 #[.int .u32 (s : Int), .int .i64 n, .int .i64 at_, .slice a o c, .slice b m d] w fun e w' => e = .returned (.tuple #[.int .u32 (pv s n at_ x y : Nat), .int .i64 (pe n at_ x y)]) ∧ Below w.heap.size w w' := by
  have ho := hx.1
  have hm := hy.1
  by_cases hf : fitsB n at_ x.length y.length = true
  · have e1 : pv s n at_ x y = s ^^^ M.itZ (8 * ((n - at_).toNat - x.length)) (M.more 0 x ^^^ M.more 0 y) := if_pos hf
    have e2 : pe n at_ x y = 0 := if_pos hf
    obtain ⟨f1, f2, f3, f4⟩ := (fitsB_iff _ _ _ _).1 hf
    have f3' : o = m := by omega
    subst f3'
    rw [e1, e2, ← ho]
    exact refPatch_yes s n at_ a b o c d x y w hs h2 f1 f2 (by omega) hx hy
  · have e1 : pv s n at_ x y = 0 := if_neg hf
    have e2 : pe n at_ x y = 10 := if_neg hf
    rw [e1, e2]
    rw [← ho, ← hm, fitsB_iff] at hf
    exact (refPatch_no s n at_ a b o c m d w h1 h2 h3 h4 hf).mono fun _ _ h => ⟨h.1, by rw [h.2]; exact Below.refl _ _⟩

end Go.Proofs.Ytciehainhhkikaa
