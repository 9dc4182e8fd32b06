/- The laws' own small functions: awake alone (XAwake without pick, for a seat that has no pick). -/
import Derived.Test.YtbgioclbjbmicaaDoorXParse
import Derived.Test.YtbgioclbjbmicaaDoorXMatch
import Derived.Test.YtbgioclbjbmicaaDoorXNextN
import Derived.Test.YtbgioclbjbmicaaDoorXNextL
namespace Go.Proofs.YtbgioclbjbmicaaDoor
open Go.RowKit

/-- The sets of 30 2 * * *. -/
def S0 : X.Sets := fun i => match X.parse [51, 48, 32, 50, 32, 42, 32, 42, 32, 42] with
  | .inl _ => false
  | .inr S => S i
theorem parse0 : X.parse [51, 48, 32, 50, 32, 42, 32, 42, 32, 42] = .inr S0 := by
  unfold S0
  cases h : X.parse [51, 48, 32, 50, 32, 42, 32, 42, 32, 42] with
  | inl n =>
    exfalso
    have : (match X.parse [51, 48, 32, 50, 32, 42, 32, 42, 32, 42] with | .inl _ => false | .inr _ => true) = true := by decide +kernel
    rw [h] at this
    cases this
  | inr S => rfl
theorem s0_at : (List.range 300).all (fun i => S0 i == (i == 30 || i == 62 || (decide (121 ≤ i) && decide (i ≤ 151)) || (decide (181 ≤ i) && decide (i ≤ 192)) || (decide (240 ≤ i) && decide (i ≤ 246)))) = true := by decide +kernel
theorem enough0 : X.enough S0 = false := by decide +kernel

theorem s0_in (i : Nat) (hi : i < 300) : S0 i = (i == 30 || i == 62 || (decide (121 ≤ i) && decide (i ≤ 151)) || (decide (181 ≤ i) && decide (i ≤ 192)) || (decide (240 ≤ i) && decide (i ≤ 246))) := by
  have := List.all_eq_true.1 s0_at i (by simpa using hi)
  simpa using this
theorem mat0 : X.Mat S0 959400 := (X.matB_iff S0 959400).1 (by decide +kernel)
theorem last0 : X.IsLast S0 1000000 959400 true := by
  refine .inl ⟨rfl, by decide, mat0, fun u h1 h2 k => ?_⟩
  obtain ⟨k0, _, k2, k3⟩ := k
  have hk := (K.forth u k0).1
  unfold X.fit at k3
  simp only [Bool.and_eq_true] at k3
  obtain ⟨⟨⟨_, _⟩, k4⟩, k5⟩ := k3
  unfold X.fitH at k4
  unfold X.fitI at k5
  have a1 := hk.h1; have a2 := hk.h2; have a3 := hk.i1; have a4 := hk.i2
  rw [s0_in _ (by omega)] at k4 k5
  simp at k4 k5
  have e1 : K.hh u = 2 := by omega
  have e2 : K.mm u = 30 := by omega
  unfold K.hh at e1
  unfold K.mm at e2
  omega
theorem date0 : datOf 959400 = dat 1970 1 12 2 30 0 1 := by
  have h1 : K.Y 959400 = 1970 := by decide +kernel
  have h2 : K.M 959400 = 1 := by decide +kernel
  have h3 : K.D 959400 = 12 := by decide +kernel
  have h4 : K.hh 959400 = 2 := by decide +kernel
  have h5 : K.mm 959400 = 30 := by decide +kernel
  have h6 : K.ss 959400 = 0 := by decide +kernel
  have h7 : K.W 959400 = 1 := by decide +kernel
  unfold datOf; rw [h1, h2, h3, h4, h5, h6, h7]
set_option maxHeartbeats 1000000 in
theorem awake_any (w : World) (hE : Env w) :
    Calls Tryd.prog 7 #[] w fun e w' => e = .returned (.bool true) ∧ Below w.heap.size w w' := by
  have hA := at_in 959400 (by decide) (by decide)
  rw [date0] at hA
  have HA := hide hA
  clear hA
  go_enter Tryd.func7, Tryd.ntmps7
  go_wp2_with fail
  go_at_call 20
  refine (HA.out _ hE.tab).mono ?_
  rintro e w1 ⟨rfl, hb1⟩
  have hE1 := hE.keep hb1
  go_wp2_with fail
  have hB2 : Below w1.heap.size w1 (w1.alloc (.cells #[.int .i64 1970, .int .i64 1, .int .i64 12, .int .i64 2, .int .i64 30, .int .i64 0, .int .i64 1] 44)) := Below.put (Below.refl _ _) _
  have hE2 := hE1.keep hB2
  have hb2 := hb1.trans (hB2.mono hb1.size)
  generalize w1.alloc (.cells #[.int .i64 1970, .int .i64 1, .int .i64 12, .int .i64 2, .int .i64 30, .int .i64 0, .int .i64 1] 44) = W2 at *
  clear hE1 hb1 hB2
  go_at_call 21
  refine (parse_any _ W2 hE2).mono ?_
  rintro e w3 ⟨hp, hb3⟩
  rw [show (ByteArray.mk #[51, 48, 32, 50, 32, 42, 32, 42, 32, 42]).data.toList = [51, 48, 32, 50, 32, 42, 32, 42, 32, 42] from rfl, parse0] at hp
  obtain ⟨g, rfl, hX, _⟩ := hp
  have hE3 := hE2.keep hb3
  have HB3 := hide (hb2.trans (hb3.mono hb2.size))
  clear hb2 hb3 hE2
  go_wp2_with fail
  go_at_call 15
  refine (last_any g S0 1000000 _ hE3 hX).mono ?_
  rintro e w4 ⟨n, b, rfl, hL, hb4⟩
  obtain ⟨rfl, rfl⟩ := hL.uniq last0
  go_wp2_with fail
  go_ret
  exact ⟨rfl, HB3.out.trans (hb4.mono HB3.out.size)⟩
end Go.Proofs.YtbgioclbjbmicaaDoor
