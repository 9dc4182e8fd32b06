/- slices.IndexFunc and ContainsFunc, with a function that may turn memory. -/
import Derived.Test.YtgjiaajeionofaaGPrim
namespace Go.Proofs.Ytgjiaajeionofaa
namespace Gr
open Go.RowKit

set_option maxHeartbeats 1000000 in
theorem indexFunc_any (F : FuncId) (caps : Array Value) (S : Nat → Prop) (J T : Nat → World → Prop) (s : Option Addr × Nat × Nat) (z : List Int) (B : Nat) (w : World) (hz : RdZ B w s z) (hS : ∀ i, S i → B ≤ i) (h0 : J 0 w) (hF : ∀ args w, (callFunc F args).run Try.prog w = .ok (.enter F args) w)
    (hstep : ∀ k x W, z[k]? = some x → J k W → Keep S w W → Calls Try.prog F (#[.int .i64 x] ++ caps) W fun e W' => ∃ r : Bool, e = .returned (.bool r) ∧ (r = false → J (k + 1) W') ∧ (r = true → T k W') ∧ Keep S W W') :
    Calls Try.prog 42 #[.slice s.1 s.2.1 s.2.2, .func (.func F) #[] caps] w fun e w' => ∃ i : Int, e = .returned (.int .i64 i) ∧ (i = -1 ∧ J z.length w' ∨ ∃ k : Nat, i = k ∧ k < z.length ∧ T k w') ∧ Keep S w w' := by
  obtain ⟨a, n, c⟩ := s
  have HN : Hid (n = z.length) := hz.1
  have hn2 : n ≤ 17592186044416 := hz.2.1
  have HZ := hide hz
  have HJ := hide h0
  have HS := hide hstep
  clear hz h0 hstep
  go_enter Try.func42, Try.ntmps42
  go_wp2_with fail
  go_loopw [8] (fun iv wr => ∃ i : Nat, iv = .int .i64 (i : Nat) ∧ i ≤ n ∧ Hid (J i wr ∧ Keep S w wr)) (fun iv _ => n - (intOf iv).toNat)
  case atStart => exact ⟨0, rfl, Nat.zero_le _, HJ.out, Keep.refl _ _⟩
  case round =>
    obtain ⟨i, rfl, hi, HD⟩ := hrel
    by_cases hlt : i < n
    · obtain ⟨g, off, x, rfl, hg, hx, hc⟩ := (HZ.out.keep HD.out.2 hS).at hlt
      have C := hide (HS.out i x wr hx HD.out.1 HD.out.2)
      have HX := hide hx
      clear hx HZ HS
      go_wp2_with fail
      refine C.out.mono ?_
      rintro e w2 ⟨r, rfl, r1, r2, k2⟩
      have R1 := hide r1
      have R2 := hide r2
      have K2 := hide (HD.out.2.more k2)
      clear r1 r2 k2
      cases r
      · go_wp2_with fail
        go_roundw
        · exact ⟨i + 1, rfl, by omega, R1.out (by trivial), K2.out⟩
        · show n - ((i : Int) + 1).toNat < n - (i : Int).toNat
          omega
      · go_wp2_with fail
        go_ret
        exact ⟨i, rfl, .inr ⟨i, rfl, by have := HN.out; omega, R2.out (by trivial)⟩, K2.out⟩
    · go_wp2_with fail
      go_ret
      obtain rfl : i = z.length := by have := HN.out; omega
      exact ⟨-1, rfl, .inl ⟨rfl, HD.out.1⟩, HD.out.2⟩

/-- a search that ends with nothing has met all, one that finds has stopped there -/
theorem containsFunc_any (F : FuncId) (caps : Array Value) (S : Nat → Prop) (J T : Nat → World → Prop) (s : Option Addr × Nat × Nat) (z : List Int) (B : Nat) (w : World) (hz : RdZ B w s z) (hS : ∀ i, S i → B ≤ i) (h0 : J 0 w) (hF : ∀ args w, (callFunc F args).run Try.prog w = .ok (.enter F args) w)
    (hstep : ∀ k x W, z[k]? = some x → J k W → Keep S w W → Calls Try.prog F (#[.int .i64 x] ++ caps) W fun e W' => ∃ r : Bool, e = .returned (.bool r) ∧ (r = false → J (k + 1) W') ∧ (r = true → T k W') ∧ Keep S W W') :
    Calls Try.prog 29 #[.slice s.1 s.2.1 s.2.2, .func (.func F) #[] caps] w fun e w' => ∃ r : Bool, e = .returned (.bool r) ∧ (r = false → J z.length w') ∧ (r = true → ∃ k : Nat, k < z.length ∧ T k w') ∧ Keep S w w' := by
  have I := hide (indexFunc_any F caps S J T s z B w hz hS h0 hF hstep)
  clear hstep hF hz h0
  go_enter Try.func29, Try.ntmps29
  go_wp2_with fail
  go_at_call 42
  refine I.out.mono ?_
  rintro e w1 ⟨i, rfl, h1, k1⟩
  have H1 := hide h1
  clear h1
  go_wp2_with fail
  go_ret
  refine ⟨_, rfl, fun h => ?_, fun h => ?_, k1⟩
  · rcases H1.out with ⟨rfl, hj⟩ | ⟨k, rfl, hk, ht⟩
    · exact hj
    · simp at h
  · rcases H1.out with ⟨rfl, hj⟩ | ⟨k, rfl, hk, ht⟩
    · simp at h
    · exact ⟨k, hk, ht⟩
theorem enter_e1 : ∀ args w, (callFunc 48 args).run Try.prog w = .ok (.enter 48 args) w := by
  intro args w
  simp [go_sem]
end Gr
end Go.Proofs.Ytgjiaajeionofaa
