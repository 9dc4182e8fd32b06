/- The document's writer: Head. -/
import Derived.Test.YteaokgolnhdloaaPRefW
import Derived.Test.YteaokgolnhdloaaPWrN
namespace Go.Proofs.Yteaokgolnhdloaa
namespace Wm
open Go.RowKit

theorem RHead_any (S : Nat → Prop) (w0 : World) (p : Nat) (most : Int) (n : Nat) (hn : n ≤ 140737488351232) (s : K.WS) (w : World) (h : VAt S w0 p s w) :
    Calls Try.prog 22 #[.pointer (some ⟨p, 0, none⟩), .int .i64 most, .int .i64 (n : Nat)] w fun en w' => en = .returned (.tuple #[]) ∧ VAt S w0 p (putW (headW most n) s) w' := by
  have HH := hide h
  clear h
  generalize hs' : putW (headW most n) s = s'
  have HS := hide hs'
  clear hs'
  by_cases hb : most < (n : Int) ∨ 16777216 < n
  · have HE : Hid (s.fail 20 = s') := by
      show _ = _
      rw [← HS.out]
      unfold putW headW K.WS.fail
      rw [if_pos hb]
      by_cases hz : s.fault = 0 <;> simp [hz]
    by_cases h1 : most < (n : Int)
    · clear hb
      go_enter Try.func22, Try.ntmps22
      go_wp2_with fail
      refine (wrong_any S w0 p s 20 _ HH.out).mono ?_
      rintro e w1 ⟨rfl, h1⟩
      rw [HE.out] at h1
      go_wp2
      first | go_end0 | refine bodyPost_ret (results_none rfl _ _ _) rfl ?_
      exact ⟨rfl, h1⟩
    · have h2 : (16777216 : Int) < (n : Int) := by omega
      clear hb
      go_enter Try.func22, Try.ntmps22
      go_wp2_with fail
      refine (wrong_any S w0 p s 20 _ HH.out).mono ?_
      rintro e w1 ⟨rfl, h1⟩
      rw [HE.out] at h1
      go_wp2
      first | go_end0 | refine bodyPost_ret (results_none rfl _ _ _) rfl ?_
      exact ⟨rfl, h1⟩
  · have h1 : ¬ most < (n : Int) := by omega
    have h2 : ¬ (16777216 : Int) < (n : Int) := by omega
    have HE : Hid (putW (fun s => s.lay (K.num n)) s = s') := by
      show _ = _
      rw [← HS.out]
      unfold putW headW
      rw [if_neg hb]
    clear hb
    have HK := hide (K.num_len9 (n := n) (by omega))
    go_enter Try.func22, Try.ntmps22
    go_wp2_with fail
    refine (LayNumber_any n (by omega) _).mono ?_
    rintro e w1 ⟨a, c, rfl, hr, h0, hb⟩
    have HR := hide hr
    have H0 := hide h0
    have HH1 := hide (HH.out.below hb)
    clear hr h0 hb
    go_wp2_with fail
    refine (Lay_any S w0 p s a _ c _ _ HH1.out HR.out H0.out (by have := HK.out; omega)).mono ?_
    rintro e w2 ⟨rfl, h2⟩
    rw [HE.out] at h2
    go_wp2
    go_end0
    exact ⟨rfl, h2⟩
end Wm
end Go.Proofs.Yteaokgolnhdloaa
