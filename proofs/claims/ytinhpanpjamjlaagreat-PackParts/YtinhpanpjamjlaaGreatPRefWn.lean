/- The document's writer: Number. -/
import Derived.Test.YtinhpanpjamjlaaGreatPRefW
namespace Go.Proofs.YtinhpanpjamjlaaGreat
open Go.RowKit

theorem RNumber_any (S : Nat → Prop) (w0 : World) (p : Nat) (least most x : Int) (hx : x ≤ 9223372036854775807) (s : K.WS) (w : World) (h : VAt S w0 p s w) :
    Calls Tryz.prog 48 #[.pointer (some ⟨p, 0, none⟩), .int .i64 least, .int .i64 most, .int .i64 x] w fun en w' => en = .returned (.tuple #[]) ∧ VAt S w0 p (putW (numW least most x) s) w' := by
  have HH := hide h
  clear h
  generalize hs' : putW (numW least most x) s = s'
  have HS := hide hs'
  clear hs'
  by_cases hb : x < least ∨ x < 0 ∨ most < x
  · have HE : Hid (s.fail 22 = s') := by
      show _ = _
      rw [← HS.out]
      unfold putW numW K.WS.fail
      rw [if_pos hb]
      by_cases hz : s.fault = 0 <;> simp [hz]
    by_cases h1 : x < 0
    · go_enter Tryz.func48, Tryz.ntmps48
      go_wp2_with fail
      refine (wrong_any S w0 p s 22 _ HH.out).mono ?_
      rintro e w1 ⟨rfl, h1⟩
      rw [HE.out] at h1
      go_wp2
      first | go_end0 | refine bodyPost_ret (results_none rfl _ _ _) rfl ?_
      exact ⟨rfl, h1⟩
    · by_cases h2 : x < least
      · clear hb
        go_enter Tryz.func48, Tryz.ntmps48
        go_wp2_with fail
        refine (wrong_any S w0 p s 22 _ HH.out).mono ?_
        rintro e w1 ⟨rfl, h1⟩
        rw [HE.out] at h1
        go_wp2
        first | go_end0 | refine bodyPost_ret (results_none rfl _ _ _) rfl ?_
        exact ⟨rfl, h1⟩
      · have h3 : most < x := by omega
        clear hb
        go_enter Tryz.func48, Tryz.ntmps48
        go_wp2_with fail
        refine (wrong_any S w0 p s 22 _ HH.out).mono ?_
        rintro e w1 ⟨rfl, h1⟩
        rw [HE.out] at h1
        go_wp2
        first | go_end0 | refine bodyPost_ret (results_none rfl _ _ _) rfl ?_
        exact ⟨rfl, h1⟩
  · have h1 : ¬ x < 0 := by omega
    have h2 : ¬ x < least := by omega
    have h3 : ¬ most < x := by omega
    clear hb
    obtain ⟨n, rfl⟩ := Int.eq_ofNat_of_zero_le (show 0 ≤ x by omega)
    have HE : Hid (putW (fun s => s.lay (K.num n)) s = s') := by
      show _ = _
      rw [← HS.out]
      unfold putW numW
      rw [if_neg (by omega : ¬ ((n : Int) < least ∨ (n : Int) < 0 ∨ most < (n : Int))), Int.toNat_natCast]
    have HK := hide (K.num_len9 (n := n) (by omega))
    go_enter Tryz.func48, Tryz.ntmps48
    go_wp2_with fail
    refine (LayNumber_any n (by omega) _).mono ?_
    rintro e w1 ⟨a, c, rfl, hr, h0, hb⟩
    have HR := hide hr
    have H0 := hide h0
    have HH1 := hide (HH.out.below hb)
    clear hr h0 hb
    go_wp2_with fail
    refine (Lay_any S w0 p s a _ c _ _ HH1.out HR.out H0.out (by have := HK.out; omega)).mono ?_
    rintro e w2 ⟨rfl, h2⟩
    rw [HE.out] at h2
    go_wp2
    go_end0
    exact ⟨rfl, h2⟩

end Go.Proofs.YtinhpanpjamjlaaGreat
