/- CronTexts: the walk. -/
import Derived.Test.YtjoigomjdgkfhabDoorXAwake
import Derived.Test.YtjoigomjdgkfhabDoorXTxt
namespace Go.Proofs.YtjoigomjdgkfhabDoor
open Go.RowKit

set_option maxHeartbeats 2000000 in
theorem texts_walk (s : ByteArray) (w : World) (hE : Env w) :
    Calls Tryd.prog 3 #[.string s] w fun e w' => e = .returned (.bool true) ∧ Below w.heap.size w w' := by
  go_enter Tryd.func3, Tryd.ntmps3
  go_wp2_with fail
  go_at_call 6
  refine (awake_any w hE).mono ?_
  rintro e w1 ⟨rfl, hb1⟩
  have hE1 := hE.keep hb1
  go_wp2_with fail
  go_at_call 7
  refine (parse_any s w1 hE1).mono ?_
  rintro e w2 ⟨hp, hb2⟩
  have hE2 := hE1.keep hb2
  have HB2 := hide (hb1.trans (hb2.mono hb1.size))
  clear hb1 hb2 hE hE1
  cases hpar : X.parse s.data.toList with
  | inl n =>
    rw [hpar] at hp
    have hp' : e = .returned (.tuple #[.pointer none, .int .i64 n]) := hp
    subst hp'
    rcases parse_err hpar with rfl | rfl
    all_goals
      go_wp2_with fail
      go_ret
      exact ⟨rfl, HB2.out⟩
  | inr S =>
    rw [hpar] at hp
    obtain ⟨g, rfl, hX, _⟩ := hp
    have hG := X.parse_good hpar
    have hpt := X.parse_text hG
    have htl := X.text_len hG
    obtain ⟨T, hT⟩ : ∃ T : ByteArray, T = ⟨(X.text S).toArray⟩ := ⟨_, rfl⟩
    have hTl : T.data.toList = X.text S := by rw [hT]
    have hTs : T.size ≤ 935 := by
      have : T.size = T.data.toList.length := by simp
      rw [this, hTl]; exact htl
    have HT := hide hT
    have HPT := hide hpt
    have HTL := hide hTl
    clear hpar hpt htl hTl hT
    go_wp2_with fail
    go_at_call 8
    refine (exprText_any g S hG _ hE2 hX).mono ?_
    rintro e w3 ⟨rfl, hb3⟩
    rw [← HT.out]
    have hE3 := hE2.keep hb3
    have hX3 := hX.keep hb3
    have HB3 := hide (HB2.out.trans (hb3.mono HB2.out.size))
    clear hE2 hX hb3 HB2
    go_wp2_with fail
    go_at_call 7
    refine (parse_any T w3 hE3).mono ?_
    rintro e w4 ⟨hp, hb4⟩
    rw [HTL.out, HPT.out] at hp
    obtain ⟨k, rfl, hY4, _⟩ := hp
    have hE4 := hE3.keep hb4
    have hX4 := hX3.keep hb4
    have HB4 := hide (HB3.out.trans (hb4.mono HB3.out.size))
    clear hE3 hX3 hb4 HB3
    go_wp2_with fail
    go_at_call 9
    refine (same_any g k S S _ hX4 hY4).mono ?_
    rintro e w5 ⟨rfl, hb5⟩
    rw [sameB_self]
    have hE5 := hE4.keep hb5
    have hY5 := hY4.keep hb5
    have HB5 := hide (HB4.out.trans (hb5.mono HB4.out.size))
    clear hE4 hX4 hY4 hb5 HB4
    go_wp2_with fail
    go_at_call 8
    refine (exprText_any k S hG _ hE5 hY5).mono ?_
    rintro e w6 ⟨rfl, hb6⟩
    rw [← HT.out]
    have HB6 := hide (HB5.out.trans (hb6.mono HB5.out.size))
    clear hE5 hY5 hb6 HB5
    have hs1 : (T.size : Int) ≤ 1024 := by omega
    go_wp2_with fail
    go_ret
    exact ⟨by simp, HB6.out⟩
end Go.Proofs.YtjoigomjdgkfhabDoor
