/- Contract of checkWhole. -/
import Derived.Test.YtgjiaajeionofaaGNod
namespace Go.Proofs.Ytgjiaajeionofaa
namespace Gr
open Go.RowKit Go.Maps

def cW (nm : ByteArray) (dl : Int) (xs : List No) : Nat := if !isNm nm then 100 else if !wI dl 1 1099511627776 then 101 else if !wI xs.length 1 64 || decide (256 < edges xs) then 102 else 0
set_option maxHeartbeats 4000000 in
theorem checkWhole_any (nm : ByteArray) (dl : Int) (s : Option Addr × Nat × Nat) (xs : List No) (B : Nat) (w : World) (hP : RdP B w s xs) (hs : nm.size ≤ 9223372036854775807) :
    Calls Try.prog 25 #[.agg #[.string nm, .int .i64 dl, .slice s.1 s.2.1 s.2.2]] w fun e w' => e = .returned (.int .i64 (cW nm dl xs : Nat)) ∧ Keep (fun _ => False) w w' := by
  obtain ⟨a, n, c⟩ := s
  have HN : Hid (n = xs.length) := hP.1
  have I := hide (fun w => isName_any nm w hs)
  have W1 := hide (fun w => within_any dl 1 1099511627776 w)
  have W2 := hide (fun w => within_any (n : Int) 1 64 w)
  have KW := hide (Keep.alloc (fun _ => False) w (.cells #[.string nm, .int .i64 dl, .slice a n c] 24))
  have CE := hide (countEdges_any _ _ _ _ (hP.new KW.out))
  have HR : Hid (cW nm dl xs = if !isNm nm then 100 else if !wI dl 1 1099511627776 then 101 else if !wI n 1 64 || decide (256 < edges xs) then 102 else 0) := hide (by unfold cW; rw [HN.out])
  generalize cW nm dl xs = r at *
  clear hP hs
  generalize isNm nm = b1 at *
  generalize wI dl 1 1099511627776 = b2 at *
  go_enter Try.func25, Try.ntmps25
  go_wp2_with fail
  go_at_call 35
  refine (I.out _).mono ?_
  rintro e w1 ⟨rfl, rfl⟩
  cases b1
  · have hr := HR.out
    simp only [Bool.not_false, if_true] at hr
    subst hr
    go_wp2_with fail
    go_ret
    exact ⟨rfl, KW.out⟩
  go_wp2_with fail
  go_at_call 36
  refine (W1.out _).mono ?_
  rintro e w1 ⟨rfl, rfl⟩
  cases b2
  · have hr := HR.out
    simp only [Bool.not_false, Bool.not_true, if_true] at hr
    subst hr
    go_wp2_with fail
    go_ret
    exact ⟨rfl, KW.out⟩
  go_wp2_with fail
  go_at_call 36
  refine (W2.out _).mono ?_
  rintro e w1 ⟨rfl, rfl⟩
  cases h3 : wI (n : Int) 1 64
  · have hr := HR.out
    rw [h3] at hr
    simp only [Bool.not_false, Bool.not_true, if_true, Bool.true_or] at hr
    subst hr
    go_wp2_with fail
    go_ret
    exact ⟨rfl, KW.out⟩
  have hn : n ≤ 64 := by unfold wI at h3; simp at h3; omega
  have hr := HR.out
  rw [h3] at hr
  simp only [Bool.not_true, Bool.false_or] at hr
  have HR2 := hide hr
  clear hr HR h3
  go_wp2_with fail
  go_at_call 37
  refine (CE.out hn).mono ?_
  rintro e w2 ⟨rfl, k2⟩
  have K2 := hide (KW.out.more k2)
  clear k2 CE KW
  generalize edges xs = m at *
  by_cases h : 256 < m
  · have hr := HR2.out
    simp only [h, decide_true, if_true] at hr
    subst hr
    go_wp2_with fail
    go_ret
    exact ⟨rfl, K2.out⟩
  · have hr := HR2.out
    simp only [h, decide_false] at hr
    subst hr
    go_wp2_with fail
    go_ret
    exact ⟨rfl, K2.out⟩
end Gr
end Go.Proofs.Ytgjiaajeionofaa
