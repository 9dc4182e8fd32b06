/- The document's Check (escapementref10): fields. -/
import Derived.Test.YtfoahfgehmghcaaGreatDoorGEdg
namespace Go.Proofs.YtfoahfgehmghcaaGreatDoor
namespace Gr
open Go.RowKit

set_option maxHeartbeats 4000000 in
theorem refFields_any (q : Nd) (w : World) :
    Calls Tryz.prog 61 #[.agg q.row.toArray] w fun e w' => e = .returned (.bool (fOk q)) ∧ Keep (fun _ => False) w w' := by
  obtain ⟨nm, la, bu, cl, be, ba, ca, ji, ⟨ne1, ne2, ne3⟩, ⟨af1, af2, af3⟩⟩ := q
  have KW := hide (Keep.alloc (fun _ => False) w (.cells #[.string nm, .int .i64 la, .int .i64 bu, .int .i64 cl, .int .i64 be, .int .i64 ba, .int .i64 ca, .int .i64 ji, .slice ne1 ne2 ne3, .slice af1 af2 af3] 32))
  simp only [Nd.row]
  have HF : Hid (fOk ⟨nm, la, bu, cl, be, ba, ca, ji, (ne1, ne2, ne3), (af1, af2, af3)⟩ = (wI la 0 15 && wI bu 1 100 && wI cl 1 1099511627776 && wI be 0 1099511627776 && wI ca 1 1099511627776 && wI ba 1 ca && wI ji 0 1099511627776)) := rfl
  generalize fOk ⟨nm, la, bu, cl, be, ba, ca, ji, (ne1, ne2, ne3), (af1, af2, af3)⟩ = r at *
  by_cases h0 : la < 0
  · obtain rfl : r = false := by rw [HF.out]; simp [wI]; omega
    clear HF
    go_enter Tryz.func61, Tryz.ntmps61
    go_wp2
    go_ret
    exact ⟨by simp, KW.out⟩
  by_cases h1 : 15 < la
  · obtain rfl : r = false := by rw [HF.out]; simp [wI]; omega
    clear HF
    go_enter Tryz.func61, Tryz.ntmps61
    go_wp2
    go_ret
    exact ⟨by simp, KW.out⟩
  by_cases h2 : bu < 1
  · obtain rfl : r = false := by rw [HF.out]; simp [wI]; omega
    clear HF
    go_enter Tryz.func61, Tryz.ntmps61
    go_wp2
    go_ret
    exact ⟨by simp, KW.out⟩
  by_cases h3 : 100 < bu
  · obtain rfl : r = false := by rw [HF.out]; simp [wI]; omega
    clear HF
    go_enter Tryz.func61, Tryz.ntmps61
    go_wp2
    go_ret
    exact ⟨by simp, KW.out⟩
  by_cases h4 : cl < 1
  · obtain rfl : r = false := by rw [HF.out]; simp [wI]; omega
    clear HF
    go_enter Tryz.func61, Tryz.ntmps61
    go_wp2
    go_ret
    exact ⟨by simp, KW.out⟩
  by_cases h5 : 1099511627776 < cl
  · obtain rfl : r = false := by rw [HF.out]; simp [wI]; omega
    clear HF
    go_enter Tryz.func61, Tryz.ntmps61
    go_wp2
    go_ret
    exact ⟨by simp, KW.out⟩
  by_cases h6 : be < 0
  · obtain rfl : r = false := by rw [HF.out]; simp [wI]; omega
    clear HF
    go_enter Tryz.func61, Tryz.ntmps61
    go_wp2
    go_ret
    exact ⟨by simp, KW.out⟩
  by_cases h7 : 1099511627776 < be
  · obtain rfl : r = false := by rw [HF.out]; simp [wI]; omega
    clear HF
    go_enter Tryz.func61, Tryz.ntmps61
    go_wp2
    go_ret
    exact ⟨by simp, KW.out⟩
  by_cases h8 : ca < 1
  · obtain rfl : r = false := by rw [HF.out]; simp [wI]; omega
    clear HF
    go_enter Tryz.func61, Tryz.ntmps61
    go_wp2
    go_ret
    exact ⟨by simp, KW.out⟩
  by_cases h9 : 1099511627776 < ca
  · obtain rfl : r = false := by rw [HF.out]; simp [wI]; omega
    clear HF
    go_enter Tryz.func61, Tryz.ntmps61
    go_wp2
    go_ret
    exact ⟨by simp, KW.out⟩
  by_cases g0 : 1 ≤ ba
  rotate_left
  · obtain rfl : r = false := by rw [HF.out]; simp [wI]; omega
    clear HF
    go_enter Tryz.func61, Tryz.ntmps61
    go_wp2
    go_ret
    exact ⟨by simp, KW.out⟩
  by_cases g1 : ba ≤ ca
  rotate_left
  · obtain rfl : r = false := by rw [HF.out]; simp [wI]; omega
    clear HF
    go_enter Tryz.func61, Tryz.ntmps61
    go_wp2
    go_ret
    exact ⟨by simp, KW.out⟩
  by_cases g2 : 0 ≤ ji
  rotate_left
  · obtain rfl : r = false := by rw [HF.out]; simp [wI]; omega
    clear HF
    go_enter Tryz.func61, Tryz.ntmps61
    go_wp2
    go_ret
    exact ⟨by simp, KW.out⟩
  by_cases g3 : ji ≤ 1099511627776
  rotate_left
  · obtain rfl : r = false := by rw [HF.out]; simp [wI]; omega
    clear HF
    go_enter Tryz.func61, Tryz.ntmps61
    go_wp2
    go_ret
    exact ⟨by simp, KW.out⟩
  obtain rfl : r = true := by rw [HF.out]; simp [wI]; omega
  clear HF
  go_enter Tryz.func61, Tryz.ntmps61
  go_wp2
  go_ret
  exact ⟨by simp, KW.out⟩
end Gr
end Go.Proofs.YtfoahfgehmghcaaGreatDoor
