/- The document's answer: End of the reader. -/
import Derived.Test.YteaokgolnhdloaaPRefN
namespace Go.Proofs.Yteaokgolnhdloaa
open Go.RowKit

theorem REnd_any (q : Nat) (s : K.RS) (w : World) (h : Qr w q s) :
    Calls Try.prog 30 #[.pointer (some ⟨q, 0, none⟩)] w fun en w' => en = .returned (.int .i64 (endR s : Nat)) ∧ Below w.heap.size w w' := by
  obtain ⟨a, c, c0, c1, c2, _⟩ := h.see
  have htk := h.tak
  have htp := h.top
  clear h
  unfold endR
  by_cases hz : s.fault = 0
  · have c2' : w.cell? ⟨q, 2, none⟩ = some (.int .i64 0) := by rw [c2, hz]; rfl
    rw [hz]
    clear hz c2
    by_cases hlt : s.taken < s.data.length
    · rw [if_pos ⟨rfl, hlt⟩]
      go_enter Try.func30, Try.ntmps30
      go_wp2
      go_region
      all_goals go_wp2
      all_goals go_ret
      all_goals exact ⟨rfl, (Below.refl _ _).drew⟩
    · rw [if_neg (by omega)]
      go_enter Try.func30, Try.ntmps30
      go_wp2
      go_region
      all_goals go_wp2
      all_goals go_ret
      all_goals exact ⟨rfl, (Below.refl _ _).drew⟩
  · rw [if_neg (by omega)]
    have hzz : (((s.fault : Nat) : Int) == 0) = false := by simpa using hz
    clear hz
    go_enter Try.func30, Try.ntmps30
    go_wp2
    go_region
    all_goals go_wp2
    all_goals go_ret
    all_goals exact ⟨rfl, (Below.refl _ _).drew⟩
end Go.Proofs.Yteaokgolnhdloaa
