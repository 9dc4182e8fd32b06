/- room: a copy with three marks behind it (out of PWoR). -/
import Derived.Test.YteaokgolnhdloaaPOwM
import Derived.Test.YteaokgolnhdloaaPBytes
import Derived.Test.YteaokgolnhdloaaPTextR
namespace Go.Proofs.Yteaokgolnhdloaa
namespace Ow
open Go.RowKit

theorem rd_three (w : World) : Rd (w.alloc (.cells #[.int .u8 201, .int .u8 202, .int .u8 203] 5)) (some ⟨w.heap.size, 0, none⟩) 3 [201, 202, 203] := by
  refine ⟨rfl, by decide, by decide, .inr ⟨_, _, rfl, fun i hi => ?_⟩⟩
  rw [cell_of_row _ _ _ _ _ _ (heap_alloc_new w _)]
  have : i = 0 ∨ i = 1 ∨ i = 2 := by omega
  rcases this with rfl | rfl | rfl <;> rfl
set_option maxRecDepth 10000 in
theorem room_any (a : Option Addr) (n c : Nat) (l : List Nat) (w : World) (h : Rd w a n l) (h0 : a = none → c = 0) (hn : n ≤ 140737488351232) :
    Calls Try.prog 6 #[.slice a n c] w fun en w' => ∃ g cap, en = .returned (.slice (some ⟨g, 0, none⟩) (n + 3) cap) ∧ w'.ownsRow w.heap.size 5 1 (.slice (some ⟨g, 0, none⟩) (n + 3) cap) (n + 3) (B8 (l ++ [201, 202, 203])) ∧ Below w.heap.size w w' := by
  have hb0 := (Below.refl w.heap.size w).alloc (Nat.le_refl _) (.cells #[] 5)
  have HR := hide (h.keep hb0)
  have HO := hide (ownsRow_empty w)
  have HL : Hid (n = l.length) := h.1
  have HD : Hid (∀ d ∈ l, d < 256) := h.2.2.1
  have H0 := hide h0
  have HL3 : Hid ((l ++ [201, 202, 203]).length = n + 3) := by
    show _ = _
    have := HL.out
    simp
    omega
  clear h h0 hb0
  go_enter Try.func6, Try.ntmps6
  go_wp2_with (first
    | (at_builtin; refine wpList_append_rd rfl _ _ rfl (.slice (some ⟨w.heap.size, 0, none⟩) 0 0) [] w.heap.size rfl HO.out a n c l rfl HR.out H0.out (by show 0 + n ≤ _; omega) (by simp) ?_; intro v' w2 ho2 hg hnb; rw [List.nil_append] at ho2; have HB2 := hide (below_grown (Below.refl _ _) _ hg fun k hk => (HO.out.lt k hk).1); obtain ⟨a', c', hv'⟩ := ownsRow_shape ho2; rw [← HL.out] at hv'; subst hv'; have HO2 := hide ho2; clear ho2 hg hnb)
    | (at_builtin; refine wpList_append_rd rfl _ _ rfl (.slice a' n c') l w.heap.size rfl (HO2.out.alloc _) (some ⟨w2.heap.size, 0, none⟩) 3 3 [201, 202, 203] rfl (rd_three w2) (fun e => by cases e) (by have := HL.out; omega) (Nat.le_trans HB2.out.size (by simp)) ?_; intro v' w3 ho3 hg hnb; have HB3 := hide (below_grown HB2.out _ hg fun k hk => (HO2.out.lt k hk).1); obtain ⟨g, cap, hv'⟩ := own_form ho3 (by rw [HL3.out]; omega); rw [HL3.out] at hv' ho3; subst hv'; have HO3 := hide ho3; clear ho3 hg hnb))
  go_ret
  exact ⟨g, cap, rfl, HO3.out, HB3.out⟩
end Ow
end Go.Proofs.Yteaokgolnhdloaa
