/- JournalNames, JournalNothing: the walks. -/
import Derived.Test.YthfnpbkclmkkeaaJKno
namespace Go.Proofs.Ythfnpbkclmkkeaa
open Go.RowKit Go.Lib

set_option maxRecDepth 10000 in
theorem names_walk (W : World) : Calls Try.prog 3 #[] W fun e w' => e = .returned (.bool true) ∧ Below W.heap.size W w' := by
  have HK := hide (known_any W)
  go_enter Try.func3, Try.ntmps3
  go_wp2_with (go_at_call 7; refine HK.out.mono ?_; rintro e w1 ⟨rfl, hk⟩)
  go_ret
  exact ⟨rfl, hk.below (Nat.le_refl _) fun _ f => f.elim⟩

set_option maxRecDepth 10000 in
theorem nothing_walk (W : World) : Calls Try.prog 4 #[] W fun e w' => e = .returned (.bool true) ∧ Below W.heap.size W w' := by
  have HK := hide (known_any W)
  have HO := hide (open_nil W)
  go_enter Try.func4, Try.ntmps4
  go_wp2_with (first
    | (go_at_call 8; refine HO.out.mono ?_; rintro e w1 ⟨rfl, rfl⟩)
    | (go_at_call 7; refine HK.out.mono ?_; rintro e w2 ⟨rfl, hk⟩))
  go_ret
  exact ⟨rfl, hk.below (Nat.le_refl _) fun _ f => f.elim⟩

end Go.Proofs.Ythfnpbkclmkkeaa
