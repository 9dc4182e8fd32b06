/- What the laws' rows share: the variable that is laid, the witness, the card. -/
import Derived.Test.YtgnploeobgheaaaDoorRows
import Derived.Test.YtgnploeobgheaaaDoorCards
import Derived.Test.YtgnploeobgheaaaDoorTie
import Derived.Test.YtgnploeobgheaaaDoorCFits
import Derived.ProofKit
import Derived.LaidMore
import Derived.OpenShut
import Derived.ChangeOld
import Derived.Stop.Joined
import Derived.SevenTiedAt
namespace Go.Proofs.YtgnploeobgheaaaDoor
open Go.ChangeShapes Go.WideShapes Go.ChangeAt Go.RowKit

theorem own : ownKnob Tryd.prog.godebug = none := by kernel_rfl
theorem laidOut : laidOutB Tryd.prog = true := by kernel_rfl
theorem gMonth : Tryd.prog.globalNamed "escapement/calendar.monthDays" = some 0 := by kernel_rfl
theorem tMonth : (Tryd.prog.globals[0]?).map (·.type) = some 49 := by kernel_rfl
abbrev laid1 : List (String × DataW Unit) := [("escapement/calendar.monthDays", Rows.laid_escapement_calendar_monthDays)]

theorem door_met (os : Os) (args : Array Value) : laidMetH Tryd.prog laid1 ((World.doorLaid Tryd.prog 400 os).forCall (fun _ _ => 0) ⟨#[], args, []⟩).memory :=
  laidMetH_of_parts3 (fuel := 8) (laidMet_of_run' 8 (by kernel_rfl) (by kernel_rfl)) (by kernel_rfl) (by kernel_rfl)

theorem tab_of_laid {W : World} (h : laidMetH Tryd.prog laid1 W) : Tab W := by
  rw [MakeChecks.laidMetH_plain _ _ _ (by kernel_rfl)] at h
  have hT : Lib.TabIs Tryd.prog W "escapement/calendar.monthDays" .i64 tab := Lib.tabIs_of_head gMonth tMonth Tryd.underlying49 Tryd.underlying3 (by kernel_rfl) (by kernel_rfl) (rest := []) h
  have hc : ∀ i : Nat, i < 12 → W.cell? ⟨0, i, none⟩ = some (.int .i64 (tab.getD i 0)) := fun i hi => hT.cell gMonth i hi
  refine ⟨hc, ?_⟩
  have := hc 0 (by decide)
  by_cases hz : 0 < W.heap.size
  · exact hz
  · simp [World.cell?, show W.heap.size = 0 by omega] at this
end Go.Proofs.YtgnploeobgheaaaDoor
