/-
  DERIVED. GIVEN WITH THE SEED: THE CARDS: each row of YtgnploeobgheaabDoorRows.lean that lists a variable, with what it lists TIED to the program's text (the seventh form; the later family's looks); each row that meets fmt, with fmt's text TOLD by the authors' own Lean function (tested against real Go, not proved from fmt's source: count such statements apart). THE CARD IS WHAT COUNTS. Prove the row's statement (the work); the ties are given (YtgnploeobgheaabDoorTie.lean); close each card by the builder's one call (the guide's Derived/Test/ToyasCard.lean, 'card_holds'). Laid BY PROGRAM, IN A SANDBOX (cutbox-door.mjs). By AI agents, Wed Nov 11 2026. No macro, syntax, notation, axiom, sorry.
-/
import Derived.Test.YtgnploeobgheaabDoorRows
import GoSem.ClaimSeven
namespace Go.Proofs.YtgnploeobgheaabDoor
namespace Rows

/-- THE TIED CARD OF 'escapementlaw03.CalendarAges'. -/
def calendarAgesCard : Claim7 := { stood := { row := calendarAgesRow, standIns := [], harness := (true, "c4dd1d94f2540cadb057e1f6fd03f51b289b76310077dc8f0f36bad669ba0ce5"), looks := false }, kinds := [], alts := [], laidByText := true, laidKinds := [.data], laidTests := true, laidLooks := .later }
def CalendarAgesCardSaid : Prop := Claim7.holds Tryd.pinned (.plain (OpenSpec.ofChange calendarAgesSpec)) calendarAgesCard

/-- THE TIED CARD OF 'escapementlaw03.CalendarYears'. -/
def calendarYearsCard : Claim7 := { stood := { row := calendarYearsRow, standIns := [], harness := (true, "c4dd1d94f2540cadb057e1f6fd03f51b289b76310077dc8f0f36bad669ba0ce5"), looks := false }, kinds := [], alts := [], laidByText := true, laidKinds := [.data], laidTests := true, laidLooks := .later }
def CalendarYearsCardSaid : Prop := Claim7.holds Tryd.pinned (.plain (OpenSpec.ofChange calendarYearsSpec)) calendarYearsCard

/-- THE SECOND FORM's CARD OF 'escapementlaw03.CalendarAges'. -/
def calendarAgesUptoCard : Claim7 := { stood := { row := calendarAgesUptoRow, standIns := [], harness := (true, "c4dd1d94f2540cadb057e1f6fd03f51b289b76310077dc8f0f36bad669ba0ce5"), looks := false }, kinds := [], alts := [], laidByText := true, laidKinds := [.data], laidTests := true, laidLooks := .later }
def CalendarAgesUptoCardSaid : Prop := Claim7.holds Tryd.pinned (.plain (OpenSpec.upto calendarAgesSpec)) calendarAgesUptoCard

/-- THE SECOND FORM's CARD OF 'escapementlaw03.CalendarYears'. -/
def calendarYearsUptoCard : Claim7 := { stood := { row := calendarYearsUptoRow, standIns := [], harness := (true, "c4dd1d94f2540cadb057e1f6fd03f51b289b76310077dc8f0f36bad669ba0ce5"), looks := false }, kinds := [], alts := [], laidByText := true, laidKinds := [.data], laidTests := true, laidLooks := .later }
def CalendarYearsUptoCardSaid : Prop := Claim7.holds Tryd.pinned (.plain (OpenSpec.upto calendarYearsSpec)) calendarYearsUptoCard
end Rows
end Go.Proofs.YtgnploeobgheaabDoor
