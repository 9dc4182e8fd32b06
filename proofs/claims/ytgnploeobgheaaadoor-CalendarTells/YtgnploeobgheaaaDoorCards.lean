/-
  DERIVED. GIVEN WITH THE SEED: THE CARDS: each row of YtgnploeobgheaaaDoorRows.lean that lists a variable, with what it lists TIED to the program's text (the seventh form; the later family's looks); each row that meets fmt, with fmt's text TOLD by the authors' own Lean function (tested against real Go, not proved from fmt's source: count such statements apart). THE CARD IS WHAT COUNTS. Prove the row's statement (the work); the ties are given (YtgnploeobgheaaaDoorTie.lean); close each card by the builder's one call (the guide's Derived/Test/ToyasCard.lean, 'card_holds'). Laid BY PROGRAM, IN A SANDBOX (cutbox-door.mjs). By AI agents, Wed Nov 11 2026. No macro, syntax, notation, axiom, sorry.
-/
import Derived.Test.YtgnploeobgheaaaDoorRows
import GoSem.ClaimSeven
namespace Go.Proofs.YtgnploeobgheaaaDoor
namespace Rows

/-- THE TIED CARD OF 'escapementlaw03.CalendarNames'. -/
def calendarNamesCard : Claim7 := { stood := { row := calendarNamesRow, standIns := [], harness := (true, "cad9ec3becb05483b7260e15eecd4e18993932f9ad14cc2e998860af4b19dbcf"), looks := false }, kinds := [], alts := [], laidByText := true, laidKinds := [.data], laidTests := true, laidLooks := .later }
def CalendarNamesCardSaid : Prop := Claim7.holds Tryd.pinned (.plain (OpenSpec.ofChange calendarNamesSpec)) calendarNamesCard

/-- THE TIED CARD OF 'escapementlaw03.CalendarTells'. -/
def calendarTellsCard : Claim7 := { stood := { row := calendarTellsRow, standIns := [], harness := (true, "cad9ec3becb05483b7260e15eecd4e18993932f9ad14cc2e998860af4b19dbcf"), looks := false }, kinds := [], alts := [], laidByText := true, laidKinds := [.data], laidTests := true, laidLooks := .later }
def CalendarTellsCardSaid : Prop := Claim7.holds Tryd.pinned (.plain (OpenSpec.ofChange calendarTellsSpec)) calendarTellsCard

/-- THE TIED CARD OF 'escapementlaw03.CalendarThere'. -/
def calendarThereCard : Claim7 := { stood := { row := calendarThereRow, standIns := [], harness := (true, "cad9ec3becb05483b7260e15eecd4e18993932f9ad14cc2e998860af4b19dbcf"), looks := false }, kinds := [], alts := [], laidByText := true, laidKinds := [.data], laidTests := true, laidLooks := .later }
def CalendarThereCardSaid : Prop := Claim7.holds Tryd.pinned (.plain (OpenSpec.ofChange calendarThereSpec)) calendarThereCard

/-- THE TIED CARD OF 'escapementlaw03.CalendarBack'. -/
def calendarBackCard : Claim7 := { stood := { row := calendarBackRow, standIns := [], harness := (true, "cad9ec3becb05483b7260e15eecd4e18993932f9ad14cc2e998860af4b19dbcf"), looks := false }, kinds := [], alts := [], laidByText := true, laidKinds := [.data], laidTests := true, laidLooks := .later }
def CalendarBackCardSaid : Prop := Claim7.holds Tryd.pinned (.plain (OpenSpec.ofChange calendarBackSpec)) calendarBackCard

/-- THE TIED CARD OF 'escapementlaw03.CalendarOrder'. -/
def calendarOrderCard : Claim7 := { stood := { row := calendarOrderRow, standIns := [], harness := (true, "cad9ec3becb05483b7260e15eecd4e18993932f9ad14cc2e998860af4b19dbcf"), looks := false }, kinds := [], alts := [], laidByText := true, laidKinds := [.data], laidTests := true, laidLooks := .later }
def CalendarOrderCardSaid : Prop := Claim7.holds Tryd.pinned (.plain (OpenSpec.ofChange calendarOrderSpec)) calendarOrderCard

/-- THE TIED CARD OF 'escapementlaw03.CalendarTomorrow'. -/
def calendarTomorrowCard : Claim7 := { stood := { row := calendarTomorrowRow, standIns := [], harness := (true, "cad9ec3becb05483b7260e15eecd4e18993932f9ad14cc2e998860af4b19dbcf"), looks := false }, kinds := [], alts := [], laidByText := true, laidKinds := [.data], laidTests := true, laidLooks := .later }
def CalendarTomorrowCardSaid : Prop := Claim7.holds Tryd.pinned (.plain (OpenSpec.ofChange calendarTomorrowSpec)) calendarTomorrowCard

/-- THE SECOND FORM's CARD OF 'escapementlaw03.CalendarNames'. -/
def calendarNamesUptoCard : Claim7 := { stood := { row := calendarNamesUptoRow, standIns := [], harness := (true, "cad9ec3becb05483b7260e15eecd4e18993932f9ad14cc2e998860af4b19dbcf"), looks := false }, kinds := [], alts := [], laidByText := true, laidKinds := [.data], laidTests := true, laidLooks := .later }
def CalendarNamesUptoCardSaid : Prop := Claim7.holds Tryd.pinned (.plain (OpenSpec.upto calendarNamesSpec)) calendarNamesUptoCard

/-- THE SECOND FORM's CARD OF 'escapementlaw03.CalendarTells'. -/
def calendarTellsUptoCard : Claim7 := { stood := { row := calendarTellsUptoRow, standIns := [], harness := (true, "cad9ec3becb05483b7260e15eecd4e18993932f9ad14cc2e998860af4b19dbcf"), looks := false }, kinds := [], alts := [], laidByText := true, laidKinds := [.data], laidTests := true, laidLooks := .later }
def CalendarTellsUptoCardSaid : Prop := Claim7.holds Tryd.pinned (.plain (OpenSpec.upto calendarTellsSpec)) calendarTellsUptoCard

/-- THE SECOND FORM's CARD OF 'escapementlaw03.CalendarThere'. -/
def calendarThereUptoCard : Claim7 := { stood := { row := calendarThereUptoRow, standIns := [], harness := (true, "cad9ec3becb05483b7260e15eecd4e18993932f9ad14cc2e998860af4b19dbcf"), looks := false }, kinds := [], alts := [], laidByText := true, laidKinds := [.data], laidTests := true, laidLooks := .later }
def CalendarThereUptoCardSaid : Prop := Claim7.holds Tryd.pinned (.plain (OpenSpec.upto calendarThereSpec)) calendarThereUptoCard

/-- THE SECOND FORM's CARD OF 'escapementlaw03.CalendarBack'. -/
def calendarBackUptoCard : Claim7 := { stood := { row := calendarBackUptoRow, standIns := [], harness := (true, "cad9ec3becb05483b7260e15eecd4e18993932f9ad14cc2e998860af4b19dbcf"), looks := false }, kinds := [], alts := [], laidByText := true, laidKinds := [.data], laidTests := true, laidLooks := .later }
def CalendarBackUptoCardSaid : Prop := Claim7.holds Tryd.pinned (.plain (OpenSpec.upto calendarBackSpec)) calendarBackUptoCard

/-- THE SECOND FORM's CARD OF 'escapementlaw03.CalendarOrder'. -/
def calendarOrderUptoCard : Claim7 := { stood := { row := calendarOrderUptoRow, standIns := [], harness := (true, "cad9ec3becb05483b7260e15eecd4e18993932f9ad14cc2e998860af4b19dbcf"), looks := false }, kinds := [], alts := [], laidByText := true, laidKinds := [.data], laidTests := true, laidLooks := .later }
def CalendarOrderUptoCardSaid : Prop := Claim7.holds Tryd.pinned (.plain (OpenSpec.upto calendarOrderSpec)) calendarOrderUptoCard

/-- THE SECOND FORM's CARD OF 'escapementlaw03.CalendarTomorrow'. -/
def calendarTomorrowUptoCard : Claim7 := { stood := { row := calendarTomorrowUptoRow, standIns := [], harness := (true, "cad9ec3becb05483b7260e15eecd4e18993932f9ad14cc2e998860af4b19dbcf"), looks := false }, kinds := [], alts := [], laidByText := true, laidKinds := [.data], laidTests := true, laidLooks := .later }
def CalendarTomorrowUptoCardSaid : Prop := Claim7.holds Tryd.pinned (.plain (OpenSpec.upto calendarTomorrowSpec)) calendarTomorrowUptoCard
end Rows
end Go.Proofs.YtgnploeobgheaaaDoor
