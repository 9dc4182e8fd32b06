/-
  DERIVED. GIVEN WITH THE SEED: THE CARDS: each row of YtjoigomjdgkfhabDoorRows.lean that lists a variable, with what it lists TIED to the program's text (the seventh form; the later family's looks); each row that meets fmt, with fmt's text TOLD by the authors' own Lean function (tested against real Go, not proved from fmt's source: count such statements apart). THE CARD IS WHAT COUNTS. Prove the row's statement (the work); the ties are given (YtjoigomjdgkfhabDoorTie.lean); close each card by the builder's one call (the guide's Derived/Test/ToyasCard.lean, 'card_holds'). Laid BY PROGRAM, IN A SANDBOX (cutbox-door.mjs). By AI agents, Wed Nov 11 2026. No macro, syntax, notation, axiom, sorry.
-/
import Derived.Test.YtjoigomjdgkfhabDoorRows
import GoSem.ClaimSeven
namespace Go.Proofs.YtjoigomjdgkfhabDoor
namespace Rows

/-- THE TIED CARD OF 'escapementlaw04.CronTexts'. -/
def cronTextsCard : Claim7 := { stood := { row := cronTextsRow, standIns := [], harness := (true, "7941ad805957bc1132ff9647eab2b299aec4947cc9fdc66ef4f10a2cdd496beb"), looks := false }, kinds := [], alts := [], laidByText := true, laidKinds := [.data, .data, .data, .data, .data, .wider, .pinned], laidTests := true, laidLooks := .later }
def CronTextsCardSaid : Prop := Claim7.holds Tryd.pinned (.plain (OpenSpec.ofChange cronTextsSpec)) cronTextsCard

/-- THE TIED CARD OF 'escapementlaw04.CronFields'. -/
def cronFieldsCard : Claim7 := { stood := { row := cronFieldsRow, standIns := [], harness := (true, "7941ad805957bc1132ff9647eab2b299aec4947cc9fdc66ef4f10a2cdd496beb"), looks := false }, kinds := [], alts := [], laidByText := true, laidKinds := [.data, .data, .wider, .pinned], laidTests := true, laidLooks := .later }
def CronFieldsCardSaid : Prop := Claim7.holds Tryd.pinned (.plain (OpenSpec.ofChange cronFieldsSpec)) cronFieldsCard

/-- THE TIED CARD OF 'escapementlaw04.CronEach'. -/
def cronEachCard : Claim7 := { stood := { row := cronEachRow, standIns := [], harness := (true, "7941ad805957bc1132ff9647eab2b299aec4947cc9fdc66ef4f10a2cdd496beb"), looks := false }, kinds := [], alts := [], laidByText := true, laidKinds := [.data, .data, .wider, .pinned], laidTests := true, laidLooks := .later }
def CronEachCardSaid : Prop := Claim7.holds Tryd.pinned (.plain (OpenSpec.ofChange cronEachSpec)) cronEachCard

/-- THE SECOND FORM's CARD OF 'escapementlaw04.CronTexts'. -/
def cronTextsUptoCard : Claim7 := { stood := { row := cronTextsUptoRow, standIns := [], harness := (true, "7941ad805957bc1132ff9647eab2b299aec4947cc9fdc66ef4f10a2cdd496beb"), looks := false }, kinds := [], alts := [], laidByText := true, laidKinds := [.data, .data, .data, .data, .data, .wider, .pinned], laidTests := true, laidLooks := .later }
def CronTextsUptoCardSaid : Prop := Claim7.holds Tryd.pinned (.plain (OpenSpec.upto cronTextsSpec)) cronTextsUptoCard

/-- THE SECOND FORM's CARD OF 'escapementlaw04.CronFields'. -/
def cronFieldsUptoCard : Claim7 := { stood := { row := cronFieldsUptoRow, standIns := [], harness := (true, "7941ad805957bc1132ff9647eab2b299aec4947cc9fdc66ef4f10a2cdd496beb"), looks := false }, kinds := [], alts := [], laidByText := true, laidKinds := [.data, .data, .wider, .pinned], laidTests := true, laidLooks := .later }
def CronFieldsUptoCardSaid : Prop := Claim7.holds Tryd.pinned (.plain (OpenSpec.upto cronFieldsSpec)) cronFieldsUptoCard

/-- THE SECOND FORM's CARD OF 'escapementlaw04.CronEach'. -/
def cronEachUptoCard : Claim7 := { stood := { row := cronEachUptoRow, standIns := [], harness := (true, "7941ad805957bc1132ff9647eab2b299aec4947cc9fdc66ef4f10a2cdd496beb"), looks := false }, kinds := [], alts := [], laidByText := true, laidKinds := [.data, .data, .wider, .pinned], laidTests := true, laidLooks := .later }
def CronEachUptoCardSaid : Prop := Claim7.holds Tryd.pinned (.plain (OpenSpec.upto cronEachSpec)) cronEachUptoCard
end Rows
end Go.Proofs.YtjoigomjdgkfhabDoor
