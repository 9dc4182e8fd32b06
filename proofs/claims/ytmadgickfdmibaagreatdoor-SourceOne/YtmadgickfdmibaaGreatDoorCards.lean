/-
  DERIVED. GIVEN WITH THE SEED: THE CARDS: each row of YtmadgickfdmibaaGreatDoorRows.lean that lists a variable, with what it lists TIED to the program's text (the seventh form; the later family's looks); each row that meets fmt, with fmt's text TOLD by the authors' own Lean function (tested against real Go, not proved from fmt's source: count such statements apart). THE CARD IS WHAT COUNTS. Prove the row's statement (the work); the ties are given (YtmadgickfdmibaaGreatDoorTie.lean); close each card by the builder's one call (the guide's Derived/Test/ToyasCard.lean, 'card_holds'). Laid BY PROGRAM, IN A SANDBOX (cutbox-door.mjs). By AI agents, Wed Nov 11 2026. No macro, syntax, notation, axiom, sorry.
-/
import Derived.Test.YtmadgickfdmibaaGreatDoorRows
import GoSem.ClaimSeven
namespace Go.Proofs.YtmadgickfdmibaaGreatDoor
namespace Rows

/-- THE TIED CARD OF 'escapementlaw11.SourceParses'. -/
def sourceParsesCard : Claim7 := { stood := { row := sourceParsesRow, standIns := [], harness := (true, "da08b3dc10baf6e6fca5c7b4e26e9250f222c974eb05226cf38d9e9e53f30ca0"), looks := true }, kinds := [], alts := [], laidByText := true, laidKinds := [.data, .data, .data, .data, .handle, .pinned], laidTests := true, laidLooks := .later }
def SourceParsesCardSaid : Prop := Claim7.holds Tryz.pinned (.plain (OpenSpec.ofChange sourceParsesSpec)) sourceParsesCard

/-- THE TIED CARD OF 'escapementlaw11.SourceTexts'. -/
def sourceTextsCard : Claim7 := { stood := { row := sourceTextsRow, standIns := [], harness := (true, "da08b3dc10baf6e6fca5c7b4e26e9250f222c974eb05226cf38d9e9e53f30ca0"), looks := true }, kinds := [], alts := [], laidByText := true, laidKinds := [.data, .data, .data, .data, .handle, .pinned], laidTests := true, laidLooks := .later }
def SourceTextsCardSaid : Prop := Claim7.holds Tryz.pinned (.plain (OpenSpec.ofChange sourceTextsSpec)) sourceTextsCard

/-- THE TIED CARD OF 'escapementlaw11.SourceOwns'. -/
def sourceOwnsCard : Claim7 := { stood := { row := sourceOwnsRow, standIns := [], harness := (true, "da08b3dc10baf6e6fca5c7b4e26e9250f222c974eb05226cf38d9e9e53f30ca0"), looks := true }, kinds := [], alts := [], laidByText := true, laidKinds := [.data, .data, .data, .data, .handle, .pinned], laidTests := true, laidLooks := .later }
def SourceOwnsCardSaid : Prop := Claim7.holds Tryz.pinned (.plain (OpenSpec.ofChange sourceOwnsSpec)) sourceOwnsCard

/-- THE TIED CARD OF 'escapementlaw11.SourceBack'. -/
def sourceBackCard : Claim7 := { stood := { row := sourceBackRow, standIns := [], harness := (true, "da08b3dc10baf6e6fca5c7b4e26e9250f222c974eb05226cf38d9e9e53f30ca0"), looks := true }, kinds := [], alts := [], laidByText := true, laidKinds := [.data, .data, .data, .data, .handle, .pinned], laidTests := true, laidLooks := .later }
def SourceBackCardSaid : Prop := Claim7.holds Tryz.pinned (.plain (OpenSpec.ofChange sourceBackSpec)) sourceBackCard

/-- THE TIED CARD OF 'escapementlaw11.SourceOne'. -/
def sourceOneCard : Claim7 := { stood := { row := sourceOneRow, standIns := [], harness := (true, "da08b3dc10baf6e6fca5c7b4e26e9250f222c974eb05226cf38d9e9e53f30ca0"), looks := true }, kinds := [], alts := [], laidByText := true, laidKinds := [.data, .data, .data, .data, .handle, .pinned], laidTests := true, laidLooks := .later }
def SourceOneCardSaid : Prop := Claim7.holds Tryz.pinned (.plain (OpenSpec.ofChange sourceOneSpec)) sourceOneCard

/-- THE TIED CARD OF 'escapementlaw11.SourceFirst'. -/
def sourceFirstCard : Claim7 := { stood := { row := sourceFirstRow, standIns := [], harness := (true, "da08b3dc10baf6e6fca5c7b4e26e9250f222c974eb05226cf38d9e9e53f30ca0"), looks := true }, kinds := [], alts := [], laidByText := true, laidKinds := [.data, .data, .data, .data, .handle, .pinned], laidTests := true, laidLooks := .later }
def SourceFirstCardSaid : Prop := Claim7.holds Tryz.pinned (.plain (OpenSpec.ofChange sourceFirstSpec)) sourceFirstCard

/-- THE SECOND FORM's CARD OF 'escapementlaw11.SourceParses'. -/
def sourceParsesUptoCard : Claim7 := { stood := { row := sourceParsesUptoRow, standIns := [], harness := (true, "da08b3dc10baf6e6fca5c7b4e26e9250f222c974eb05226cf38d9e9e53f30ca0"), looks := true }, kinds := [], alts := [], laidByText := true, laidKinds := [.data, .data, .data, .data, .handle, .pinned], laidTests := true, laidLooks := .later }
def SourceParsesUptoCardSaid : Prop := Claim7.holds Tryz.pinned (.plain (OpenSpec.upto sourceParsesSpec)) sourceParsesUptoCard

/-- THE SECOND FORM's CARD OF 'escapementlaw11.SourceTexts'. -/
def sourceTextsUptoCard : Claim7 := { stood := { row := sourceTextsUptoRow, standIns := [], harness := (true, "da08b3dc10baf6e6fca5c7b4e26e9250f222c974eb05226cf38d9e9e53f30ca0"), looks := true }, kinds := [], alts := [], laidByText := true, laidKinds := [.data, .data, .data, .data, .handle, .pinned], laidTests := true, laidLooks := .later }
def SourceTextsUptoCardSaid : Prop := Claim7.holds Tryz.pinned (.plain (OpenSpec.upto sourceTextsSpec)) sourceTextsUptoCard

/-- THE SECOND FORM's CARD OF 'escapementlaw11.SourceOwns'. -/
def sourceOwnsUptoCard : Claim7 := { stood := { row := sourceOwnsUptoRow, standIns := [], harness := (true, "da08b3dc10baf6e6fca5c7b4e26e9250f222c974eb05226cf38d9e9e53f30ca0"), looks := true }, kinds := [], alts := [], laidByText := true, laidKinds := [.data, .data, .data, .data, .handle, .pinned], laidTests := true, laidLooks := .later }
def SourceOwnsUptoCardSaid : Prop := Claim7.holds Tryz.pinned (.plain (OpenSpec.upto sourceOwnsSpec)) sourceOwnsUptoCard

/-- THE SECOND FORM's CARD OF 'escapementlaw11.SourceBack'. -/
def sourceBackUptoCard : Claim7 := { stood := { row := sourceBackUptoRow, standIns := [], harness := (true, "da08b3dc10baf6e6fca5c7b4e26e9250f222c974eb05226cf38d9e9e53f30ca0"), looks := true }, kinds := [], alts := [], laidByText := true, laidKinds := [.data, .data, .data, .data, .handle, .pinned], laidTests := true, laidLooks := .later }
def SourceBackUptoCardSaid : Prop := Claim7.holds Tryz.pinned (.plain (OpenSpec.upto sourceBackSpec)) sourceBackUptoCard

/-- THE SECOND FORM's CARD OF 'escapementlaw11.SourceOne'. -/
def sourceOneUptoCard : Claim7 := { stood := { row := sourceOneUptoRow, standIns := [], harness := (true, "da08b3dc10baf6e6fca5c7b4e26e9250f222c974eb05226cf38d9e9e53f30ca0"), looks := true }, kinds := [], alts := [], laidByText := true, laidKinds := [.data, .data, .data, .data, .handle, .pinned], laidTests := true, laidLooks := .later }
def SourceOneUptoCardSaid : Prop := Claim7.holds Tryz.pinned (.plain (OpenSpec.upto sourceOneSpec)) sourceOneUptoCard

/-- THE SECOND FORM's CARD OF 'escapementlaw11.SourceFirst'. -/
def sourceFirstUptoCard : Claim7 := { stood := { row := sourceFirstUptoRow, standIns := [], harness := (true, "da08b3dc10baf6e6fca5c7b4e26e9250f222c974eb05226cf38d9e9e53f30ca0"), looks := true }, kinds := [], alts := [], laidByText := true, laidKinds := [.data, .data, .data, .data, .handle, .pinned], laidTests := true, laidLooks := .later }
def SourceFirstUptoCardSaid : Prop := Claim7.holds Tryz.pinned (.plain (OpenSpec.upto sourceFirstSpec)) sourceFirstUptoCard
end Rows
end Go.Proofs.YtmadgickfdmibaaGreatDoor
