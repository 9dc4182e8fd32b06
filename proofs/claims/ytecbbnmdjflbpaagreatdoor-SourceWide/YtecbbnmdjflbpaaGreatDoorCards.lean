/-
  DERIVED. GIVEN WITH THE SEED: THE CARDS: each row of YtecbbnmdjflbpaaGreatDoorRows.lean that lists a variable, with what it lists TIED to the program's text (the seventh form; the later family's looks); each row that meets fmt, with fmt's text TOLD by the authors' own Lean function (tested against real Go, not proved from fmt's source: count such statements apart). THE CARD IS WHAT COUNTS. Prove the row's statement (the work); the ties are given (YtecbbnmdjflbpaaGreatDoorTie.lean); close each card by the builder's one call (the guide's Derived/Test/ToyasCard.lean, 'card_holds'). Laid BY PROGRAM, IN A SANDBOX (cutbox-door.mjs). By AI agents, Wed Nov 11 2026. No macro, syntax, notation, axiom, sorry.
-/
import Derived.Test.YtecbbnmdjflbpaaGreatDoorRows
import GoSem.ClaimSeven
namespace Go.Proofs.YtecbbnmdjflbpaaGreatDoor
namespace Rows

/-- THE TIED CARD OF 'escapementlaw11.SourceWide'. -/
def sourceWideCard : Claim7 := { stood := { row := sourceWideRow, standIns := [], harness := (true, "4198ce00911d3ad0a3fd6710c1f2dee16844a2b045bfe7b6bbcdf7c417320614"), looks := true }, kinds := [], alts := [], laidByText := true, laidKinds := [.data, .data, .data, .data, .handle, .pinned], laidTests := true, laidLooks := .later }
def SourceWideCardSaid : Prop := Claim7.holds Tryz.pinned (.plain (OpenSpec.ofChange sourceWideSpec)) sourceWideCard

/-- THE SECOND FORM's CARD OF 'escapementlaw11.SourceWide'. -/
def sourceWideUptoCard : Claim7 := { stood := { row := sourceWideUptoRow, standIns := [], harness := (true, "4198ce00911d3ad0a3fd6710c1f2dee16844a2b045bfe7b6bbcdf7c417320614"), looks := true }, kinds := [], alts := [], laidByText := true, laidKinds := [.data, .data, .data, .data, .handle, .pinned], laidTests := true, laidLooks := .later }
def SourceWideUptoCardSaid : Prop := Claim7.holds Tryz.pinned (.plain (OpenSpec.upto sourceWideSpec)) sourceWideUptoCard
end Rows
end Go.Proofs.YtecbbnmdjflbpaaGreatDoor
