/-
  DERIVED. GIVEN WITH THE SEED: THE CARDS: each row of YtfoahfgehmghcaaGreatDoorRows.lean that lists a variable, with what it lists TIED to the program's text (the seventh form; the later family's looks); each row that meets fmt, with fmt's text TOLD by the authors' own Lean function (tested against real Go, not proved from fmt's source: count such statements apart). THE CARD IS WHAT COUNTS. Prove the row's statement (the work); the ties are given (YtfoahfgehmghcaaGreatDoorTie.lean); close each card by the builder's one call (the guide's Derived/Test/ToyasCard.lean, 'card_holds'). Laid BY PROGRAM, IN A SANDBOX (cutbox-door.mjs). By AI agents, Wed Nov 11 2026. No macro, syntax, notation, axiom, sorry.
-/
import Derived.Test.YtfoahfgehmghcaaGreatDoorRows
import GoSem.ClaimSeven
namespace Go.Proofs.YtfoahfgehmghcaaGreatDoor
namespace Rows

/-- THE TIED CARD OF 'escapementlaw11.SourceOwns'. -/
def sourceOwnsCard : Claim7 := { stood := { row := sourceOwnsRow, standIns := [], harness := (true, "e0fbf30e5deb087a818cc0a1d38992fd773f956dd78f30ba37ced5b2d4286e6d"), looks := true }, kinds := [], alts := [], laidByText := true, laidKinds := [.data, .data, .data, .data, .handle, .pinned], laidTests := true, laidLooks := .later }
def SourceOwnsCardSaid : Prop := Claim7.holds Tryz.pinned (.plain (OpenSpec.ofChange sourceOwnsSpec)) sourceOwnsCard

/-- THE SECOND FORM's CARD OF 'escapementlaw11.SourceOwns'. -/
def sourceOwnsUptoCard : Claim7 := { stood := { row := sourceOwnsUptoRow, standIns := [], harness := (true, "e0fbf30e5deb087a818cc0a1d38992fd773f956dd78f30ba37ced5b2d4286e6d"), looks := true }, kinds := [], alts := [], laidByText := true, laidKinds := [.data, .data, .data, .data, .handle, .pinned], laidTests := true, laidLooks := .later }
def SourceOwnsUptoCardSaid : Prop := Claim7.holds Tryz.pinned (.plain (OpenSpec.upto sourceOwnsSpec)) sourceOwnsUptoCard
end Rows
end Go.Proofs.YtfoahfgehmghcaaGreatDoor
