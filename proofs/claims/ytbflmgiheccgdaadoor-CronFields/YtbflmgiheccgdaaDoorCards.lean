/-
  DERIVED. GIVEN WITH THE SEED: THE CARDS: each row of YtbflmgiheccgdaaDoorRows.lean that lists a variable, with what it lists TIED to the program's text (the seventh form; the later family's looks); each row that meets fmt, with fmt's text TOLD by the authors' own Lean function (tested against real Go, not proved from fmt's source: count such statements apart). THE CARD IS WHAT COUNTS. Prove the row's statement (the work); the ties are given (YtbflmgiheccgdaaDoorTie.lean); close each card by the builder's one call (the guide's Derived/Test/ToyasCard.lean, 'card_holds'). Laid BY PROGRAM, IN A SANDBOX (cutbox-door.mjs). By AI agents, Wed Nov 11 2026. No macro, syntax, notation, axiom, sorry.
-/
import Derived.Test.YtbflmgiheccgdaaDoorRows
import GoSem.ClaimSeven
namespace Go.Proofs.YtbflmgiheccgdaaDoor
namespace Rows

/-- THE TIED CARD OF 'escapementlaw04.CronFields'. -/
def cronFieldsCard : Claim7 := { stood := { row := cronFieldsRow, standIns := [], harness := (true, "bbde1b18a0afbd662fb186a473c1ed3373768b68a1ca393ceed3c62f4f810923"), looks := false }, kinds := [], alts := [], laidByText := true, laidKinds := [.data, .data, .wider, .pinned], laidTests := true, laidLooks := .later }
def CronFieldsCardSaid : Prop := Claim7.holds Tryd.pinned (.plain (OpenSpec.ofChange cronFieldsSpec)) cronFieldsCard

/-- THE SECOND FORM's CARD OF 'escapementlaw04.CronFields'. -/
def cronFieldsUptoCard : Claim7 := { stood := { row := cronFieldsUptoRow, standIns := [], harness := (true, "bbde1b18a0afbd662fb186a473c1ed3373768b68a1ca393ceed3c62f4f810923"), looks := false }, kinds := [], alts := [], laidByText := true, laidKinds := [.data, .data, .wider, .pinned], laidTests := true, laidLooks := .later }
def CronFieldsUptoCardSaid : Prop := Claim7.holds Tryd.pinned (.plain (OpenSpec.upto cronFieldsSpec)) cronFieldsUptoCard
end Rows
end Go.Proofs.YtbflmgiheccgdaaDoor
