/-
  DERIVED. GIVEN WITH THE SEED: THE CARDS: each row of YtbgioclbjbmicaaDoorRows.lean that lists a variable, with what it lists TIED to the program's text (the seventh form; the later family's looks); each row that meets fmt, with fmt's text TOLD by the authors' own Lean function (tested against real Go, not proved from fmt's source: count such statements apart). THE CARD IS WHAT COUNTS. Prove the row's statement (the work); the ties are given (YtbgioclbjbmicaaDoorTie.lean); close each card by the builder's one call (the guide's Derived/Test/ToyasCard.lean, 'card_holds'). Laid BY PROGRAM, IN A SANDBOX (cutbox-door.mjs). By AI agents, Wed Nov 11 2026. No macro, syntax, notation, axiom, sorry.
-/
import Derived.Test.YtbgioclbjbmicaaDoorRows
import GoSem.ClaimSeven
namespace Go.Proofs.YtbgioclbjbmicaaDoor
namespace Rows

/-- THE TIED CARD OF 'escapementlaw04.CronParses'. -/
def cronParsesCard : Claim7 := { stood := { row := cronParsesRow, standIns := [], harness := (true, "3b27366ecddd95bc0d238901252f455448ff15ec8ee0ee52b0a4413b9d1f2d71"), looks := false }, kinds := [], alts := [], laidByText := true, laidKinds := [.data, .data, .data, .data, .data, .wider, .pinned], laidTests := true, laidLooks := .later }
def CronParsesCardSaid : Prop := Claim7.holds Tryd.pinned (.plain (OpenSpec.ofChange cronParsesSpec)) cronParsesCard

/-- THE TIED CARD OF 'escapementlaw04.CronMatches'. -/
def cronMatchesCard : Claim7 := { stood := { row := cronMatchesRow, standIns := [], harness := (true, "3b27366ecddd95bc0d238901252f455448ff15ec8ee0ee52b0a4413b9d1f2d71"), looks := false }, kinds := [], alts := [], laidByText := true, laidKinds := [.data, .data, .wider, .pinned], laidTests := true, laidLooks := .later }
def CronMatchesCardSaid : Prop := Claim7.holds Tryd.pinned (.plain (OpenSpec.ofChange cronMatchesSpec)) cronMatchesCard

/-- THE TIED CARD OF 'escapementlaw04.CronNexts'. -/
def cronNextsCard : Claim7 := { stood := { row := cronNextsRow, standIns := [], harness := (true, "3b27366ecddd95bc0d238901252f455448ff15ec8ee0ee52b0a4413b9d1f2d71"), looks := false }, kinds := [], alts := [], laidByText := true, laidKinds := [.data, .data, .wider, .pinned], laidTests := true, laidLooks := .later }
def CronNextsCardSaid : Prop := Claim7.holds Tryd.pinned (.plain (OpenSpec.ofChange cronNextsSpec)) cronNextsCard

/-- THE TIED CARD OF 'escapementlaw04.CronSame'. -/
def cronSameCard : Claim7 := { stood := { row := cronSameRow, standIns := [], harness := (true, "3b27366ecddd95bc0d238901252f455448ff15ec8ee0ee52b0a4413b9d1f2d71"), looks := false }, kinds := [], alts := [], laidByText := true, laidKinds := [.data, .data, .data, .data, .data, .wider, .pinned], laidTests := true, laidLooks := .later }
def CronSameCardSaid : Prop := Claim7.holds Tryd.pinned (.plain (OpenSpec.ofChange cronSameSpec)) cronSameCard

/-- THE SECOND FORM's CARD OF 'escapementlaw04.CronParses'. -/
def cronParsesUptoCard : Claim7 := { stood := { row := cronParsesUptoRow, standIns := [], harness := (true, "3b27366ecddd95bc0d238901252f455448ff15ec8ee0ee52b0a4413b9d1f2d71"), looks := false }, kinds := [], alts := [], laidByText := true, laidKinds := [.data, .data, .data, .data, .data, .wider, .pinned], laidTests := true, laidLooks := .later }
def CronParsesUptoCardSaid : Prop := Claim7.holds Tryd.pinned (.plain (OpenSpec.upto cronParsesSpec)) cronParsesUptoCard

/-- THE SECOND FORM's CARD OF 'escapementlaw04.CronMatches'. -/
def cronMatchesUptoCard : Claim7 := { stood := { row := cronMatchesUptoRow, standIns := [], harness := (true, "3b27366ecddd95bc0d238901252f455448ff15ec8ee0ee52b0a4413b9d1f2d71"), looks := false }, kinds := [], alts := [], laidByText := true, laidKinds := [.data, .data, .wider, .pinned], laidTests := true, laidLooks := .later }
def CronMatchesUptoCardSaid : Prop := Claim7.holds Tryd.pinned (.plain (OpenSpec.upto cronMatchesSpec)) cronMatchesUptoCard

/-- THE SECOND FORM's CARD OF 'escapementlaw04.CronNexts'. -/
def cronNextsUptoCard : Claim7 := { stood := { row := cronNextsUptoRow, standIns := [], harness := (true, "3b27366ecddd95bc0d238901252f455448ff15ec8ee0ee52b0a4413b9d1f2d71"), looks := false }, kinds := [], alts := [], laidByText := true, laidKinds := [.data, .data, .wider, .pinned], laidTests := true, laidLooks := .later }
def CronNextsUptoCardSaid : Prop := Claim7.holds Tryd.pinned (.plain (OpenSpec.upto cronNextsSpec)) cronNextsUptoCard

/-- THE SECOND FORM's CARD OF 'escapementlaw04.CronSame'. -/
def cronSameUptoCard : Claim7 := { stood := { row := cronSameUptoRow, standIns := [], harness := (true, "3b27366ecddd95bc0d238901252f455448ff15ec8ee0ee52b0a4413b9d1f2d71"), looks := false }, kinds := [], alts := [], laidByText := true, laidKinds := [.data, .data, .data, .data, .data, .wider, .pinned], laidTests := true, laidLooks := .later }
def CronSameUptoCardSaid : Prop := Claim7.holds Tryd.pinned (.plain (OpenSpec.upto cronSameSpec)) cronSameUptoCard
end Rows
end Go.Proofs.YtbgioclbjbmicaaDoor
