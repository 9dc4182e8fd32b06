/-
  No cell of these rows narrows 'for every input' (looked for: loops, veiled, ifaces, maps, wideKeys, modest, calm, conditions, laid).
  DERIVED. THE GIVEN ROWS OF THIS SEAT. 6 by the template 'for every input the law returns true; each argument reads behind the call as it read before'; 0 by the template 'total and deterministic' (their statements: YtfnndnceaddhgaaTotals.lean).
  GIVEN WITH THE SEED: the statements are not yours to turn. If you find one false, say at which input.
  Laid BY PROGRAM, IN A SANDBOX (cutbox-rows.mjs): the forced cells as the released guide's own fill.sh prints them over the translation 05d5d1e9ece9e619… (all of the seat's roots in one cut). By AI agents, Wed Nov 11 2026. No macro, syntax, notation, axiom, sorry.
-/
import Derived.Test.YtfnndnceaddhgaaChecked
import GoSem.Claim
import GoSem.ClaimJoined
import GoSem.ClaimMapViews
import Derived.JoinedTies
import Derived.KernelRfl
namespace Go.Proofs.Ytfnndnceaddhgaa
/- THE CELL 'sum', in the pinned program and in every row, IS THE sha256 OF THE DUMP (.gsa) THAT YtfnndnceaddhgaaProg.lean LOADS. Nothing in Lean hashes anything: it is a label: what it is worth is what the hold of that sum in a sandbox is worth. -/
noncomputable def Try.pinned : Pinned := { name := "ytfnndnceaddhgaa", sum := "05d5d1e9ece9e61928d29fcbba0fee80e355ff39600b62dd6a8668d22367da32", checked := Try.checked }
namespace Rows
def none {H : Type} : Left H := { results := [], args := [] }

/-- 'escapementlaw09.PaceNames': WHATEVER THE INPUT: true; the input reads as it did. -/
def paceNamesSpec : ChangeSpec := { name := "paceNames", fn := fun _ => fun
  | [] => { results := [.lit (.bool true)], args := [] }
  | _ => none }
def paceNamesRow : OpenClaim := { program := "ytfnndnceaddhgaa", sum := "05d5d1e9ece9e61928d29fcbba0fee80e355ff39600b62dd6a8668d22367da32", func := "escapement/escapementlaw09.PaceNames", spec := "paceNames", apart := false }
def PaceNamesSaid : Prop := paceNamesRow.holds Try.pinned (OpenSpec.ofChange paceNamesSpec)

/-- ITS FALSE NEIGHBOUR: 'it returns false'. Refute it at one input. -/
def paceNamesWrong : ChangeSpec := { name := "paceNames", fn := fun _ => fun
  | [] => { results := [.lit (.bool false)], args := [] }
  | _ => none }
def PaceNamesWrongFalsely : Prop := paceNamesRow.holds Try.pinned (OpenSpec.ofChange paceNamesWrong)

/-- 'escapementlaw09.PaceMixes': WHATEVER THE INPUT: true; the input reads as it did. -/
def paceMixesSpec : ChangeSpec := { name := "paceMixes", fn := fun _ => fun
  | [d1, d2, d3] => { results := [.lit (.bool true)], args := [d1, d2, d3] }
  | _ => none }
def paceMixesRow : OpenClaim := { program := "ytfnndnceaddhgaa", sum := "05d5d1e9ece9e61928d29fcbba0fee80e355ff39600b62dd6a8668d22367da32", func := "escapement/escapementlaw09.PaceMixes", spec := "paceMixes", apart := false }
def PaceMixesSaid : Prop := paceMixesRow.holds Try.pinned (OpenSpec.ofChange paceMixesSpec)

/-- ITS FALSE NEIGHBOUR: 'it returns false'. Refute it at one input. -/
def paceMixesWrong : ChangeSpec := { name := "paceMixes", fn := fun _ => fun
  | [d1, d2, d3] => { results := [.lit (.bool false)], args := [d1, d2, d3] }
  | _ => none }
def PaceMixesWrongFalsely : Prop := paceMixesRow.holds Try.pinned (OpenSpec.ofChange paceMixesWrong)

/-- 'escapementlaw09.PaceTells': WHATEVER THE INPUT: true; the input reads as it did. -/
def paceTellsSpec : ChangeSpec := { name := "paceTells", fn := fun _ => fun
  | [d] => { results := [.lit (.bool true)], args := [d] }
  | _ => none }
def paceTellsRow : OpenClaim := { program := "ytfnndnceaddhgaa", sum := "05d5d1e9ece9e61928d29fcbba0fee80e355ff39600b62dd6a8668d22367da32", func := "escapement/escapementlaw09.PaceTells", spec := "paceTells", apart := false }
def PaceTellsSaid : Prop := paceTellsRow.holds Try.pinned (OpenSpec.ofChange paceTellsSpec)

/-- ITS FALSE NEIGHBOUR: 'it returns false'. Refute it at one input. -/
def paceTellsWrong : ChangeSpec := { name := "paceTells", fn := fun _ => fun
  | [d] => { results := [.lit (.bool false)], args := [d] }
  | _ => none }
def PaceTellsWrongFalsely : Prop := paceTellsRow.holds Try.pinned (OpenSpec.ofChange paceTellsWrong)

/-- 'escapementlaw09.PaceOneToOne': WHATEVER THE INPUT: true; the input reads as it did. -/
def paceOneToOneSpec : ChangeSpec := { name := "paceOneToOne", fn := fun _ => fun
  | [d] => { results := [.lit (.bool true)], args := [d] }
  | _ => none }
def paceOneToOneRow : OpenClaim := { program := "ytfnndnceaddhgaa", sum := "05d5d1e9ece9e61928d29fcbba0fee80e355ff39600b62dd6a8668d22367da32", func := "escapement/escapementlaw09.PaceOneToOne", spec := "paceOneToOne", apart := false }
def PaceOneToOneSaid : Prop := paceOneToOneRow.holds Try.pinned (OpenSpec.ofChange paceOneToOneSpec)

/-- ITS FALSE NEIGHBOUR: 'it returns false'. Refute it at one input. -/
def paceOneToOneWrong : ChangeSpec := { name := "paceOneToOne", fn := fun _ => fun
  | [d] => { results := [.lit (.bool false)], args := [d] }
  | _ => none }
def PaceOneToOneWrongFalsely : Prop := paceOneToOneRow.holds Try.pinned (OpenSpec.ofChange paceOneToOneWrong)

/-- 'escapementlaw09.PaceDoubles': WHATEVER THE INPUT: true; the input reads as it did. -/
def paceDoublesSpec : ChangeSpec := { name := "paceDoubles", fn := fun _ => fun
  | [d1, d2, d3] => { results := [.lit (.bool true)], args := [d1, d2, d3] }
  | _ => none }
def paceDoublesRow : OpenClaim := { program := "ytfnndnceaddhgaa", sum := "05d5d1e9ece9e61928d29fcbba0fee80e355ff39600b62dd6a8668d22367da32", func := "escapement/escapementlaw09.PaceDoubles", spec := "paceDoubles", apart := false }
def PaceDoublesSaid : Prop := paceDoublesRow.holds Try.pinned (OpenSpec.ofChange paceDoublesSpec)

/-- ITS FALSE NEIGHBOUR: 'it returns false'. Refute it at one input. -/
def paceDoublesWrong : ChangeSpec := { name := "paceDoubles", fn := fun _ => fun
  | [d1, d2, d3] => { results := [.lit (.bool false)], args := [d1, d2, d3] }
  | _ => none }
def PaceDoublesWrongFalsely : Prop := paceDoublesRow.holds Try.pinned (OpenSpec.ofChange paceDoublesWrong)

/-- 'escapementlaw09.PaceEnds': WHATEVER THE INPUT: true; the input reads as it did. -/
def paceEndsSpec : ChangeSpec := { name := "paceEnds", fn := fun _ => fun
  | [d1, d2, d3] => { results := [.lit (.bool true)], args := [d1, d2, d3] }
  | _ => none }
def paceEndsRow : OpenClaim := { program := "ytfnndnceaddhgaa", sum := "05d5d1e9ece9e61928d29fcbba0fee80e355ff39600b62dd6a8668d22367da32", func := "escapement/escapementlaw09.PaceEnds", spec := "paceEnds", apart := false }
def PaceEndsSaid : Prop := paceEndsRow.holds Try.pinned (OpenSpec.ofChange paceEndsSpec)

/-- ITS FALSE NEIGHBOUR: 'it returns false'. Refute it at one input. -/
def paceEndsWrong : ChangeSpec := { name := "paceEnds", fn := fun _ => fun
  | [d1, d2, d3] => { results := [.lit (.bool false)], args := [d1, d2, d3] }
  | _ => none }
def PaceEndsWrongFalsely : Prop := paceEndsRow.holds Try.pinned (OpenSpec.ofChange paceEndsWrong)

/- THE SECOND FORM. 'bulk': how many values and letters a reading holds, each counted each time it is reached (what is shared counts as often as it is met; a slice's spare places count too). A statement '..UptoSaid' is the law's where the arguments, and the package variables that the reading takes, are together of bulk at most 1048576: NARROWER than '..Said'. Prove '..Said' where nothing that the law and all that it calls make is longer than what came in: it says more and counts as full. Else prove '..UptoSaid'. A law counts once. -/
mutual
def uptoBulk {H : Type} : DataW H → Nat
  | .lit (.string bytes) => bytes.length + 1
  | .lit _ => 1
  | .nil => 1
  | .ptr d => uptoBulk d + 1
  | .slice elems spare => uptoBulkAll elems + uptoBulkAll spare + 1
  | .agg parts => uptoBulkAll parts + 1
  | .iface _ d => uptoBulk d + 1
  | .map entries => uptoBulkEntries entries + 1
  | .held _ => 1
def uptoBulkAll {H : Type} : List (DataW H) → Nat
  | [] => 0
  | d :: r => uptoBulk d + uptoBulkAll r
def uptoBulkEntries {H : Type} : List (Lit × DataW H) → Nat
  | [] => 0
  | x :: r => uptoBulkEntry x + uptoBulkEntries r
def uptoBulkEntry {H : Type} : Lit × DataW H → Nat
  | (.string bytes, d) => bytes.length + uptoBulk d + 1
  | (_, d) => uptoBulk d + 1
 end
def uptoSmall : (H : Type) → List (DataW H) → Bool := fun _ ds => decide (uptoBulkAll ds ≤ 1048576)
def OpenSpec.upto (s : _root_.Go.ChangeSpec) : _root_.Go.OpenSpec := { _root_.Go.OpenSpec.ofChange s with cond := some uptoSmall }

/-- 'escapementlaw09.PaceNames', WHERE WHAT IT READS IS OF BULK AT MOST 1048576: true; the input reads as it did. -/
def paceNamesUptoRow : OpenClaim := { program := "ytfnndnceaddhgaa", sum := "05d5d1e9ece9e61928d29fcbba0fee80e355ff39600b62dd6a8668d22367da32", func := "escapement/escapementlaw09.PaceNames", spec := "paceNames", apart := false, narrowed := true }
def PaceNamesUptoSaid : Prop := paceNamesUptoRow.holds Try.pinned (OpenSpec.upto paceNamesSpec)

/-- 'escapementlaw09.PaceMixes', WHERE WHAT IT READS IS OF BULK AT MOST 1048576: true; the input reads as it did. -/
def paceMixesUptoRow : OpenClaim := { program := "ytfnndnceaddhgaa", sum := "05d5d1e9ece9e61928d29fcbba0fee80e355ff39600b62dd6a8668d22367da32", func := "escapement/escapementlaw09.PaceMixes", spec := "paceMixes", apart := false, narrowed := true }
def PaceMixesUptoSaid : Prop := paceMixesUptoRow.holds Try.pinned (OpenSpec.upto paceMixesSpec)

/-- 'escapementlaw09.PaceTells', WHERE WHAT IT READS IS OF BULK AT MOST 1048576: true; the input reads as it did. -/
def paceTellsUptoRow : OpenClaim := { program := "ytfnndnceaddhgaa", sum := "05d5d1e9ece9e61928d29fcbba0fee80e355ff39600b62dd6a8668d22367da32", func := "escapement/escapementlaw09.PaceTells", spec := "paceTells", apart := false, narrowed := true }
def PaceTellsUptoSaid : Prop := paceTellsUptoRow.holds Try.pinned (OpenSpec.upto paceTellsSpec)

/-- 'escapementlaw09.PaceOneToOne', WHERE WHAT IT READS IS OF BULK AT MOST 1048576: true; the input reads as it did. -/
def paceOneToOneUptoRow : OpenClaim := { program := "ytfnndnceaddhgaa", sum := "05d5d1e9ece9e61928d29fcbba0fee80e355ff39600b62dd6a8668d22367da32", func := "escapement/escapementlaw09.PaceOneToOne", spec := "paceOneToOne", apart := false, narrowed := true }
def PaceOneToOneUptoSaid : Prop := paceOneToOneUptoRow.holds Try.pinned (OpenSpec.upto paceOneToOneSpec)

/-- 'escapementlaw09.PaceDoubles', WHERE WHAT IT READS IS OF BULK AT MOST 1048576: true; the input reads as it did. -/
def paceDoublesUptoRow : OpenClaim := { program := "ytfnndnceaddhgaa", sum := "05d5d1e9ece9e61928d29fcbba0fee80e355ff39600b62dd6a8668d22367da32", func := "escapement/escapementlaw09.PaceDoubles", spec := "paceDoubles", apart := false, narrowed := true }
def PaceDoublesUptoSaid : Prop := paceDoublesUptoRow.holds Try.pinned (OpenSpec.upto paceDoublesSpec)

/-- 'escapementlaw09.PaceEnds', WHERE WHAT IT READS IS OF BULK AT MOST 1048576: true; the input reads as it did. -/
def paceEndsUptoRow : OpenClaim := { program := "ytfnndnceaddhgaa", sum := "05d5d1e9ece9e61928d29fcbba0fee80e355ff39600b62dd6a8668d22367da32", func := "escapement/escapementlaw09.PaceEnds", spec := "paceEnds", apart := false, narrowed := true }
def PaceEndsUptoSaid : Prop := paceEndsUptoRow.holds Try.pinned (OpenSpec.upto paceEndsSpec)

end Rows
end Go.Proofs.Ytfnndnceaddhgaa
