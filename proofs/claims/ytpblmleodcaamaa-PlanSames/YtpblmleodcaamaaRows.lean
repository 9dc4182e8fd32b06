/-
  No cell of these rows narrows 'for every input' (looked for: loops, veiled, ifaces, maps, wideKeys, modest, calm, conditions, laid).
  DERIVED. THE GIVEN ROWS OF THIS SEAT. 4 by the template 'for every input the law returns true; each argument reads behind the call as it read before'; 0 by the template 'total and deterministic' (their statements: YtpblmleodcaamaaTotals.lean).
  GIVEN WITH THE SEED: the statements are not yours to turn. If you find one false, say at which input.
  Laid BY PROGRAM, IN A SANDBOX (cutbox-rows.mjs): the forced cells as the released guide's own fill.sh prints them over the translation 2a8201d60fd07894… (all of the seat's roots in one cut). By AI agents, Wed Nov 11 2026. No macro, syntax, notation, axiom, sorry.
-/
import Derived.Test.YtpblmleodcaamaaChecked
import GoSem.Claim
import GoSem.ClaimJoined
import GoSem.ClaimMapViews
import Derived.JoinedTies
import Derived.KernelRfl
namespace Go.Proofs.Ytpblmleodcaamaa
/- THE CELL 'sum', in the pinned program and in every row, IS THE sha256 OF THE DUMP (.gsa) THAT YtpblmleodcaamaaProg.lean LOADS. Nothing in Lean hashes anything: it is a label: what it is worth is what the hold of that sum in a sandbox is worth. -/
noncomputable def Try.pinned : Pinned := { name := "ytpblmleodcaamaa", sum := "2a8201d60fd0789460aa5dfc060a13ad0d0267956b300f5248c08172b739b4de", checked := Try.checked }
namespace Rows
def none {H : Type} : Left H := { results := [], args := [] }

/-- 'escapementlaw10.PlanChecks': WHATEVER THE INPUT: true; the input reads as it did. -/
def planChecksSpec : ChangeSpec := { name := "planChecks", fn := fun _ => fun
  | [d] => { results := [.lit (.bool true)], args := [d] }
  | _ => none }
def planChecksRow : OpenClaim := { program := "ytpblmleodcaamaa", sum := "2a8201d60fd0789460aa5dfc060a13ad0d0267956b300f5248c08172b739b4de", func := "escapement/escapementlaw10.PlanChecks", spec := "planChecks", unfollowed := true, recurses := true, apart := false }
def PlanChecksSaid : Prop := planChecksRow.holds Try.pinned (OpenSpec.ofChange planChecksSpec)

/-- ITS FALSE NEIGHBOUR: 'it returns false'. Refute it at one input. -/
def planChecksWrong : ChangeSpec := { name := "planChecks", fn := fun _ => fun
  | [d] => { results := [.lit (.bool false)], args := [d] }
  | _ => none }
def PlanChecksWrongFalsely : Prop := planChecksRow.holds Try.pinned (OpenSpec.ofChange planChecksWrong)

/-- 'escapementlaw10.PlanOrders': WHATEVER THE INPUT: true; the input reads as it did. -/
def planOrdersSpec : ChangeSpec := { name := "planOrders", fn := fun _ => fun
  | [d] => { results := [.lit (.bool true)], args := [d] }
  | _ => none }
def planOrdersRow : OpenClaim := { program := "ytpblmleodcaamaa", sum := "2a8201d60fd0789460aa5dfc060a13ad0d0267956b300f5248c08172b739b4de", func := "escapement/escapementlaw10.PlanOrders", spec := "planOrders", unfollowed := true, recurses := true, apart := false }
def PlanOrdersSaid : Prop := planOrdersRow.holds Try.pinned (OpenSpec.ofChange planOrdersSpec)

/-- ITS FALSE NEIGHBOUR: 'it returns false'. Refute it at one input. -/
def planOrdersWrong : ChangeSpec := { name := "planOrders", fn := fun _ => fun
  | [d] => { results := [.lit (.bool false)], args := [d] }
  | _ => none }
def PlanOrdersWrongFalsely : Prop := planOrdersRow.holds Try.pinned (OpenSpec.ofChange planOrdersWrong)

/-- 'escapementlaw10.PlanBelows': WHATEVER THE INPUT: true; the input reads as it did. -/
def planBelowsSpec : ChangeSpec := { name := "planBelows", fn := fun _ => fun
  | [d1, d2] => { results := [.lit (.bool true)], args := [d1, d2] }
  | _ => none }
def planBelowsRow : OpenClaim := { program := "ytpblmleodcaamaa", sum := "2a8201d60fd0789460aa5dfc060a13ad0d0267956b300f5248c08172b739b4de", func := "escapement/escapementlaw10.PlanBelows", spec := "planBelows", unfollowed := true, recurses := true, apart := false }
def PlanBelowsSaid : Prop := planBelowsRow.holds Try.pinned (OpenSpec.ofChange planBelowsSpec)

/-- ITS FALSE NEIGHBOUR: 'it returns false'. Refute it at one input. -/
def planBelowsWrong : ChangeSpec := { name := "planBelows", fn := fun _ => fun
  | [d1, d2] => { results := [.lit (.bool false)], args := [d1, d2] }
  | _ => none }
def PlanBelowsWrongFalsely : Prop := planBelowsRow.holds Try.pinned (OpenSpec.ofChange planBelowsWrong)

/-- 'escapementlaw10.PlanSames': WHATEVER THE INPUT: true; the input reads as it did. -/
def planSamesSpec : ChangeSpec := { name := "planSames", fn := fun _ => fun
  | [d1, d2] => { results := [.lit (.bool true)], args := [d1, d2] }
  | _ => none }
def planSamesRow : OpenClaim := { program := "ytpblmleodcaamaa", sum := "2a8201d60fd0789460aa5dfc060a13ad0d0267956b300f5248c08172b739b4de", func := "escapement/escapementlaw10.PlanSames", spec := "planSames", unfollowed := true, recurses := true, apart := false }
def PlanSamesSaid : Prop := planSamesRow.holds Try.pinned (OpenSpec.ofChange planSamesSpec)

/-- ITS FALSE NEIGHBOUR: 'it returns false'. Refute it at one input. -/
def planSamesWrong : ChangeSpec := { name := "planSames", fn := fun _ => fun
  | [d1, d2] => { results := [.lit (.bool false)], args := [d1, d2] }
  | _ => none }
def PlanSamesWrongFalsely : Prop := planSamesRow.holds Try.pinned (OpenSpec.ofChange planSamesWrong)

/- THE SECOND FORM. 'bulk': how many values and letters a reading holds, each counted each time it is reached (what is shared counts as often as it is met; a slice's spare places count too). A statement '..UptoSaid' is the law's where the arguments, and the package variables that the reading takes, are together of bulk at most 1048576: NARROWER than '..Said'. Prove '..Said' where nothing that the law and all that it calls make is longer than what came in: it says more and counts as full. Else prove '..UptoSaid'. A law counts once. -/
mutual
def uptoBulk {H : Type} : DataW H → Nat
  | .lit (.string bytes) => bytes.length + 1
  | .lit _ => 1
  | .nil => 1
  | .ptr d => uptoBulk d + 1
  | .slice elems spare => uptoBulkAll elems + uptoBulkAll spare + 1
  | .agg parts => uptoBulkAll parts + 1
  | .iface _ d => uptoBulk d + 1
  | .map entries => uptoBulkEntries entries + 1
  | .held _ => 1
def uptoBulkAll {H : Type} : List (DataW H) → Nat
  | [] => 0
  | d :: r => uptoBulk d + uptoBulkAll r
def uptoBulkEntries {H : Type} : List (Lit × DataW H) → Nat
  | [] => 0
  | x :: r => uptoBulkEntry x + uptoBulkEntries r
def uptoBulkEntry {H : Type} : Lit × DataW H → Nat
  | (.string bytes, d) => bytes.length + uptoBulk d + 1
  | (_, d) => uptoBulk d + 1
 end
def uptoSmall : (H : Type) → List (DataW H) → Bool := fun _ ds => decide (uptoBulkAll ds ≤ 1048576)
def OpenSpec.upto (s : _root_.Go.ChangeSpec) : _root_.Go.OpenSpec := { _root_.Go.OpenSpec.ofChange s with cond := some uptoSmall }

/-- 'escapementlaw10.PlanChecks', WHERE WHAT IT READS IS OF BULK AT MOST 1048576: true; the input reads as it did. -/
def planChecksUptoRow : OpenClaim := { program := "ytpblmleodcaamaa", sum := "2a8201d60fd0789460aa5dfc060a13ad0d0267956b300f5248c08172b739b4de", func := "escapement/escapementlaw10.PlanChecks", spec := "planChecks", unfollowed := true, recurses := true, apart := false, narrowed := true }
def PlanChecksUptoSaid : Prop := planChecksUptoRow.holds Try.pinned (OpenSpec.upto planChecksSpec)

/-- 'escapementlaw10.PlanOrders', WHERE WHAT IT READS IS OF BULK AT MOST 1048576: true; the input reads as it did. -/
def planOrdersUptoRow : OpenClaim := { program := "ytpblmleodcaamaa", sum := "2a8201d60fd0789460aa5dfc060a13ad0d0267956b300f5248c08172b739b4de", func := "escapement/escapementlaw10.PlanOrders", spec := "planOrders", unfollowed := true, recurses := true, apart := false, narrowed := true }
def PlanOrdersUptoSaid : Prop := planOrdersUptoRow.holds Try.pinned (OpenSpec.upto planOrdersSpec)

/-- 'escapementlaw10.PlanBelows', WHERE WHAT IT READS IS OF BULK AT MOST 1048576: true; the input reads as it did. -/
def planBelowsUptoRow : OpenClaim := { program := "ytpblmleodcaamaa", sum := "2a8201d60fd0789460aa5dfc060a13ad0d0267956b300f5248c08172b739b4de", func := "escapement/escapementlaw10.PlanBelows", spec := "planBelows", unfollowed := true, recurses := true, apart := false, narrowed := true }
def PlanBelowsUptoSaid : Prop := planBelowsUptoRow.holds Try.pinned (OpenSpec.upto planBelowsSpec)

/-- 'escapementlaw10.PlanSames', WHERE WHAT IT READS IS OF BULK AT MOST 1048576: true; the input reads as it did. -/
def planSamesUptoRow : OpenClaim := { program := "ytpblmleodcaamaa", sum := "2a8201d60fd0789460aa5dfc060a13ad0d0267956b300f5248c08172b739b4de", func := "escapement/escapementlaw10.PlanSames", spec := "planSames", unfollowed := true, recurses := true, apart := false, narrowed := true }
def PlanSamesUptoSaid : Prop := planSamesUptoRow.holds Try.pinned (OpenSpec.upto planSamesSpec)

end Rows
end Go.Proofs.Ytpblmleodcaamaa
