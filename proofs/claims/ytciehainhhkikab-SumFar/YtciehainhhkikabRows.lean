/-
  No cell of these rows narrows 'for every input' (looked for: loops, veiled, ifaces, maps, wideKeys, modest, calm, conditions, laid).
  DERIVED. THE GIVEN ROWS OF THIS SEAT. 3 by the template 'for every input the law returns true; each argument reads behind the call as it read before'; 0 by the template 'total and deterministic' (their statements: YtciehainhhkikabTotals.lean).
  GIVEN WITH THE SEED: the statements are not yours to turn. If you find one false, say at which input.
  Laid BY PROGRAM, IN A SANDBOX (cutbox-rows.mjs): the forced cells as the released guide's own fill.sh prints them over the translation 6b11dec2a8aa3591… (all of the seat's roots in one cut). By AI agents, Wed Nov 11 2026. No macro, syntax, notation, axiom, sorry.
-/
import Derived.Test.YtciehainhhkikabChecked
import GoSem.Claim
import GoSem.ClaimJoined
import GoSem.ClaimMapViews
import Derived.JoinedTies
import Derived.KernelRfl
namespace Go.Proofs.Ytciehainhhkikab
/- THE CELL 'sum', in the pinned program and in every row, IS THE sha256 OF THE DUMP (.gsa) THAT YtciehainhhkikabProg.lean LOADS. Nothing in Lean hashes anything: it is a label: what it is worth is what the hold of that sum in a sandbox is worth. -/
noncomputable def Try.pinned : Pinned := { name := "ytciehainhhkikab", sum := "6b11dec2a8aa3591a5b5f97f5b67acaac5232d39454b05ac99d749a583d43edf", checked := Try.checked }
namespace Rows
def none {H : Type} : Left H := { results := [], args := [] }

/-- 'escapementlaw01.SumTogether': WHATEVER THE INPUT: true; the input reads as it did. -/
def sumTogetherSpec : ChangeSpec := { name := "sumTogether", fn := fun _ => fun
  | [d] => { results := [.lit (.bool true)], args := [d] }
  | _ => none }
def sumTogetherRow : OpenClaim := { program := "ytciehainhhkikab", sum := "6b11dec2a8aa3591a5b5f97f5b67acaac5232d39454b05ac99d749a583d43edf", func := "escapement/escapementlaw01.SumTogether", spec := "sumTogether", apart := false }
def SumTogetherSaid : Prop := sumTogetherRow.holds Try.pinned (OpenSpec.ofChange sumTogetherSpec)

/-- ITS FALSE NEIGHBOUR: 'it returns false'. Refute it at one input. -/
def sumTogetherWrong : ChangeSpec := { name := "sumTogether", fn := fun _ => fun
  | [d] => { results := [.lit (.bool false)], args := [d] }
  | _ => none }
def SumTogetherWrongFalsely : Prop := sumTogetherRow.holds Try.pinned (OpenSpec.ofChange sumTogetherWrong)

/-- 'escapementlaw01.SumPatched': WHATEVER THE INPUT: true; the input reads as it did. -/
def sumPatchedSpec : ChangeSpec := { name := "sumPatched", fn := fun _ => fun
  | [d1, d2, d3] => { results := [.lit (.bool true)], args := [d1, d2, d3] }
  | _ => none }
def sumPatchedRow : OpenClaim := { program := "ytciehainhhkikab", sum := "6b11dec2a8aa3591a5b5f97f5b67acaac5232d39454b05ac99d749a583d43edf", func := "escapement/escapementlaw01.SumPatched", spec := "sumPatched", apart := false }
def SumPatchedSaid : Prop := sumPatchedRow.holds Try.pinned (OpenSpec.ofChange sumPatchedSpec)

/-- ITS FALSE NEIGHBOUR: 'it returns false'. Refute it at one input. -/
def sumPatchedWrong : ChangeSpec := { name := "sumPatched", fn := fun _ => fun
  | [d1, d2, d3] => { results := [.lit (.bool false)], args := [d1, d2, d3] }
  | _ => none }
def SumPatchedWrongFalsely : Prop := sumPatchedRow.holds Try.pinned (OpenSpec.ofChange sumPatchedWrong)

/-- 'escapementlaw01.SumFar': WHATEVER THE INPUT: true; the input reads as it did. -/
def sumFarSpec : ChangeSpec := { name := "sumFar", fn := fun _ => fun
  | [d] => { results := [.lit (.bool true)], args := [d] }
  | _ => none }
def sumFarRow : OpenClaim := { program := "ytciehainhhkikab", sum := "6b11dec2a8aa3591a5b5f97f5b67acaac5232d39454b05ac99d749a583d43edf", func := "escapement/escapementlaw01.SumFar", spec := "sumFar", apart := false }
def SumFarSaid : Prop := sumFarRow.holds Try.pinned (OpenSpec.ofChange sumFarSpec)

/-- ITS FALSE NEIGHBOUR: 'it returns false'. Refute it at one input. -/
def sumFarWrong : ChangeSpec := { name := "sumFar", fn := fun _ => fun
  | [d] => { results := [.lit (.bool false)], args := [d] }
  | _ => none }
def SumFarWrongFalsely : Prop := sumFarRow.holds Try.pinned (OpenSpec.ofChange sumFarWrong)

/- THE SECOND FORM. 'bulk': how many values and letters a reading holds, each counted each time it is reached (what is shared counts as often as it is met; a slice's spare places count too). A statement '..UptoSaid' is the law's where the arguments, and the package variables that the reading takes, are together of bulk at most 1048576: NARROWER than '..Said'. Prove '..Said' where nothing that the law and all that it calls make is longer than what came in: it says more and counts as full. Else prove '..UptoSaid'. A law counts once. -/
mutual
def uptoBulk {H : Type} : DataW H → Nat
  | .lit (.string bytes) => bytes.length + 1
  | .lit _ => 1
  | .nil => 1
  | .ptr d => uptoBulk d + 1
  | .slice elems spare => uptoBulkAll elems + uptoBulkAll spare + 1
  | .agg parts => uptoBulkAll parts + 1
  | .iface _ d => uptoBulk d + 1
  | .map entries => uptoBulkEntries entries + 1
  | .held _ => 1
def uptoBulkAll {H : Type} : List (DataW H) → Nat
  | [] => 0
  | d :: r => uptoBulk d + uptoBulkAll r
def uptoBulkEntries {H : Type} : List (Lit × DataW H) → Nat
  | [] => 0
  | x :: r => uptoBulkEntry x + uptoBulkEntries r
def uptoBulkEntry {H : Type} : Lit × DataW H → Nat
  | (.string bytes, d) => bytes.length + uptoBulk d + 1
  | (_, d) => uptoBulk d + 1
 end
def uptoSmall : (H : Type) → List (DataW H) → Bool := fun _ ds => decide (uptoBulkAll ds ≤ 1048576)
def OpenSpec.upto (s : _root_.Go.ChangeSpec) : _root_.Go.OpenSpec := { _root_.Go.OpenSpec.ofChange s with cond := some uptoSmall }

/-- 'escapementlaw01.SumTogether', WHERE WHAT IT READS IS OF BULK AT MOST 1048576: true; the input reads as it did. -/
def sumTogetherUptoRow : OpenClaim := { program := "ytciehainhhkikab", sum := "6b11dec2a8aa3591a5b5f97f5b67acaac5232d39454b05ac99d749a583d43edf", func := "escapement/escapementlaw01.SumTogether", spec := "sumTogether", apart := false, narrowed := true }
def SumTogetherUptoSaid : Prop := sumTogetherUptoRow.holds Try.pinned (OpenSpec.upto sumTogetherSpec)

/-- 'escapementlaw01.SumPatched', WHERE WHAT IT READS IS OF BULK AT MOST 1048576: true; the input reads as it did. -/
def sumPatchedUptoRow : OpenClaim := { program := "ytciehainhhkikab", sum := "6b11dec2a8aa3591a5b5f97f5b67acaac5232d39454b05ac99d749a583d43edf", func := "escapement/escapementlaw01.SumPatched", spec := "sumPatched", apart := false, narrowed := true }
def SumPatchedUptoSaid : Prop := sumPatchedUptoRow.holds Try.pinned (OpenSpec.upto sumPatchedSpec)

/-- 'escapementlaw01.SumFar', WHERE WHAT IT READS IS OF BULK AT MOST 1048576: true; the input reads as it did. -/
def sumFarUptoRow : OpenClaim := { program := "ytciehainhhkikab", sum := "6b11dec2a8aa3591a5b5f97f5b67acaac5232d39454b05ac99d749a583d43edf", func := "escapement/escapementlaw01.SumFar", spec := "sumFar", apart := false, narrowed := true }
def SumFarUptoSaid : Prop := sumFarUptoRow.holds Try.pinned (OpenSpec.upto sumFarSpec)

end Rows
end Go.Proofs.Ytciehainhhkikab
