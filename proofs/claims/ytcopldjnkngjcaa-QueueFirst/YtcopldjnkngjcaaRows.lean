/-
  No cell of these rows narrows 'for every input' (looked for: loops, veiled, ifaces, maps, wideKeys, modest, calm, conditions, laid).
  DERIVED. THE GIVEN ROWS OF THIS SEAT. 6 by the template 'for every input the law returns true; each argument reads behind the call as it read before'; 0 by the template 'total and deterministic' (their statements: YtcopldjnkngjcaaTotals.lean).
  GIVEN WITH THE SEED: the statements are not yours to turn. If you find one false, say at which input.
  Laid BY PROGRAM, IN A SANDBOX (cutbox-rows.mjs): the forced cells as the released guide's own fill.sh prints them over the translation bcc0094021026e02… (all of the seat's roots in one cut). By AI agents, Wed Nov 11 2026. No macro, syntax, notation, axiom, sorry.
-/
import Derived.Test.YtcopldjnkngjcaaChecked
import GoSem.Claim
import GoSem.ClaimJoined
import GoSem.ClaimMapViews
import Derived.JoinedTies
import Derived.KernelRfl
namespace Go.Proofs.Ytcopldjnkngjcaa
/- THE CELL 'sum', in the pinned program and in every row, IS THE sha256 OF THE DUMP (.gsa) THAT YtcopldjnkngjcaaProg.lean LOADS. Nothing in Lean hashes anything: it is a label: what it is worth is what the hold of that sum in a sandbox is worth. -/
noncomputable def Try.pinned : Pinned := { name := "ytcopldjnkngjcaa", sum := "bcc0094021026e0209c039a61493d71dae2867bb29cbeee5407266c5f8cb0aa9", checked := Try.checked }
namespace Rows
def none {H : Type} : Left H := { results := [], args := [] }

/-- 'escapementlaw08.QueueNews': WHATEVER THE INPUT: true; the input reads as it did. -/
def queueNewsSpec : ChangeSpec := { name := "queueNews", fn := fun _ => fun
  | [d] => { results := [.lit (.bool true)], args := [d] }
  | _ => none }
def queueNewsRow : OpenClaim := { program := "ytcopldjnkngjcaa", sum := "bcc0094021026e0209c039a61493d71dae2867bb29cbeee5407266c5f8cb0aa9", func := "escapement/escapementlaw08.QueueNews", spec := "queueNews", unfollowed := true, recurses := true, plainKeys := false, apart := false }
def QueueNewsSaid : Prop := queueNewsRow.holds Try.pinned (OpenSpec.ofChange queueNewsSpec)

/-- ITS FALSE NEIGHBOUR: 'it returns false'. Refute it at one input. -/
def queueNewsWrong : ChangeSpec := { name := "queueNews", fn := fun _ => fun
  | [d] => { results := [.lit (.bool false)], args := [d] }
  | _ => none }
def QueueNewsWrongFalsely : Prop := queueNewsRow.holds Try.pinned (OpenSpec.ofChange queueNewsWrong)

/-- 'escapementlaw08.QueuePlays': WHATEVER THE INPUT: true; the input reads as it did. -/
def queuePlaysSpec : ChangeSpec := { name := "queuePlays", fn := fun _ => fun
  | [d1, d2, d3] => { results := [.lit (.bool true)], args := [d1, d2, d3] }
  | _ => none }
def queuePlaysRow : OpenClaim := { program := "ytcopldjnkngjcaa", sum := "bcc0094021026e0209c039a61493d71dae2867bb29cbeee5407266c5f8cb0aa9", func := "escapement/escapementlaw08.QueuePlays", spec := "queuePlays", unfollowed := true, recurses := true, plainKeys := false, apart := false }
def QueuePlaysSaid : Prop := queuePlaysRow.holds Try.pinned (OpenSpec.ofChange queuePlaysSpec)

/-- ITS FALSE NEIGHBOUR: 'it returns false'. Refute it at one input. -/
def queuePlaysWrong : ChangeSpec := { name := "queuePlays", fn := fun _ => fun
  | [d1, d2, d3] => { results := [.lit (.bool false)], args := [d1, d2, d3] }
  | _ => none }
def QueuePlaysWrongFalsely : Prop := queuePlaysRow.holds Try.pinned (OpenSpec.ofChange queuePlaysWrong)

/-- 'escapementlaw08.QueueKinds': WHATEVER THE INPUT: true; the input reads as it did. -/
def queueKindsSpec : ChangeSpec := { name := "queueKinds", fn := fun _ => fun
  | [d1, d2] => { results := [.lit (.bool true)], args := [d1, d2] }
  | _ => none }
def queueKindsRow : OpenClaim := { program := "ytcopldjnkngjcaa", sum := "bcc0094021026e0209c039a61493d71dae2867bb29cbeee5407266c5f8cb0aa9", func := "escapement/escapementlaw08.QueueKinds", spec := "queueKinds", unfollowed := true, recurses := true, plainKeys := false, apart := false }
def QueueKindsSaid : Prop := queueKindsRow.holds Try.pinned (OpenSpec.ofChange queueKindsSpec)

/-- ITS FALSE NEIGHBOUR: 'it returns false'. Refute it at one input. -/
def queueKindsWrong : ChangeSpec := { name := "queueKinds", fn := fun _ => fun
  | [d1, d2] => { results := [.lit (.bool false)], args := [d1, d2] }
  | _ => none }
def QueueKindsWrongFalsely : Prop := queueKindsRow.holds Try.pinned (OpenSpec.ofChange queueKindsWrong)

/-- 'escapementlaw08.QueueGoes': WHATEVER THE INPUT: true; the input reads as it did. -/
def queueGoesSpec : ChangeSpec := { name := "queueGoes", fn := fun _ => fun
  | [d1, d2, d3] => { results := [.lit (.bool true)], args := [d1, d2, d3] }
  | _ => none }
def queueGoesRow : OpenClaim := { program := "ytcopldjnkngjcaa", sum := "bcc0094021026e0209c039a61493d71dae2867bb29cbeee5407266c5f8cb0aa9", func := "escapement/escapementlaw08.QueueGoes", spec := "queueGoes", unfollowed := true, recurses := true, plainKeys := false, apart := false }
def QueueGoesSaid : Prop := queueGoesRow.holds Try.pinned (OpenSpec.ofChange queueGoesSpec)

/-- ITS FALSE NEIGHBOUR: 'it returns false'. Refute it at one input. -/
def queueGoesWrong : ChangeSpec := { name := "queueGoes", fn := fun _ => fun
  | [d1, d2, d3] => { results := [.lit (.bool false)], args := [d1, d2, d3] }
  | _ => none }
def QueueGoesWrongFalsely : Prop := queueGoesRow.holds Try.pinned (OpenSpec.ofChange queueGoesWrong)

/-- 'escapementlaw08.QueueFirst': WHATEVER THE INPUT: true; the input reads as it did. -/
def queueFirstSpec : ChangeSpec := { name := "queueFirst", fn := fun _ => fun
  | [d1, d2] => { results := [.lit (.bool true)], args := [d1, d2] }
  | _ => none }
def queueFirstRow : OpenClaim := { program := "ytcopldjnkngjcaa", sum := "bcc0094021026e0209c039a61493d71dae2867bb29cbeee5407266c5f8cb0aa9", func := "escapement/escapementlaw08.QueueFirst", spec := "queueFirst", unfollowed := true, recurses := true, plainKeys := false, apart := false }
def QueueFirstSaid : Prop := queueFirstRow.holds Try.pinned (OpenSpec.ofChange queueFirstSpec)

/-- ITS FALSE NEIGHBOUR: 'it returns false'. Refute it at one input. -/
def queueFirstWrong : ChangeSpec := { name := "queueFirst", fn := fun _ => fun
  | [d1, d2] => { results := [.lit (.bool false)], args := [d1, d2] }
  | _ => none }
def QueueFirstWrongFalsely : Prop := queueFirstRow.holds Try.pinned (OpenSpec.ofChange queueFirstWrong)

/-- 'escapementlaw08.QueueRemoves': WHATEVER THE INPUT: true; the input reads as it did. -/
def queueRemovesSpec : ChangeSpec := { name := "queueRemoves", fn := fun _ => fun
  | [d1, d2, d3] => { results := [.lit (.bool true)], args := [d1, d2, d3] }
  | _ => none }
def queueRemovesRow : OpenClaim := { program := "ytcopldjnkngjcaa", sum := "bcc0094021026e0209c039a61493d71dae2867bb29cbeee5407266c5f8cb0aa9", func := "escapement/escapementlaw08.QueueRemoves", spec := "queueRemoves", unfollowed := true, recurses := true, plainKeys := false, apart := false }
def QueueRemovesSaid : Prop := queueRemovesRow.holds Try.pinned (OpenSpec.ofChange queueRemovesSpec)

/-- ITS FALSE NEIGHBOUR: 'it returns false'. Refute it at one input. -/
def queueRemovesWrong : ChangeSpec := { name := "queueRemoves", fn := fun _ => fun
  | [d1, d2, d3] => { results := [.lit (.bool false)], args := [d1, d2, d3] }
  | _ => none }
def QueueRemovesWrongFalsely : Prop := queueRemovesRow.holds Try.pinned (OpenSpec.ofChange queueRemovesWrong)

/- THE SECOND FORM. 'bulk': how many values and letters a reading holds, each counted each time it is reached (what is shared counts as often as it is met; a slice's spare places count too). A statement '..UptoSaid' is the law's where the arguments, and the package variables that the reading takes, are together of bulk at most 1048576: NARROWER than '..Said'. Prove '..Said' where nothing that the law and all that it calls make is longer than what came in: it says more and counts as full. Else prove '..UptoSaid'. A law counts once. -/
mutual
def uptoBulk {H : Type} : DataW H → Nat
  | .lit (.string bytes) => bytes.length + 1
  | .lit _ => 1
  | .nil => 1
  | .ptr d => uptoBulk d + 1
  | .slice elems spare => uptoBulkAll elems + uptoBulkAll spare + 1
  | .agg parts => uptoBulkAll parts + 1
  | .iface _ d => uptoBulk d + 1
  | .map entries => uptoBulkEntries entries + 1
  | .held _ => 1
def uptoBulkAll {H : Type} : List (DataW H) → Nat
  | [] => 0
  | d :: r => uptoBulk d + uptoBulkAll r
def uptoBulkEntries {H : Type} : List (Lit × DataW H) → Nat
  | [] => 0
  | x :: r => uptoBulkEntry x + uptoBulkEntries r
def uptoBulkEntry {H : Type} : Lit × DataW H → Nat
  | (.string bytes, d) => bytes.length + uptoBulk d + 1
  | (_, d) => uptoBulk d + 1
 end
def uptoSmall : (H : Type) → List (DataW H) → Bool := fun _ ds => decide (uptoBulkAll ds ≤ 1048576)
def OpenSpec.upto (s : _root_.Go.ChangeSpec) : _root_.Go.OpenSpec := { _root_.Go.OpenSpec.ofChange s with cond := some uptoSmall }

/-- 'escapementlaw08.QueueNews', WHERE WHAT IT READS IS OF BULK AT MOST 1048576: true; the input reads as it did. -/
def queueNewsUptoRow : OpenClaim := { program := "ytcopldjnkngjcaa", sum := "bcc0094021026e0209c039a61493d71dae2867bb29cbeee5407266c5f8cb0aa9", func := "escapement/escapementlaw08.QueueNews", spec := "queueNews", unfollowed := true, recurses := true, plainKeys := false, apart := false, narrowed := true }
def QueueNewsUptoSaid : Prop := queueNewsUptoRow.holds Try.pinned (OpenSpec.upto queueNewsSpec)

/-- 'escapementlaw08.QueuePlays', WHERE WHAT IT READS IS OF BULK AT MOST 1048576: true; the input reads as it did. -/
def queuePlaysUptoRow : OpenClaim := { program := "ytcopldjnkngjcaa", sum := "bcc0094021026e0209c039a61493d71dae2867bb29cbeee5407266c5f8cb0aa9", func := "escapement/escapementlaw08.QueuePlays", spec := "queuePlays", unfollowed := true, recurses := true, plainKeys := false, apart := false, narrowed := true }
def QueuePlaysUptoSaid : Prop := queuePlaysUptoRow.holds Try.pinned (OpenSpec.upto queuePlaysSpec)

/-- 'escapementlaw08.QueueKinds', WHERE WHAT IT READS IS OF BULK AT MOST 1048576: true; the input reads as it did. -/
def queueKindsUptoRow : OpenClaim := { program := "ytcopldjnkngjcaa", sum := "bcc0094021026e0209c039a61493d71dae2867bb29cbeee5407266c5f8cb0aa9", func := "escapement/escapementlaw08.QueueKinds", spec := "queueKinds", unfollowed := true, recurses := true, plainKeys := false, apart := false, narrowed := true }
def QueueKindsUptoSaid : Prop := queueKindsUptoRow.holds Try.pinned (OpenSpec.upto queueKindsSpec)

/-- 'escapementlaw08.QueueGoes', WHERE WHAT IT READS IS OF BULK AT MOST 1048576: true; the input reads as it did. -/
def queueGoesUptoRow : OpenClaim := { program := "ytcopldjnkngjcaa", sum := "bcc0094021026e0209c039a61493d71dae2867bb29cbeee5407266c5f8cb0aa9", func := "escapement/escapementlaw08.QueueGoes", spec := "queueGoes", unfollowed := true, recurses := true, plainKeys := false, apart := false, narrowed := true }
def QueueGoesUptoSaid : Prop := queueGoesUptoRow.holds Try.pinned (OpenSpec.upto queueGoesSpec)

/-- 'escapementlaw08.QueueFirst', WHERE WHAT IT READS IS OF BULK AT MOST 1048576: true; the input reads as it did. -/
def queueFirstUptoRow : OpenClaim := { program := "ytcopldjnkngjcaa", sum := "bcc0094021026e0209c039a61493d71dae2867bb29cbeee5407266c5f8cb0aa9", func := "escapement/escapementlaw08.QueueFirst", spec := "queueFirst", unfollowed := true, recurses := true, plainKeys := false, apart := false, narrowed := true }
def QueueFirstUptoSaid : Prop := queueFirstUptoRow.holds Try.pinned (OpenSpec.upto queueFirstSpec)

/-- 'escapementlaw08.QueueRemoves', WHERE WHAT IT READS IS OF BULK AT MOST 1048576: true; the input reads as it did. -/
def queueRemovesUptoRow : OpenClaim := { program := "ytcopldjnkngjcaa", sum := "bcc0094021026e0209c039a61493d71dae2867bb29cbeee5407266c5f8cb0aa9", func := "escapement/escapementlaw08.QueueRemoves", spec := "queueRemoves", unfollowed := true, recurses := true, plainKeys := false, apart := false, narrowed := true }
def QueueRemovesUptoSaid : Prop := queueRemovesUptoRow.holds Try.pinned (OpenSpec.upto queueRemovesSpec)

end Rows
end Go.Proofs.Ytcopldjnkngjcaa
