/-
  No cell of these rows narrows 'for every input' (looked for: loops, veiled, ifaces, maps, wideKeys, modest, calm, conditions, laid).
  DERIVED. THE GIVEN ROWS OF THIS SEAT. 3 by the template 'for every input the law returns true; each argument reads behind the call as it read before'; 0 by the template 'total and deterministic' (their statements: YtnoniccbmojmlaaTotals.lean).
  GIVEN WITH THE SEED: the statements are not yours to turn. If you find one false, say at which input.
  Laid BY PROGRAM, IN A SANDBOX (cutbox-rows.mjs): the forced cells as the released guide's own fill.sh prints them over the translation f0749d1a8f6b0e79… (all of the seat's roots in one cut). By AI agents, Wed Nov 11 2026. No macro, syntax, notation, axiom, sorry.
-/
import Derived.Test.YtnoniccbmojmlaaChecked
import GoSem.Claim
import GoSem.ClaimJoined
import GoSem.ClaimMapViews
import Derived.JoinedTies
import Derived.KernelRfl
namespace Go.Proofs.Ytnoniccbmojmlaa
/- THE CELL 'sum', in the pinned program and in every row, IS THE sha256 OF THE DUMP (.gsa) THAT YtnoniccbmojmlaaProg.lean LOADS. Nothing in Lean hashes anything: it is a label: what it is worth is what the hold of that sum in a sandbox is worth. -/
noncomputable def Try.pinned : Pinned := { name := "ytnoniccbmojmlaa", sum := "f0749d1a8f6b0e7933fc78188a333708d19d8dba23bea919ae8d7911ed9e23f8", checked := Try.checked }
namespace Rows
def none {H : Type} : Left H := { results := [], args := [] }

/-- 'escapementlaw02.PackNumbers': WHATEVER THE INPUT: true; the input reads as it did. -/
def packNumbersSpec : ChangeSpec := { name := "packNumbers", fn := fun _ => fun
  | [d] => { results := [.lit (.bool true)], args := [d] }
  | _ => none }
def packNumbersRow : OpenClaim := { program := "ytnoniccbmojmlaa", sum := "f0749d1a8f6b0e7933fc78188a333708d19d8dba23bea919ae8d7911ed9e23f8", func := "escapement/escapementlaw02.PackNumbers", spec := "packNumbers", unfollowed := true, recurses := true, apart := false }
def PackNumbersSaid : Prop := packNumbersRow.holds Try.pinned (OpenSpec.ofChange packNumbersSpec)

/-- ITS FALSE NEIGHBOUR: 'it returns false'. Refute it at one input. -/
def packNumbersWrong : ChangeSpec := { name := "packNumbers", fn := fun _ => fun
  | [d] => { results := [.lit (.bool false)], args := [d] }
  | _ => none }
def PackNumbersWrongFalsely : Prop := packNumbersRow.holds Try.pinned (OpenSpec.ofChange packNumbersWrong)

/-- 'escapementlaw02.PackNils': WHATEVER THE INPUT: true; the input reads as it did. -/
def packNilsSpec : ChangeSpec := { name := "packNils", fn := fun _ => fun
  | [d1, d2, d3] => { results := [.lit (.bool true)], args := [d1, d2, d3] }
  | _ => none }
def packNilsRow : OpenClaim := { program := "ytnoniccbmojmlaa", sum := "f0749d1a8f6b0e7933fc78188a333708d19d8dba23bea919ae8d7911ed9e23f8", func := "escapement/escapementlaw02.PackNils", spec := "packNils", unfollowed := true, recurses := true, apart := false }
def PackNilsSaid : Prop := packNilsRow.holds Try.pinned (OpenSpec.ofChange packNilsSpec)

/-- ITS FALSE NEIGHBOUR: 'it returns false'. Refute it at one input. -/
def packNilsWrong : ChangeSpec := { name := "packNils", fn := fun _ => fun
  | [d1, d2, d3] => { results := [.lit (.bool false)], args := [d1, d2, d3] }
  | _ => none }
def PackNilsWrongFalsely : Prop := packNilsRow.holds Try.pinned (OpenSpec.ofChange packNilsWrong)

/-- 'escapementlaw02.PackAlone': WHATEVER THE INPUT: true; the input reads as it did. -/
def packAloneSpec : ChangeSpec := { name := "packAlone", fn := fun _ => fun
  | [d] => { results := [.lit (.bool true)], args := [d] }
  | _ => none }
def packAloneRow : OpenClaim := { program := "ytnoniccbmojmlaa", sum := "f0749d1a8f6b0e7933fc78188a333708d19d8dba23bea919ae8d7911ed9e23f8", func := "escapement/escapementlaw02.PackAlone", spec := "packAlone", unfollowed := true, recurses := true, apart := false }
def PackAloneSaid : Prop := packAloneRow.holds Try.pinned (OpenSpec.ofChange packAloneSpec)

/-- ITS FALSE NEIGHBOUR: 'it returns false'. Refute it at one input. -/
def packAloneWrong : ChangeSpec := { name := "packAlone", fn := fun _ => fun
  | [d] => { results := [.lit (.bool false)], args := [d] }
  | _ => none }
def PackAloneWrongFalsely : Prop := packAloneRow.holds Try.pinned (OpenSpec.ofChange packAloneWrong)

/- THE SECOND FORM. 'bulk': how many values and letters a reading holds, each counted each time it is reached (what is shared counts as often as it is met; a slice's spare places count too). A statement '..UptoSaid' is the law's where the arguments, and the package variables that the reading takes, are together of bulk at most 1048576: NARROWER than '..Said'. Prove '..Said' where nothing that the law and all that it calls make is longer than what came in: it says more and counts as full. Else prove '..UptoSaid'. A law counts once. -/
mutual
def uptoBulk {H : Type} : DataW H → Nat
  | .lit (.string bytes) => bytes.length + 1
  | .lit _ => 1
  | .nil => 1
  | .ptr d => uptoBulk d + 1
  | .slice elems spare => uptoBulkAll elems + uptoBulkAll spare + 1
  | .agg parts => uptoBulkAll parts + 1
  | .iface _ d => uptoBulk d + 1
  | .map entries => uptoBulkEntries entries + 1
  | .held _ => 1
def uptoBulkAll {H : Type} : List (DataW H) → Nat
  | [] => 0
  | d :: r => uptoBulk d + uptoBulkAll r
def uptoBulkEntries {H : Type} : List (Lit × DataW H) → Nat
  | [] => 0
  | x :: r => uptoBulkEntry x + uptoBulkEntries r
def uptoBulkEntry {H : Type} : Lit × DataW H → Nat
  | (.string bytes, d) => bytes.length + uptoBulk d + 1
  | (_, d) => uptoBulk d + 1
 end
def uptoSmall : (H : Type) → List (DataW H) → Bool := fun _ ds => decide (uptoBulkAll ds ≤ 1048576)
def OpenSpec.upto (s : _root_.Go.ChangeSpec) : _root_.Go.OpenSpec := { _root_.Go.OpenSpec.ofChange s with cond := some uptoSmall }

/-- 'escapementlaw02.PackNumbers', WHERE WHAT IT READS IS OF BULK AT MOST 1048576: true; the input reads as it did. -/
def packNumbersUptoRow : OpenClaim := { program := "ytnoniccbmojmlaa", sum := "f0749d1a8f6b0e7933fc78188a333708d19d8dba23bea919ae8d7911ed9e23f8", func := "escapement/escapementlaw02.PackNumbers", spec := "packNumbers", unfollowed := true, recurses := true, apart := false, narrowed := true }
def PackNumbersUptoSaid : Prop := packNumbersUptoRow.holds Try.pinned (OpenSpec.upto packNumbersSpec)

/-- 'escapementlaw02.PackNils', WHERE WHAT IT READS IS OF BULK AT MOST 1048576: true; the input reads as it did. -/
def packNilsUptoRow : OpenClaim := { program := "ytnoniccbmojmlaa", sum := "f0749d1a8f6b0e7933fc78188a333708d19d8dba23bea919ae8d7911ed9e23f8", func := "escapement/escapementlaw02.PackNils", spec := "packNils", unfollowed := true, recurses := true, apart := false, narrowed := true }
def PackNilsUptoSaid : Prop := packNilsUptoRow.holds Try.pinned (OpenSpec.upto packNilsSpec)

/-- 'escapementlaw02.PackAlone', WHERE WHAT IT READS IS OF BULK AT MOST 1048576: true; the input reads as it did. -/
def packAloneUptoRow : OpenClaim := { program := "ytnoniccbmojmlaa", sum := "f0749d1a8f6b0e7933fc78188a333708d19d8dba23bea919ae8d7911ed9e23f8", func := "escapement/escapementlaw02.PackAlone", spec := "packAlone", unfollowed := true, recurses := true, apart := false, narrowed := true }
def PackAloneUptoSaid : Prop := packAloneUptoRow.holds Try.pinned (OpenSpec.upto packAloneSpec)

end Rows
end Go.Proofs.Ytnoniccbmojmlaa
