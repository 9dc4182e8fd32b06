/-
  No cell of these rows narrows 'for every input' (looked for: loops, veiled, ifaces, maps, wideKeys, modest, calm, conditions, laid).
  DERIVED. THE GIVEN ROWS OF THIS SEAT. 5 by the template 'for every input the law returns true; each argument reads behind the call as it read before'; 0 by the template 'total and deterministic' (their statements: YtbjcckfhfbjchaaGreatTotals.lean).
  GIVEN WITH THE SEED: the statements are not yours to turn. If you find one false, say at which input.
  Laid BY PROGRAM, IN A SANDBOX (cutbox-rows.mjs): the forced cells as the released guide's own fill.sh prints them over the translation 1873b7d0e908d934… (all of the seat's roots in one cut). By AI agents, Wed Nov 11 2026. No macro, syntax, notation, axiom, sorry.
-/
import Derived.Test.YtbjcckfhfbjchaaGreatChecked
import GoSem.Claim
import GoSem.ClaimJoined
import GoSem.ClaimMapViews
import Derived.JoinedTies
import Derived.KernelRfl
namespace Go.Proofs.YtbjcckfhfbjchaaGreat
/- THE CELL 'sum', in the pinned program and in every row, IS THE sha256 OF THE DUMP (.gsa) THAT YtbjcckfhfbjchaaGreatProg.lean LOADS. Nothing in Lean hashes anything: it is a label: what it is worth is what the hold of that sum in a sandbox is worth. -/
noncomputable def Tryz.pinned : Pinned := { name := "ytbjcckfhfbjchaagreat", sum := "1873b7d0e908d934d6492c0317508926842e5a186285242c2c8bee783ac612f4", checked := Tryz.checked }
namespace Rows
def none {H : Type} : Left H := { results := [], args := [] }

/-- 'escapementlaw12.CodecNames': WHATEVER THE INPUT: true; the input reads as it did. -/
def codecNamesSpec : ChangeSpec := { name := "codecNames", fn := fun _ => fun
  | [] => { results := [.lit (.bool true)], args := [] }
  | _ => none }
def codecNamesRow : OpenClaim := { program := "ytbjcckfhfbjchaagreat", sum := "1873b7d0e908d934d6492c0317508926842e5a186285242c2c8bee783ac612f4", func := "escapement/escapementlaw12.CodecNames", spec := "codecNames", unfollowed := true, recurses := true, apart := false }
def CodecNamesSaid : Prop := codecNamesRow.holds Tryz.pinned (OpenSpec.ofChange codecNamesSpec)

/-- ITS FALSE NEIGHBOUR: 'it returns false'. Refute it at one input. -/
def codecNamesWrong : ChangeSpec := { name := "codecNames", fn := fun _ => fun
  | [] => { results := [.lit (.bool false)], args := [] }
  | _ => none }
def CodecNamesWrongFalsely : Prop := codecNamesRow.holds Tryz.pinned (OpenSpec.ofChange codecNamesWrong)

/-- 'escapementlaw12.CodecBack': WHATEVER THE INPUT: true; the input reads as it did. -/
def codecBackSpec : ChangeSpec := { name := "codecBack", fn := fun _ => fun
  | [d1, d2] => { results := [.lit (.bool true)], args := [d1, d2] }
  | _ => none }
def codecBackRow : OpenClaim := { program := "ytbjcckfhfbjchaagreat", sum := "1873b7d0e908d934d6492c0317508926842e5a186285242c2c8bee783ac612f4", func := "escapement/escapementlaw12.CodecBack", spec := "codecBack", unfollowed := true, recurses := true, apart := false }
def CodecBackSaid : Prop := codecBackRow.holds Tryz.pinned (OpenSpec.ofChange codecBackSpec)

/-- ITS FALSE NEIGHBOUR: 'it returns false'. Refute it at one input. -/
def codecBackWrong : ChangeSpec := { name := "codecBack", fn := fun _ => fun
  | [d1, d2] => { results := [.lit (.bool false)], args := [d1, d2] }
  | _ => none }
def CodecBackWrongFalsely : Prop := codecBackRow.holds Tryz.pinned (OpenSpec.ofChange codecBackWrong)

/-- 'escapementlaw12.CodecOneForm': WHATEVER THE INPUT: true; the input reads as it did. -/
def codecOneFormSpec : ChangeSpec := { name := "codecOneForm", fn := fun _ => fun
  | [d] => { results := [.lit (.bool true)], args := [d] }
  | _ => none }
def codecOneFormRow : OpenClaim := { program := "ytbjcckfhfbjchaagreat", sum := "1873b7d0e908d934d6492c0317508926842e5a186285242c2c8bee783ac612f4", func := "escapement/escapementlaw12.CodecOneForm", spec := "codecOneForm", unfollowed := true, recurses := true, apart := false }
def CodecOneFormSaid : Prop := codecOneFormRow.holds Tryz.pinned (OpenSpec.ofChange codecOneFormSpec)

/-- ITS FALSE NEIGHBOUR: 'it returns false'. Refute it at one input. -/
def codecOneFormWrong : ChangeSpec := { name := "codecOneForm", fn := fun _ => fun
  | [d] => { results := [.lit (.bool false)], args := [d] }
  | _ => none }
def CodecOneFormWrongFalsely : Prop := codecOneFormRow.holds Tryz.pinned (OpenSpec.ofChange codecOneFormWrong)

/-- 'escapementlaw12.CodecApart': WHATEVER THE INPUT: true; the input reads as it did. -/
def codecApartSpec : ChangeSpec := { name := "codecApart", fn := fun _ => fun
  | [d1, d2] => { results := [.lit (.bool true)], args := [d1, d2] }
  | _ => none }
def codecApartRow : OpenClaim := { program := "ytbjcckfhfbjchaagreat", sum := "1873b7d0e908d934d6492c0317508926842e5a186285242c2c8bee783ac612f4", func := "escapement/escapementlaw12.CodecApart", spec := "codecApart", unfollowed := true, recurses := true, apart := false }
def CodecApartSaid : Prop := codecApartRow.holds Tryz.pinned (OpenSpec.ofChange codecApartSpec)

/-- ITS FALSE NEIGHBOUR: 'it returns false'. Refute it at one input. -/
def codecApartWrong : ChangeSpec := { name := "codecApart", fn := fun _ => fun
  | [d1, d2] => { results := [.lit (.bool false)], args := [d1, d2] }
  | _ => none }
def CodecApartWrongFalsely : Prop := codecApartRow.holds Tryz.pinned (OpenSpec.ofChange codecApartWrong)

/-- 'escapementlaw12.CodecRefuses': WHATEVER THE INPUT: true; the input reads as it did. -/
def codecRefusesSpec : ChangeSpec := { name := "codecRefuses", fn := fun _ => fun
  | [d1, d2, d3] => { results := [.lit (.bool true)], args := [d1, d2, d3] }
  | _ => none }
def codecRefusesRow : OpenClaim := { program := "ytbjcckfhfbjchaagreat", sum := "1873b7d0e908d934d6492c0317508926842e5a186285242c2c8bee783ac612f4", func := "escapement/escapementlaw12.CodecRefuses", spec := "codecRefuses", unfollowed := true, recurses := true, apart := false }
def CodecRefusesSaid : Prop := codecRefusesRow.holds Tryz.pinned (OpenSpec.ofChange codecRefusesSpec)

/-- ITS FALSE NEIGHBOUR: 'it returns false'. Refute it at one input. -/
def codecRefusesWrong : ChangeSpec := { name := "codecRefuses", fn := fun _ => fun
  | [d1, d2, d3] => { results := [.lit (.bool false)], args := [d1, d2, d3] }
  | _ => none }
def CodecRefusesWrongFalsely : Prop := codecRefusesRow.holds Tryz.pinned (OpenSpec.ofChange codecRefusesWrong)

/- THE SECOND FORM. 'bulk': how many values and letters a reading holds, each counted each time it is reached (what is shared counts as often as it is met; a slice's spare places count too). A statement '..UptoSaid' is the law's where the arguments, and the package variables that the reading takes, are together of bulk at most 1048576: NARROWER than '..Said'. Prove '..Said' where nothing that the law and all that it calls make is longer than what came in: it says more and counts as full. Else prove '..UptoSaid'. A law counts once. -/
mutual
def uptoBulk {H : Type} : DataW H → Nat
  | .lit (.string bytes) => bytes.length + 1
  | .lit _ => 1
  | .nil => 1
  | .ptr d => uptoBulk d + 1
  | .slice elems spare => uptoBulkAll elems + uptoBulkAll spare + 1
  | .agg parts => uptoBulkAll parts + 1
  | .iface _ d => uptoBulk d + 1
  | .map entries => uptoBulkEntries entries + 1
  | .held _ => 1
def uptoBulkAll {H : Type} : List (DataW H) → Nat
  | [] => 0
  | d :: r => uptoBulk d + uptoBulkAll r
def uptoBulkEntries {H : Type} : List (Lit × DataW H) → Nat
  | [] => 0
  | x :: r => uptoBulkEntry x + uptoBulkEntries r
def uptoBulkEntry {H : Type} : Lit × DataW H → Nat
  | (.string bytes, d) => bytes.length + uptoBulk d + 1
  | (_, d) => uptoBulk d + 1
 end
def uptoSmall : (H : Type) → List (DataW H) → Bool := fun _ ds => decide (uptoBulkAll ds ≤ 1048576)
def OpenSpec.upto (s : _root_.Go.ChangeSpec) : _root_.Go.OpenSpec := { _root_.Go.OpenSpec.ofChange s with cond := some uptoSmall }

/-- 'escapementlaw12.CodecNames', WHERE WHAT IT READS IS OF BULK AT MOST 1048576: true; the input reads as it did. -/
def codecNamesUptoRow : OpenClaim := { program := "ytbjcckfhfbjchaagreat", sum := "1873b7d0e908d934d6492c0317508926842e5a186285242c2c8bee783ac612f4", func := "escapement/escapementlaw12.CodecNames", spec := "codecNames", unfollowed := true, recurses := true, apart := false, narrowed := true }
def CodecNamesUptoSaid : Prop := codecNamesUptoRow.holds Tryz.pinned (OpenSpec.upto codecNamesSpec)

/-- 'escapementlaw12.CodecBack', WHERE WHAT IT READS IS OF BULK AT MOST 1048576: true; the input reads as it did. -/
def codecBackUptoRow : OpenClaim := { program := "ytbjcckfhfbjchaagreat", sum := "1873b7d0e908d934d6492c0317508926842e5a186285242c2c8bee783ac612f4", func := "escapement/escapementlaw12.CodecBack", spec := "codecBack", unfollowed := true, recurses := true, apart := false, narrowed := true }
def CodecBackUptoSaid : Prop := codecBackUptoRow.holds Tryz.pinned (OpenSpec.upto codecBackSpec)

/-- 'escapementlaw12.CodecOneForm', WHERE WHAT IT READS IS OF BULK AT MOST 1048576: true; the input reads as it did. -/
def codecOneFormUptoRow : OpenClaim := { program := "ytbjcckfhfbjchaagreat", sum := "1873b7d0e908d934d6492c0317508926842e5a186285242c2c8bee783ac612f4", func := "escapement/escapementlaw12.CodecOneForm", spec := "codecOneForm", unfollowed := true, recurses := true, apart := false, narrowed := true }
def CodecOneFormUptoSaid : Prop := codecOneFormUptoRow.holds Tryz.pinned (OpenSpec.upto codecOneFormSpec)

/-- 'escapementlaw12.CodecApart', WHERE WHAT IT READS IS OF BULK AT MOST 1048576: true; the input reads as it did. -/
def codecApartUptoRow : OpenClaim := { program := "ytbjcckfhfbjchaagreat", sum := "1873b7d0e908d934d6492c0317508926842e5a186285242c2c8bee783ac612f4", func := "escapement/escapementlaw12.CodecApart", spec := "codecApart", unfollowed := true, recurses := true, apart := false, narrowed := true }
def CodecApartUptoSaid : Prop := codecApartUptoRow.holds Tryz.pinned (OpenSpec.upto codecApartSpec)

/-- 'escapementlaw12.CodecRefuses', WHERE WHAT IT READS IS OF BULK AT MOST 1048576: true; the input reads as it did. -/
def codecRefusesUptoRow : OpenClaim := { program := "ytbjcckfhfbjchaagreat", sum := "1873b7d0e908d934d6492c0317508926842e5a186285242c2c8bee783ac612f4", func := "escapement/escapementlaw12.CodecRefuses", spec := "codecRefuses", unfollowed := true, recurses := true, apart := false, narrowed := true }
def CodecRefusesUptoSaid : Prop := codecRefusesUptoRow.holds Tryz.pinned (OpenSpec.upto codecRefusesSpec)

end Rows
end Go.Proofs.YtbjcckfhfbjchaaGreat
