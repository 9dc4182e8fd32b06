/-
  NARROWER THAN 'FOR EVERY INPUT', by the rows' own cells (each row's printed sentence says how): CalendarNames: laid · CalendarTells: laid · CalendarThere: laid · CalendarBack: laid · CalendarOrder: laid · CalendarTomorrow: laid.
  DERIVED. THE GIVEN ROWS OF THIS SEAT. 6 by the template 'for every input the law returns true; each argument reads behind the call as it read before'; 0 by the template 'total and deterministic' (their statements: YtgnploeobgheaaaDoorTotals.lean).
  GIVEN WITH THE SEED: the statements are not yours to turn. If you find one false, say at which input.
  Laid BY PROGRAM, IN A SANDBOX (cutbox-rows.mjs): the forced cells as the released guide's own fill.sh prints them over the translation 0651b0fabfcee62e… (all of the seat's roots in one cut). By AI agents, Wed Nov 11 2026. No macro, syntax, notation, axiom, sorry.
-/
import Derived.Test.YtgnploeobgheaaaDoorChecked
import GoSem.Claim
import GoSem.ClaimJoined
import GoSem.ClaimMapViews
import Derived.JoinedTies
import Derived.KernelRfl
namespace Go.Proofs.YtgnploeobgheaaaDoor
/- THE CELL 'sum', in the pinned program and in every row, IS THE sha256 OF THE DUMP (.gsa) THAT YtgnploeobgheaaaDoorProg.lean LOADS. Nothing in Lean hashes anything: it is a label: what it is worth is what the hold of that sum in a sandbox is worth. -/
noncomputable def Tryd.pinned : Pinned := { name := "ytgnploeobgheaaadoor", sum := "0651b0fabfcee62ec9bb0c8242ca1ab7ef0710b4204ffea3cb45c25b42c15d6c", checked := Tryd.checked }
namespace Rows
def none {H : Type} : Left H := { results := [], args := [] }

/- WHAT THE LISTED PACKAGE-LEVEL VARIABLES READ AS WHEN THE CALL BEGINS. Each datum BY PROGRAM (the guide's laid-datum.mjs) off the statement by which the dump's own 'gosem.cut.vars' lays the variable. In a bare row this is a premise. The card (YtgnploeobgheaaaDoorCards.lean) ties it to the program's text. -/
def laid_escapement_calendar_monthDays {H : Type} : DataW H := .agg [.lit (.int .i64 31), .lit (.int .i64 28), .lit (.int .i64 31), .lit (.int .i64 30), .lit (.int .i64 31), .lit (.int .i64 30), .lit (.int .i64 31), .lit (.int .i64 31), .lit (.int .i64 30), .lit (.int .i64 31), .lit (.int .i64 30), .lit (.int .i64 31)]

/-- 'escapementlaw03.CalendarNames': WHATEVER THE INPUT: true; the input reads as it did. -/
def calendarNamesSpec : ChangeSpec := { name := "calendarNames", fn := fun _ => fun
  | [] => { results := [.lit (.bool true)], args := [] }
  | _ => none }
def calendarNamesRow : OpenClaim := { program := "ytgnploeobgheaaadoor", sum := "0651b0fabfcee62ec9bb0c8242ca1ab7ef0710b4204ffea3cb45c25b42c15d6c", func := "escapement/escapementlaw03.CalendarNames", spec := "calendarNames", named := ["escapement/calendar.monthDays"], apart := false, laid := [("escapement/calendar.monthDays", laid_escapement_calendar_monthDays)] }
def CalendarNamesSaid : Prop := calendarNamesRow.holds Tryd.pinned (OpenSpec.ofChange calendarNamesSpec)

/-- ITS FALSE NEIGHBOUR: 'it returns false'. Refute it at one input. -/
def calendarNamesWrong : ChangeSpec := { name := "calendarNames", fn := fun _ => fun
  | [] => { results := [.lit (.bool false)], args := [] }
  | _ => none }
def CalendarNamesWrongFalsely : Prop := calendarNamesRow.holds Tryd.pinned (OpenSpec.ofChange calendarNamesWrong)

/-- 'escapementlaw03.CalendarTells': WHATEVER THE INPUT: true; the input reads as it did. -/
def calendarTellsSpec : ChangeSpec := { name := "calendarTells", fn := fun _ => fun
  | [d] => { results := [.lit (.bool true)], args := [d] }
  | _ => none }
def calendarTellsRow : OpenClaim := { program := "ytgnploeobgheaaadoor", sum := "0651b0fabfcee62ec9bb0c8242ca1ab7ef0710b4204ffea3cb45c25b42c15d6c", func := "escapement/escapementlaw03.CalendarTells", spec := "calendarTells", named := ["escapement/calendar.monthDays"], apart := false, laid := [("escapement/calendar.monthDays", laid_escapement_calendar_monthDays)] }
def CalendarTellsSaid : Prop := calendarTellsRow.holds Tryd.pinned (OpenSpec.ofChange calendarTellsSpec)

/-- ITS FALSE NEIGHBOUR: 'it returns false'. Refute it at one input. -/
def calendarTellsWrong : ChangeSpec := { name := "calendarTells", fn := fun _ => fun
  | [d] => { results := [.lit (.bool false)], args := [d] }
  | _ => none }
def CalendarTellsWrongFalsely : Prop := calendarTellsRow.holds Tryd.pinned (OpenSpec.ofChange calendarTellsWrong)

/-- 'escapementlaw03.CalendarThere': WHATEVER THE INPUT: true; the input reads as it did. -/
def calendarThereSpec : ChangeSpec := { name := "calendarThere", fn := fun _ => fun
  | [d1, d2] => { results := [.lit (.bool true)], args := [d1, d2] }
  | _ => none }
def calendarThereRow : OpenClaim := { program := "ytgnploeobgheaaadoor", sum := "0651b0fabfcee62ec9bb0c8242ca1ab7ef0710b4204ffea3cb45c25b42c15d6c", func := "escapement/escapementlaw03.CalendarThere", spec := "calendarThere", named := ["escapement/calendar.monthDays"], apart := false, laid := [("escapement/calendar.monthDays", laid_escapement_calendar_monthDays)] }
def CalendarThereSaid : Prop := calendarThereRow.holds Tryd.pinned (OpenSpec.ofChange calendarThereSpec)

/-- ITS FALSE NEIGHBOUR: 'it returns false'. Refute it at one input. -/
def calendarThereWrong : ChangeSpec := { name := "calendarThere", fn := fun _ => fun
  | [d1, d2] => { results := [.lit (.bool false)], args := [d1, d2] }
  | _ => none }
def CalendarThereWrongFalsely : Prop := calendarThereRow.holds Tryd.pinned (OpenSpec.ofChange calendarThereWrong)

/-- 'escapementlaw03.CalendarBack': WHATEVER THE INPUT: true; the input reads as it did. -/
def calendarBackSpec : ChangeSpec := { name := "calendarBack", fn := fun _ => fun
  | [d] => { results := [.lit (.bool true)], args := [d] }
  | _ => none }
def calendarBackRow : OpenClaim := { program := "ytgnploeobgheaaadoor", sum := "0651b0fabfcee62ec9bb0c8242ca1ab7ef0710b4204ffea3cb45c25b42c15d6c", func := "escapement/escapementlaw03.CalendarBack", spec := "calendarBack", named := ["escapement/calendar.monthDays"], apart := false, laid := [("escapement/calendar.monthDays", laid_escapement_calendar_monthDays)] }
def CalendarBackSaid : Prop := calendarBackRow.holds Tryd.pinned (OpenSpec.ofChange calendarBackSpec)

/-- ITS FALSE NEIGHBOUR: 'it returns false'. Refute it at one input. -/
def calendarBackWrong : ChangeSpec := { name := "calendarBack", fn := fun _ => fun
  | [d] => { results := [.lit (.bool false)], args := [d] }
  | _ => none }
def CalendarBackWrongFalsely : Prop := calendarBackRow.holds Tryd.pinned (OpenSpec.ofChange calendarBackWrong)

/-- 'escapementlaw03.CalendarOrder': WHATEVER THE INPUT: true; the input reads as it did. -/
def calendarOrderSpec : ChangeSpec := { name := "calendarOrder", fn := fun _ => fun
  | [d1, d2] => { results := [.lit (.bool true)], args := [d1, d2] }
  | _ => none }
def calendarOrderRow : OpenClaim := { program := "ytgnploeobgheaaadoor", sum := "0651b0fabfcee62ec9bb0c8242ca1ab7ef0710b4204ffea3cb45c25b42c15d6c", func := "escapement/escapementlaw03.CalendarOrder", spec := "calendarOrder", named := ["escapement/calendar.monthDays"], apart := false, laid := [("escapement/calendar.monthDays", laid_escapement_calendar_monthDays)] }
def CalendarOrderSaid : Prop := calendarOrderRow.holds Tryd.pinned (OpenSpec.ofChange calendarOrderSpec)

/-- ITS FALSE NEIGHBOUR: 'it returns false'. Refute it at one input. -/
def calendarOrderWrong : ChangeSpec := { name := "calendarOrder", fn := fun _ => fun
  | [d1, d2] => { results := [.lit (.bool false)], args := [d1, d2] }
  | _ => none }
def CalendarOrderWrongFalsely : Prop := calendarOrderRow.holds Tryd.pinned (OpenSpec.ofChange calendarOrderWrong)

/-- 'escapementlaw03.CalendarTomorrow': WHATEVER THE INPUT: true; the input reads as it did. -/
def calendarTomorrowSpec : ChangeSpec := { name := "calendarTomorrow", fn := fun _ => fun
  | [d] => { results := [.lit (.bool true)], args := [d] }
  | _ => none }
def calendarTomorrowRow : OpenClaim := { program := "ytgnploeobgheaaadoor", sum := "0651b0fabfcee62ec9bb0c8242ca1ab7ef0710b4204ffea3cb45c25b42c15d6c", func := "escapement/escapementlaw03.CalendarTomorrow", spec := "calendarTomorrow", named := ["escapement/calendar.monthDays"], apart := false, laid := [("escapement/calendar.monthDays", laid_escapement_calendar_monthDays)] }
def CalendarTomorrowSaid : Prop := calendarTomorrowRow.holds Tryd.pinned (OpenSpec.ofChange calendarTomorrowSpec)

/-- ITS FALSE NEIGHBOUR: 'it returns false'. Refute it at one input. -/
def calendarTomorrowWrong : ChangeSpec := { name := "calendarTomorrow", fn := fun _ => fun
  | [d] => { results := [.lit (.bool false)], args := [d] }
  | _ => none }
def CalendarTomorrowWrongFalsely : Prop := calendarTomorrowRow.holds Tryd.pinned (OpenSpec.ofChange calendarTomorrowWrong)

/- THE SECOND FORM. 'bulk': how many values and letters a reading holds, each counted each time it is reached (what is shared counts as often as it is met; a slice's spare places count too). A statement '..UptoSaid' is the law's where the arguments, and the package variables that the reading takes, are together of bulk at most 1048576: NARROWER than '..Said'. Prove '..Said' where nothing that the law and all that it calls make is longer than what came in: it says more and counts as full. Else prove '..UptoSaid'. A law counts once. -/
mutual
def uptoBulk {H : Type} : DataW H → Nat
  | .lit (.string bytes) => bytes.length + 1
  | .lit _ => 1
  | .nil => 1
  | .ptr d => uptoBulk d + 1
  | .slice elems spare => uptoBulkAll elems + uptoBulkAll spare + 1
  | .agg parts => uptoBulkAll parts + 1
  | .iface _ d => uptoBulk d + 1
  | .map entries => uptoBulkEntries entries + 1
  | .held _ => 1
def uptoBulkAll {H : Type} : List (DataW H) → Nat
  | [] => 0
  | d :: r => uptoBulk d + uptoBulkAll r
def uptoBulkEntries {H : Type} : List (Lit × DataW H) → Nat
  | [] => 0
  | x :: r => uptoBulkEntry x + uptoBulkEntries r
def uptoBulkEntry {H : Type} : Lit × DataW H → Nat
  | (.string bytes, d) => bytes.length + uptoBulk d + 1
  | (_, d) => uptoBulk d + 1
 end
def uptoSmall : (H : Type) → List (DataW H) → Bool := fun _ ds => decide (uptoBulkAll ds ≤ 1048576)
def OpenSpec.upto (s : _root_.Go.ChangeSpec) : _root_.Go.OpenSpec := { _root_.Go.OpenSpec.ofChange s with cond := some uptoSmall }

/-- 'escapementlaw03.CalendarNames', WHERE WHAT IT READS IS OF BULK AT MOST 1048576: true; the input reads as it did. -/
def calendarNamesUptoRow : OpenClaim := { program := "ytgnploeobgheaaadoor", sum := "0651b0fabfcee62ec9bb0c8242ca1ab7ef0710b4204ffea3cb45c25b42c15d6c", func := "escapement/escapementlaw03.CalendarNames", spec := "calendarNames", named := ["escapement/calendar.monthDays"], apart := false, laid := [("escapement/calendar.monthDays", laid_escapement_calendar_monthDays)], narrowed := true }
def CalendarNamesUptoSaid : Prop := calendarNamesUptoRow.holds Tryd.pinned (OpenSpec.upto calendarNamesSpec)

/-- 'escapementlaw03.CalendarTells', WHERE WHAT IT READS IS OF BULK AT MOST 1048576: true; the input reads as it did. -/
def calendarTellsUptoRow : OpenClaim := { program := "ytgnploeobgheaaadoor", sum := "0651b0fabfcee62ec9bb0c8242ca1ab7ef0710b4204ffea3cb45c25b42c15d6c", func := "escapement/escapementlaw03.CalendarTells", spec := "calendarTells", named := ["escapement/calendar.monthDays"], apart := false, laid := [("escapement/calendar.monthDays", laid_escapement_calendar_monthDays)], narrowed := true }
def CalendarTellsUptoSaid : Prop := calendarTellsUptoRow.holds Tryd.pinned (OpenSpec.upto calendarTellsSpec)

/-- 'escapementlaw03.CalendarThere', WHERE WHAT IT READS IS OF BULK AT MOST 1048576: true; the input reads as it did. -/
def calendarThereUptoRow : OpenClaim := { program := "ytgnploeobgheaaadoor", sum := "0651b0fabfcee62ec9bb0c8242ca1ab7ef0710b4204ffea3cb45c25b42c15d6c", func := "escapement/escapementlaw03.CalendarThere", spec := "calendarThere", named := ["escapement/calendar.monthDays"], apart := false, laid := [("escapement/calendar.monthDays", laid_escapement_calendar_monthDays)], narrowed := true }
def CalendarThereUptoSaid : Prop := calendarThereUptoRow.holds Tryd.pinned (OpenSpec.upto calendarThereSpec)

/-- 'escapementlaw03.CalendarBack', WHERE WHAT IT READS IS OF BULK AT MOST 1048576: true; the input reads as it did. -/
def calendarBackUptoRow : OpenClaim := { program := "ytgnploeobgheaaadoor", sum := "0651b0fabfcee62ec9bb0c8242ca1ab7ef0710b4204ffea3cb45c25b42c15d6c", func := "escapement/escapementlaw03.CalendarBack", spec := "calendarBack", named := ["escapement/calendar.monthDays"], apart := false, laid := [("escapement/calendar.monthDays", laid_escapement_calendar_monthDays)], narrowed := true }
def CalendarBackUptoSaid : Prop := calendarBackUptoRow.holds Tryd.pinned (OpenSpec.upto calendarBackSpec)

/-- 'escapementlaw03.CalendarOrder', WHERE WHAT IT READS IS OF BULK AT MOST 1048576: true; the input reads as it did. -/
def calendarOrderUptoRow : OpenClaim := { program := "ytgnploeobgheaaadoor", sum := "0651b0fabfcee62ec9bb0c8242ca1ab7ef0710b4204ffea3cb45c25b42c15d6c", func := "escapement/escapementlaw03.CalendarOrder", spec := "calendarOrder", named := ["escapement/calendar.monthDays"], apart := false, laid := [("escapement/calendar.monthDays", laid_escapement_calendar_monthDays)], narrowed := true }
def CalendarOrderUptoSaid : Prop := calendarOrderUptoRow.holds Tryd.pinned (OpenSpec.upto calendarOrderSpec)

/-- 'escapementlaw03.CalendarTomorrow', WHERE WHAT IT READS IS OF BULK AT MOST 1048576: true; the input reads as it did. -/
def calendarTomorrowUptoRow : OpenClaim := { program := "ytgnploeobgheaaadoor", sum := "0651b0fabfcee62ec9bb0c8242ca1ab7ef0710b4204ffea3cb45c25b42c15d6c", func := "escapement/escapementlaw03.CalendarTomorrow", spec := "calendarTomorrow", named := ["escapement/calendar.monthDays"], apart := false, laid := [("escapement/calendar.monthDays", laid_escapement_calendar_monthDays)], narrowed := true }
def CalendarTomorrowUptoSaid : Prop := calendarTomorrowUptoRow.holds Tryd.pinned (OpenSpec.upto calendarTomorrowSpec)

end Rows
end Go.Proofs.YtgnploeobgheaaaDoor
