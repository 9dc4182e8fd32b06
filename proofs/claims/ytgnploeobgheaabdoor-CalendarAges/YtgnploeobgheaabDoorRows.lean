/-
  NARROWER THAN 'FOR EVERY INPUT', by the rows' own cells (each row's printed sentence says how): CalendarAges: laid · CalendarYears: laid.
  DERIVED. THE GIVEN ROWS OF THIS SEAT. 2 by the template 'for every input the law returns true; each argument reads behind the call as it read before'; 0 by the template 'total and deterministic' (their statements: YtgnploeobgheaabDoorTotals.lean).
  GIVEN WITH THE SEED: the statements are not yours to turn. If you find one false, say at which input.
  Laid BY PROGRAM, IN A SANDBOX (cutbox-rows.mjs): the forced cells as the released guide's own fill.sh prints them over the translation ae5ca7fc10ac8e7a… (all of the seat's roots in one cut). By AI agents, Wed Nov 11 2026. No macro, syntax, notation, axiom, sorry.
-/
import Derived.Test.YtgnploeobgheaabDoorChecked
import GoSem.Claim
import GoSem.ClaimJoined
import GoSem.ClaimMapViews
import Derived.JoinedTies
import Derived.KernelRfl
namespace Go.Proofs.YtgnploeobgheaabDoor
/- THE CELL 'sum', in the pinned program and in every row, IS THE sha256 OF THE DUMP (.gsa) THAT YtgnploeobgheaabDoorProg.lean LOADS. Nothing in Lean hashes anything: it is a label: what it is worth is what the hold of that sum in a sandbox is worth. -/
noncomputable def Tryd.pinned : Pinned := { name := "ytgnploeobgheaabdoor", sum := "ae5ca7fc10ac8e7ae62819149f3cf7788164d4afcd0b70c0565fb4212d5d7c4e", checked := Tryd.checked }
namespace Rows
def none {H : Type} : Left H := { results := [], args := [] }

/- WHAT THE LISTED PACKAGE-LEVEL VARIABLES READ AS WHEN THE CALL BEGINS. Each datum BY PROGRAM (the guide's laid-datum.mjs) off the statement by which the dump's own 'gosem.cut.vars' lays the variable. In a bare row this is a premise. The card (YtgnploeobgheaabDoorCards.lean) ties it to the program's text. -/
def laid_escapement_calendar_monthDays {H : Type} : DataW H := .agg [.lit (.int .i64 31), .lit (.int .i64 28), .lit (.int .i64 31), .lit (.int .i64 30), .lit (.int .i64 31), .lit (.int .i64 30), .lit (.int .i64 31), .lit (.int .i64 31), .lit (.int .i64 30), .lit (.int .i64 31), .lit (.int .i64 30), .lit (.int .i64 31)]

/-- 'escapementlaw03.CalendarAges': WHATEVER THE INPUT: true; the input reads as it did. -/
def calendarAgesSpec : ChangeSpec := { name := "calendarAges", fn := fun _ => fun
  | [d] => { results := [.lit (.bool true)], args := [d] }
  | _ => none }
def calendarAgesRow : OpenClaim := { program := "ytgnploeobgheaabdoor", sum := "ae5ca7fc10ac8e7ae62819149f3cf7788164d4afcd0b70c0565fb4212d5d7c4e", func := "escapement/escapementlaw03.CalendarAges", spec := "calendarAges", named := ["escapement/calendar.monthDays"], apart := false, laid := [("escapement/calendar.monthDays", laid_escapement_calendar_monthDays)] }
def CalendarAgesSaid : Prop := calendarAgesRow.holds Tryd.pinned (OpenSpec.ofChange calendarAgesSpec)

/-- ITS FALSE NEIGHBOUR: 'it returns false'. Refute it at one input. -/
def calendarAgesWrong : ChangeSpec := { name := "calendarAges", fn := fun _ => fun
  | [d] => { results := [.lit (.bool false)], args := [d] }
  | _ => none }
def CalendarAgesWrongFalsely : Prop := calendarAgesRow.holds Tryd.pinned (OpenSpec.ofChange calendarAgesWrong)

/-- 'escapementlaw03.CalendarYears': WHATEVER THE INPUT: true; the input reads as it did. -/
def calendarYearsSpec : ChangeSpec := { name := "calendarYears", fn := fun _ => fun
  | [d] => { results := [.lit (.bool true)], args := [d] }
  | _ => none }
def calendarYearsRow : OpenClaim := { program := "ytgnploeobgheaabdoor", sum := "ae5ca7fc10ac8e7ae62819149f3cf7788164d4afcd0b70c0565fb4212d5d7c4e", func := "escapement/escapementlaw03.CalendarYears", spec := "calendarYears", named := ["escapement/calendar.monthDays"], apart := false, laid := [("escapement/calendar.monthDays", laid_escapement_calendar_monthDays)] }
def CalendarYearsSaid : Prop := calendarYearsRow.holds Tryd.pinned (OpenSpec.ofChange calendarYearsSpec)

/-- ITS FALSE NEIGHBOUR: 'it returns false'. Refute it at one input. -/
def calendarYearsWrong : ChangeSpec := { name := "calendarYears", fn := fun _ => fun
  | [d] => { results := [.lit (.bool false)], args := [d] }
  | _ => none }
def CalendarYearsWrongFalsely : Prop := calendarYearsRow.holds Tryd.pinned (OpenSpec.ofChange calendarYearsWrong)

/- THE SECOND FORM. 'bulk': how many values and letters a reading holds, each counted each time it is reached (what is shared counts as often as it is met; a slice's spare places count too). A statement '..UptoSaid' is the law's where the arguments, and the package variables that the reading takes, are together of bulk at most 1048576: NARROWER than '..Said'. Prove '..Said' where nothing that the law and all that it calls make is longer than what came in: it says more and counts as full. Else prove '..UptoSaid'. A law counts once. -/
mutual
def uptoBulk {H : Type} : DataW H → Nat
  | .lit (.string bytes) => bytes.length + 1
  | .lit _ => 1
  | .nil => 1
  | .ptr d => uptoBulk d + 1
  | .slice elems spare => uptoBulkAll elems + uptoBulkAll spare + 1
  | .agg parts => uptoBulkAll parts + 1
  | .iface _ d => uptoBulk d + 1
  | .map entries => uptoBulkEntries entries + 1
  | .held _ => 1
def uptoBulkAll {H : Type} : List (DataW H) → Nat
  | [] => 0
  | d :: r => uptoBulk d + uptoBulkAll r
def uptoBulkEntries {H : Type} : List (Lit × DataW H) → Nat
  | [] => 0
  | x :: r => uptoBulkEntry x + uptoBulkEntries r
def uptoBulkEntry {H : Type} : Lit × DataW H → Nat
  | (.string bytes, d) => bytes.length + uptoBulk d + 1
  | (_, d) => uptoBulk d + 1
 end
def uptoSmall : (H : Type) → List (DataW H) → Bool := fun _ ds => decide (uptoBulkAll ds ≤ 1048576)
def OpenSpec.upto (s : _root_.Go.ChangeSpec) : _root_.Go.OpenSpec := { _root_.Go.OpenSpec.ofChange s with cond := some uptoSmall }

/-- 'escapementlaw03.CalendarAges', WHERE WHAT IT READS IS OF BULK AT MOST 1048576: true; the input reads as it did. -/
def calendarAgesUptoRow : OpenClaim := { program := "ytgnploeobgheaabdoor", sum := "ae5ca7fc10ac8e7ae62819149f3cf7788164d4afcd0b70c0565fb4212d5d7c4e", func := "escapement/escapementlaw03.CalendarAges", spec := "calendarAges", named := ["escapement/calendar.monthDays"], apart := false, laid := [("escapement/calendar.monthDays", laid_escapement_calendar_monthDays)], narrowed := true }
def CalendarAgesUptoSaid : Prop := calendarAgesUptoRow.holds Tryd.pinned (OpenSpec.upto calendarAgesSpec)

/-- 'escapementlaw03.CalendarYears', WHERE WHAT IT READS IS OF BULK AT MOST 1048576: true; the input reads as it did. -/
def calendarYearsUptoRow : OpenClaim := { program := "ytgnploeobgheaabdoor", sum := "ae5ca7fc10ac8e7ae62819149f3cf7788164d4afcd0b70c0565fb4212d5d7c4e", func := "escapement/escapementlaw03.CalendarYears", spec := "calendarYears", named := ["escapement/calendar.monthDays"], apart := false, laid := [("escapement/calendar.monthDays", laid_escapement_calendar_monthDays)], narrowed := true }
def CalendarYearsUptoSaid : Prop := calendarYearsUptoRow.holds Tryd.pinned (OpenSpec.upto calendarYearsSpec)

end Rows
end Go.Proofs.YtgnploeobgheaabDoor
