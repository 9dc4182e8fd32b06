/- The seven variables that are laid where texts are written. -/
import Derived.Test.YtbgioclbjbmicaaDoorXLift
import Derived.ChangeMaps5
import Derived.LaidLaws
import Derived.SizedLaws
import Derived.Deep.DeepHandedRow
namespace Go.Proofs.YtbgioclbjbmicaaDoor
open Go.ChangeShapes Go.WideShapes Go.ChangeAt Go.RowKit Go.Deep

abbrev laid7 : List (String × DataW Unit) := [("math/bits.deBruijn32tab", Rows.laid_math_bits_deBruijn32tab), ("math/bits.deBruijn64tab", Rows.laid_math_bits_deBruijn64tab), ("internal/strconv.uint64pow10", Rows.laid_internal_strconv_uint64pow10), ("unicode/utf8.acceptRanges", Rows.laid_unicode_utf8_acceptRanges), ("escapement/calendar.monthDays", Rows.laid_escapement_calendar_monthDays), ("escapement/cron.bounds", Rows.laid_escapement_cron_bounds), ("unicode/utf8.first", Rows.laid_unicode_utf8_first)]
theorem env_of_laid7 {W : World} (h : laidMetH Tryd.prog laid7 W) : Env W := by
  have h := h.filter (fun x => ["unicode/utf8.acceptRanges", "escapement/calendar.monthDays", "escapement/cron.bounds", "unicode/utf8.first"].contains x.1)
  have e : laid7.filter (fun x => ["unicode/utf8.acceptRanges", "escapement/calendar.monthDays", "escapement/cron.bounds", "unicode/utf8.first"].contains x.1) = laid4 := by kernel_rfl
  rw [e] at h
  exact env_of_laid h
set_option maxRecDepth 100000 in
theorem door_met7 (os : Os) (args : Array Value) : laidMetH Tryd.prog laid7 ((World.laidAll Tryd.prog os laid7).forCall (fun _ _ => 0) ⟨#[], args, []⟩).memory := by
  rw [MakeChecks.laidMetH_plain _ _ _ (by kernel_rfl)]
  exact laidMet_laidAll _ (by kernel_rfl) (by kernel_rfl)
theorem str_bulk {H : Type} {s : ByteArray} {r : List (DataW H)} (h : Rows.uptoBulkAll (.lit (.string s.data.toList) :: r) ≤ 1048576) : s.size ≤ 1048576 ∧ Rows.uptoBulkAll r ≤ 1048576 := by
  have e : Rows.uptoBulkAll (H := H) (.lit (.string s.data.toList) :: r) = s.data.toList.length + 1 + Rows.uptoBulkAll r := by simp only [Rows.uptoBulkAll, Rows.uptoBulk]
  have hl : s.data.toList.length = s.size := by simp
  omega
end Go.Proofs.YtbgioclbjbmicaaDoor
