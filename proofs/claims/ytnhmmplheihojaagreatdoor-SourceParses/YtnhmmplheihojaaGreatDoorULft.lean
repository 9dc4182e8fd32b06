/- Package source's laws: what their rows share: the variables that are laid, the witness. -/
import Derived.Test.YtnhmmplheihojaaGreatDoorRows
import Derived.Test.YtnhmmplheihojaaGreatDoorCards
import Derived.Test.YtnhmmplheihojaaGreatDoorTie
import Derived.Test.YtnhmmplheihojaaGreatDoorUTxt
import Derived.Test.YtnhmmplheihojaaGreatDoorUPar
import Derived.ProofKit
import Derived.LaidMore
import Derived.LaidLaws
import Derived.LaidHandle
import Derived.LaidSub
import Derived.Lay
import Derived.Lib.LaidTab
import Derived.OpenShut
import Derived.ChangeOld
import Derived.SizedLaws
import Derived.Stop.Joined
import Derived.SevenTiedAt
import Derived.Deep.Fields
import Derived.Deep.DeepHandedRow
namespace Go.Proofs.YtnhmmplheihojaaGreatDoor
namespace U
open Go.ChangeShapes Go.WideShapes Go.ChangeAt Go.RowKit Go.Deep

theorem own : ownKnob Tryz.prog.godebug = none := by kernel_rfl
theorem laidOut : laidOutB Tryz.prog = true := by kernel_rfl
abbrev laid6 : List (String × DataW Unit) := [("math/bits.deBruijn32tab", Rows.laid_math_bits_deBruijn32tab), ("math/bits.deBruijn64tab", Rows.laid_math_bits_deBruijn64tab), ("internal/strconv.uint64pow10", Rows.laid_internal_strconv_uint64pow10), ("unicode/utf8.acceptRanges", Rows.laid_unicode_utf8_acceptRanges), ("errors.errorType", Rows.laid_errors_errorType), ("unicode/utf8.first", Rows.laid_unicode_utf8_first)]
theorem tPow : (Tryz.prog.globals[1]?).map (·.type) = some 188 := by kernel_rfl
set_option maxRecDepth 100000 in
theorem envI_of_laid {W : World} (h : laidMetH Tryz.prog laid6 W) : EnvI W := by
  have h := h.filter (fun x => x.1 == "internal/strconv.uint64pow10")
  have e : laid6.filter (fun x => x.1 == "internal/strconv.uint64pow10") = [("internal/strconv.uint64pow10", Rows.laid_internal_strconv_uint64pow10)] := by kernel_rfl
  rw [e] at h
  rw [MakeChecks.laidMetH_plain _ _ _ (by kernel_rfl)] at h
  exact Lib.tabIs_of_head globalTab tPow Tryz.underlying188 Tryz.underlying149 (by kernel_rfl) (by kernel_rfl) (rest := []) h
theorem gErr : Tryz.prog.globalNamed "errors.errorType" = some 0 := by kernel_rfl
theorem rtypeAt : (Tryz.prog.cutTypes.find? (·.1 == "internal/reflectlite.rtype")).map (·.2) = some 113 := by kernel_rfl
theorem errName : Rows.laid_errors_errorType.handleName? (H := Unit) = some [101, 114, 114, 111, 114] := by kernel_rfl
set_option maxRecDepth 100000 in
theorem errOne : ((List.range Tryz.prog.types.size).all fun t => !Tryz.prog.rowNamed t [101, 114, 114, 111, 114] || t == 37) = true := by kernel_rfl
theorem typeErr : typeHandle Tryz.prog 37 = hdl 37 := by kernel_rfl
set_option maxRecDepth 100000 in
theorem envA_of_laid {W : World} (h : laidMetH Tryz.prog laid6 W) : EnvA W := by
  obtain ⟨_, h2⟩ := laidMetH_iff.1 h
  have hm : (("errors.errorType", Rows.laid_errors_errorType) : String × DataW Unit) ∈ laid6.filter fun x => x.2.handleName?.isSome := List.mem_filter.2 ⟨by simp, by rw [errName]; rfl⟩
  have h3 := h2 _ hm
  have hf : (Rows.laid_errors_errorType (H := Unit)).funcsIn? = none := by kernel_rfl
  simp only [hf] at h3
  obtain ⟨name, u, ty, e1, e2, e3, e4, e5⟩ := h3
  rw [errName] at e1
  obtain rfl := Option.some.inj e1
  rw [rtypeAt] at e2
  obtain rfl := Option.some.inj e2
  have h6 := List.all_eq_true.1 errOne ty (List.mem_range.2 e3)
  rw [e4] at h6
  have h7 : ty = 37 := by simpa using h6
  subst h7
  unfold World.var? at e5
  rw [gErr] at e5
  simp only [Option.bind_some] at e5
  rw [typeErr] at e5
  unfold EnvA
  split at e5
  · rename_i cs elem fz hh
    have e6 := Option.some.inj e5
    subst e6
    rw [World.cell?, hh]
    simp
  · cases e5
/-- a world in which they are laid -/
noncomputable def laidWorld (os : Os) : World :=
  { World.laidAll Tryz.prog os (laid6.filter fun x => x.2.handleName?.isNone) with heap := (World.laidAll Tryz.prog os (laid6.filter fun x => x.2.handleName?.isNone)).heap.modify 0 fun
      | .cells _ t frozen => .cells #[.iface 113 (.agg #[hdl 37])] t frozen
      | o => o }
set_option maxRecDepth 100000 in
theorem laid_met (os : Os) (args : Array Value) : laidMetH Tryz.prog laid6 ((laidWorld os).forCall (fun _ _ => 0) ⟨#[], args, []⟩).memory :=
  laidMetH_of_parts (laidMet_of_run' 8 (by kernel_rfl) (by kernel_rfl)) (by kernel_rfl)
end U
end Go.Proofs.YtnhmmplheihojaaGreatDoor
