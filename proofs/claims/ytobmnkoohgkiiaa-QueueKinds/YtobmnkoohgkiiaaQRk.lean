/- Package queue: things of two parts. -/
import Derived.Test.YtobmnkoohgkiiaaQAl1
import Derived.DeepKeys4
namespace Go.Proofs.Ytobmnkoohgkiiaa
namespace Qu
open Go.RowKit Go.Maps

/-- two numbers that may be -/
abbrev Rk := { p : Int × Int // (-9223372036854775808 ≤ p.1 ∧ p.1 ≤ 9223372036854775807) ∧ (-9223372036854775808 ≤ p.2 ∧ p.2 ≤ 9223372036854775807) }
def KF : Kd Rk := { kt := 36, enc := fun k => .agg #[.int .i64 k.1.1, .int .i64 k.1.2], lit := fun k => .string (keyBytes [.int .i64 k.1.1, .int .i64 k.1.2]), ok := fun _ => True, c := 2, cl := fun k => [.int .i64 k.1.1, .int .i64 k.1.2], zc := [.int .i64 0, .int .i64 0, .int .i64 0], tq := 74, te := 104, tl := 72, tm := 71 }
theorem infoF : (Try.prog.info? 104).map (fun i => (i.zero, i.size, i.bytes)) = some (some (.agg #[.int .i64 0, .int .i64 0, .int .i64 0]), 3, 24) := by kernel_rfl
theorem keyed_ref : Keyed Try.prog 36 := Keyed.of_law (deep_law_laid (by kernel_rfl) (m := 2) (by omega) (of_decide_eq_true (by kernel_rfl)) (by kernel_rfl) (by kernel_rfl))
theorem cells_ref : Try.prog.cellsOf 36 = 2 := by kernel_rfl
theorem keyType_ref : Try.prog.keyType 36 = true := by kernel_rfl
theorem size_types : ∃ d, Try.prog.types.size = d + 1 := ⟨Try.prog.types.size - 1, by kernel_rfl⟩
theorem wf_range {x : Int} (h : -9223372036854775808 ≤ x ∧ x ≤ 9223372036854775807) : (Lit.int .i64 x).wf = true := WalkArith.wf_i64 (by omega)
theorem key_ref (k : Rk) : keyOf Try.prog 36 (KF.enc k) = some (KF.lit k) := by
  obtain ⟨⟨a, b⟩, ha, hb⟩ := k
  have wa := wf_range ha
  have wb := wf_range hb
  have hf : (Value.agg #[.int .i64 a, .int .i64 b]).formed Try.prog 36 = true := by simp [Value.formed, Try.underlying36, cells_ref]
  have ci : Try.prog.cellsOf 3 = 1 := by kernel_rfl
  have hk : ∀ d, Try.prog.keyLits (d + 2) 36 [.int .i64 a, .int .i64 b] = some [.int .i64 a, .int .i64 b] := fun d => by
    simp [Program.keyLits, Try.underlying36, Try.underlying3, cells_ref, ci, wa, wb]
  obtain ⟨d, hd⟩ := size_types
  have hk2 := hk d
  simp only [keyOf, Try.underlying36, keyType_ref, KF, hf, Bool.and_self, if_true, hd]
  rw [show (Value.agg #[Value.int .i64 a, Value.int .i64 b]).cells.toList = [.int .i64 a, .int .i64 b] from rfl, hk2]
  rfl
theorem okF : KdOk KF where
  keyed := keyed_ref
  key a _ := key_ref a
  inj a b h := by
    have := keyed_ref.inj (key_ref a) (by rw [h]; exact key_ref b)
    obtain ⟨⟨a1, a2⟩, _⟩ := a
    obtain ⟨⟨b1, b2⟩, _⟩ := b
    simp [KF] at this
    exact Subtype.ext (by simp [this])
  cln _ := rfl
  one a u hu := by simp [KF] at hu; rcases hu with rfl | rfl <;> rfl
  zln := rfl
  zne u hu := by simp [KF] at hu; subst hu; rfl
  ul := Try.underlying72
  um := Try.underlying71
  inf := by obtain ⟨i0, hi, hz0, hz1, hz2⟩ := info_parts infoF; exact ⟨i0, hi, hz0, hz1, by omega⟩
  ne := by decide
end Qu
end Go.Proofs.Ytobmnkoohgkiiaa
