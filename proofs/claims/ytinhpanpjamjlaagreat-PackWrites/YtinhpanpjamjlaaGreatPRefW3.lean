/- The document's writer: texts. -/
import Derived.Test.YtinhpanpjamjlaaGreatPRefW2
import Derived.Test.YtinhpanpjamjlaaGreatPRefWb
import Derived.Test.YtinhpanpjamjlaaGreatPText
import Derived.Lib.ConvBytes
namespace Go.Proofs.YtinhpanpjamjlaaGreat
open Go.RowKit

theorem conv_below (w : World) (e : TypeId) (t : ByteArray) : Below w.heap.size w (Lib.bytesWorld w e t) := by
  refine ⟨rfl, rfl, rfl, ?_, fun k hk => Lib.bytesWorld_at_old w e t k hk⟩
  have := (Array.getElem?_eq_some_iff.1 (Lib.bytesWorld_at_new w e t)).1
  omega
theorem bytes_rd (w : World) (e : TypeId) (t : ByteArray) (ht : t.size ≤ 140737488351232) : Rd (Lib.bytesWorld w e t) (some ⟨w.heap.size, 0, none⟩) t.size (sb t) := by
  refine ⟨(sb_len t).symm, by omega, sb_lt t, .inr ⟨w.heap.size, 0, rfl, fun i hi => ?_⟩⟩
  rw [cell_of_row _ _ _ _ _ _ (Lib.bytesWorld_at_new w e t)]
  have hs : i < t.data.size := hi
  unfold Lib.bytesCells
  rw [Nat.zero_add, Array.getElem?_append_left (by simpa using hs)]
  have hg := Array.getElem?_eq_getElem hs
  simp [sb, hg]

theorem RText_any (S : Nat → Prop) (w0 : World) (p : Nat) (most : Int) (t : ByteArray) (ht : t.size ≤ 140737488351232) (s : K.WS) (w : World) (h : VAt S w0 p s w) :
    Calls Tryz.prog 51 #[.pointer (some ⟨p, 0, none⟩), .int .i64 most, .string t] w fun en w' => en = .returned (.tuple #[]) ∧ VAt S w0 p (putW (textW most (sb t)) s) w' := by
  have hconv : ∀ w : World, (convert 9 30 (.string t)).run Tryz.prog w = .ok (.slice (some ⟨w.heap.size, 0, none⟩) t.size (grownCap w t.size 0 5)) (Lib.bytesWorld w 5 t) :=
    fun w => Lib.run_convert_string_bytes w 9 30 5 t Tryz.underlying9 Tryz.underlying30 Tryz.underlying5
  have HH := hide h
  have HC := hide (conv_below w 5 t)
  have HR := hide (bytes_rd w 5 t ht)
  clear h
  generalize hs' : putW (textW most (sb t)) s = s'
  have HS := hide hs'
  clear hs'
  go_enter Tryz.func51, Tryz.ntmps51
  go_wp2_with fail
  refine (RBlob_any S w0 p most _ t.size _ (sb t) s _ (HH.out.below HC.out) HR.out (fun e => by cases e) ht).mono ?_
  rintro e w2 ⟨rfl, h1⟩
  rw [HS.out] at h1
  have H1 := hide h1
  clear h1
  go_wp2_with fail
  first | go_end0 | refine bodyPost_ret (results_none rfl _ _ _) rfl ?_
  exact ⟨rfl, H1.out⟩
end Go.Proofs.YtinhpanpjamjlaaGreat
