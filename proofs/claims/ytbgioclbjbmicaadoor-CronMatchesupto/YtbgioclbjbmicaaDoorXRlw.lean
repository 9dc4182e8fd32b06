/- The laws' own read and refused. -/
import Derived.Test.YtbgioclbjbmicaaDoorXRs7
import Derived.Test.YtbgioclbjbmicaaDoorXParse
namespace Go.Proofs.YtbgioclbjbmicaaDoor
open Go.RowKit

theorem parse_err' {s : List UInt8} {n : Nat} (h : X.parse s = .inl n) : n = 40 ∨ n = 41 := by
  unfold X.parse at h
  split at h
  · injection h with h; exact .inl h.symm
  · split at h
    · injection h with h; exact .inr h.symm
    · cases h
set_option maxHeartbeats 2000000 in
set_option maxRecDepth 100000 in
theorem refused_any (s : ByteArray) (hs : s.size ≤ 1048576) (n : Nat) (hn : X.parse s.data.toList = .inl n) (w : World) (hE : Env w) :
    Calls Tryd.prog 9 #[.string s] w fun e w' => e = .returned (.bool true) ∧ Below w.heap.size w w' := by
  have HN := hide hn
  have h40 := parse_err' hn
  clear hn
  go_enter Tryd.func9, Tryd.ntmps9
  go_wp2_with fail
  go_at_call 21
  refine (parse_any s w hE).mono ?_
  rintro e w1 ⟨hp, hb1⟩
  rw [HN.out] at hp
  have hp' : e = .returned (.tuple #[.pointer none, .int .i64 n]) := hp
  subst hp'
  go_wp2_with fail
  go_at_call 22
  refine (refParse_any s hs w1).mono ?_
  rintro e w2 ⟨hq, hb2⟩
  rw [HN.out] at hq
  have hq' : e = .returned (.tuple #[none5, .int .i64 n]) := hq
  subst hq'
  unfold none5
  have HB := hide (hb1.trans (hb2.mono hb1.size))
  have hsz := HB.out.size
  clear hb1 hb2 hp hq
  have n0 : ((n : Int) == 0) = false := by simp; omega
  have n1 : ((n : Int) != 0) = true := by simp; omega
  go_wp2_with fail
  go_ret
  exact ⟨rfl, by first | exact Below.put HB.out _ | exact ((((((Below.put HB.out _).setCell hsz _).setCell hsz _).setCell hsz _).setCell hsz _).setCell hsz _)⟩
end Go.Proofs.YtbgioclbjbmicaaDoor
