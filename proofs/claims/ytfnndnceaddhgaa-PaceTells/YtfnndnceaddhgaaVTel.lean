/- PaceTells: the walk. -/
import Derived.Test.YtfnndnceaddhgaaVAn2
import Derived.Test.YtfnndnceaddhgaaVAn3
import Derived.Deep.MidRow
namespace Go.Proofs.Ytfnndnceaddhgaa
open Go.RowKit

theorem answered_any (q : V.Ak) (qs : List V.Nd) (w : World) (hI : V.Ak.In q) (hqs : RdN w q.sl.1 q.sl.2.1 qs) (hsm : q.sl.2.1 ≤ 1172812402926) :
    Calls Try.prog 12 #[.agg q.row.toArray] w fun e w' => e = .returned (.bool true) ∧ Below w.heap.size w w' := by
  have lp := V.pk_lt q.kind 4 (by decide)
  rcases (show V.pk q.kind 4 = 0 ∨ V.pk q.kind 4 = 1 ∨ V.pk q.kind 4 = 2 ∨ V.pk q.kind 4 = 3 by omega) with h | h | h | h
  · exact answered_0 q qs w h hI hqs hsm
  · exact answered_1 q qs w h hI hqs hsm
  · exact answered_2 q qs w h hI hqs hsm
  · exact answered_3 q qs w h hI hqs hsm

/-- a script of questions, in memory -/
def RdA (w : World) (a : Option Addr) (n : Nat) (As : List (V.Ak × List V.Nd)) : Prop :=
  n = As.length ∧ n ≤ 1000000000000 ∧ (n = 0 ∨ ∃ b off, a = some ⟨b, off, none⟩ ∧ b < w.heap.size ∧ ∀ i q, As[i]? = some q → V.Ak.In q.1 ∧ q.1.sl.2.1 ≤ 1172812402926 ∧ RdN w q.1.sl.1 q.1.sl.2.1 q.2 ∧ ∀ j v, q.1.row[j]? = some v → w.cell? ⟨b, off + i * 23 + j, none⟩ = some v)
theorem RdA.keep {w w' : World} {a : Option Addr} {n : Nat} {As : List (V.Ak × List V.Nd)} (h : RdA w a n As) (hb : Below w.heap.size w w') : RdA w' a n As := by
  obtain ⟨h1, h2, h3⟩ := h
  refine ⟨h1, h2, ?_⟩
  rcases h3 with h3 | ⟨b, off, rfl, hl, h3⟩
  · exact .inl h3
  · refine .inr ⟨b, off, rfl, Nat.lt_of_lt_of_le hl hb.size, fun i q hq => ?_⟩
    obtain ⟨g1, g2, g3, g4⟩ := h3 i q hq
    exact ⟨g1, g2, g3.keep hb, fun j v hv => by rw [hb.cell (p := ⟨b, off + i * 23 + j, none⟩) hl]; exact g4 j v hv⟩

theorem info_ask : (Try.prog.info? 36).map (·.size) = some 23 := by kernel_rfl
set_option maxRecDepth 100000 in
set_option maxHeartbeats 4000000 in
theorem tells_walk (a : Option Addr) (n c : Nat) (As : List (V.Ak × List V.Nd)) (w : World) (hA : RdA w a n As) :
    Calls Try.prog 5 #[.slice a n c] w fun e w' => e = .returned (.bool true) ∧ Below w.heap.size w w' := by
  have hn2 := hA.2.1
  have HN := hide hA.1
  have HA := hide hA
  clear hA
  go_enter Try.func5, Try.ntmps5
  go_wp2_with fail
  go_at_call 9
  refine (known_any _).mono ?_
  rintro e w2 ⟨rfl, hbl⟩
  have HB := hide hbl
  clear hbl
  go_wp2_with fail
  go_loopw [3] (fun iv wr => ∃ (i : Nat), iv = .int .i64 (i : Nat) ∧ i ≤ 2 * n ∧ Hid (Below w.heap.size w wr)) (fun iv _ => 2 * n - (intOf iv).toNat)
  case atStart => exact ⟨0, rfl, Nat.zero_le _, HB.out⟩
  case round =>
    obtain ⟨i, rfl, hi, HI⟩ := hrel
    rcases Nat.lt_or_ge i (2 * n) with hlt | hlt
    · have hR := HA.out.keep HI.out
      obtain ⟨b, off, rfl, hbl, hall⟩ := hR.2.2.resolve_left (by omega)
      have hn0 : 0 < n := by omega
      have hmn : i % n < n := Nat.mod_lt _ hn0
      have hlen := HN.out
      obtain ⟨⟨q, qs⟩, hq⟩ : ∃ q, As[i % n]? = some q := ⟨_, List.getElem?_eq_getElem (by omega)⟩
      obtain ⟨g1, g2, g3, hrow⟩ := hall _ _ hq
      simp only at g1 g2 g3 hrow
      have AN := hide (answered_any q qs wr g1 g3 g2)
      have hmod : (i : Int) % (n : Int) = ((i % n : Nat) : Int) := by rw [Int.natCast_emod]
      have hnz : ¬ (n : Int) = 0 := by omega
      clear g1 g2 g3 hall hlen hq hR
      generalize i % n = m at *
      have HRW : Hid (wr.rangeAt b (off + m * 23) q.row) := hrow
      have HI3 := hide (show (Try.prog.info? 36).map (·.size) = some q.row.length by rw [info_ask]; rfl)
      generalize q.row = cs at *
      clear hrow
      go_wp2_with (refine wpList_load_mid rfl 36 _ rfl b (off + m * 23) rfl cs _ HRW.out Try.underlying36 rfl HI3.out ?_)
      go_at_call 12
      refine AN.out.mono ?_
      rintro e w3 ⟨rfl, hb3⟩
      have K3 := hide (HI.out.trans (hb3.mono HI.out.size))
      clear hb3
      go_wp2_with fail
      exact ⟨⟨i + 1, by go_num, by omega, K3.out⟩, by simp [intOf]; omega⟩
    · go_wp2_with fail
      go_ret
      exact ⟨rfl, HI.out⟩
end Go.Proofs.Ytfnndnceaddhgaa
