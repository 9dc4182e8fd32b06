/- The law's same: two rows of nodes. -/
import Derived.Test.YtfnndnceaddhgaaVBnM
namespace Go.Proofs.Ytfnndnceaddhgaa
open Go.RowKit

set_option maxRecDepth 100000 in
set_option maxHeartbeats 2000000 in
theorem same_any (a b : Option Addr) (n c c' : Nat) (qs : List V.Nd) (w : World) (ha : RdN w a n qs) (hb : RdN w b n qs) :
    Calls Try.prog 31 #[.slice a n c, .slice b n c'] w fun e w' => e = .returned (.bool true) ∧ Below w.heap.size w w' := by
  obtain ⟨hn, hn2, hi1, hqa⟩ := ha
  obtain ⟨hn', hn2', hi2, hqb⟩ := hb
  have HN := hide hn
  have HA := hide hqa
  have HB := hide hqb
  clear hn hqa hqb hn' hn2' hi1 hi2
  go_enter Try.func31, Try.ntmps31
  go_wp2_with fail
  go_loopw [5] (fun iv wr => ∃ (i : Nat), iv = .int .i64 (i : Nat) ∧ i ≤ n ∧ Hid (Below w.heap.size w wr)) (fun iv _ => n - (intOf iv).toNat)
  case atStart => exact ⟨0, rfl, Nat.zero_le _, Below.refl _ _⟩
  case round =>
    obtain ⟨i, rfl, hi, HI⟩ := hrel
    rcases Nat.lt_or_ge i n with hlt | hlt
    · obtain ⟨ba, oa, rfl, hla, hna⟩ := HA.out.resolve_left (by omega)
      obtain ⟨bb, ob, rfl, hlb, hnb⟩ := HB.out.resolve_left (by omega)
      have hlen := HN.out
      obtain ⟨q, hq⟩ : ∃ q, qs[i]? = some q := ⟨_, List.getElem?_eq_getElem (by omega)⟩
      have hNa := (hna i q hq).keep HI.out
      have hNb := (hnb i q hq).keep HI.out
      clear hna hnb hlen hq
      obtain ⟨n0, n1, n2, n3, n4, n5, n6, n7, n8, n9⟩ := hNa.all
      have KA := hide (HI.out.alloc HI.out.size (Obj.cells q.row.toArray 31))
      have hNb2 := hNb.keep ((Below.refl wr.heap.size wr).alloc (Nat.le_refl _) (Obj.cells q.row.toArray 31))
      obtain ⟨m0, m1, m2, m3, m4, m5, m6, m7, m8, m9⟩ := hNb2.all
      have KB := hide (KA.out.alloc KA.out.size (Obj.cells q.row.toArray 31))
      obtain ⟨nq, la, bu, cl, be, ba_, ca, ji, ⟨ne1, ne2, ne3⟩, ⟨af1, af2, af3⟩⟩ := q
      simp only [V.Nd.row] at *
      go_wp2_with fail
      exact ⟨⟨i + 1, by go_num, by omega, KB.out⟩, by simp [intOf]; omega⟩
    · go_wp2_with fail
      go_ret
      exact ⟨rfl, HI.out⟩
end Go.Proofs.Ytfnndnceaddhgaa
