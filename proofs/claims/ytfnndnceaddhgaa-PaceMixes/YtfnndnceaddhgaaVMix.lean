/- PaceMixes: the walk. -/
import Derived.Test.YtfnndnceaddhgaaVRef
import Derived.Test.YtfnndnceaddhgaaVKno
import Derived.Deep.RegionHeld3
namespace Go.Proofs.Ytfnndnceaddhgaa
open Go.RowKit

/-- what a slice of words reads -/
def RdU (w : World) (a : Option Addr) (n : Nat) (z : List Nat) : Prop :=
  n ≤ 9223372036854775806 ∧ (∀ i, z.getD i 0 < 18446744073709551616) ∧ (n = 0 ∨ ∃ b off, a = some ⟨b, off, none⟩ ∧ b < w.heap.size ∧ ∀ i, i < n → w.cell? ⟨b, off + i, none⟩ = some (.int .u64 (z.getD i 0 : Nat)))
theorem RdU.keep {w w' : World} {a : Option Addr} {n : Nat} {z : List Nat} (h : RdU w a n z) (hb : Below w.heap.size w w') : RdU w' a n z := by
  obtain ⟨h1, h2, h3⟩ := h
  refine ⟨h1, h2, ?_⟩
  rcases h3 with h3 | ⟨b, off, rfl, hl, h3⟩
  · exact .inl h3
  · exact .inr ⟨b, off, rfl, Nat.lt_of_lt_of_le hl hb.size, fun i hi => by rw [hb.cell (p := ⟨b, off + i, none⟩) hl]; exact h3 i hi⟩

theorem mixes_walk (la lb : Nat) (a : Option Addr) (n c : Nat) (z : List Nat) (w : World) (_ha : la < 18446744073709551616) (_hb : lb < 18446744073709551616) (hz : RdU w a n z) :
    Calls Try.prog 4 #[.int .u64 la, .int .u64 lb, .slice a n c] w fun e w' => e = .returned (.bool true) ∧ Below w.heap.size w w' := by
  go_enter Try.func4, Try.ntmps4
  go_wp2_with fail
  go_at_call 9
  refine (known_any _).mono ?_
  rintro e w2 ⟨rfl, hbl⟩
  have HB := hide hbl
  obtain ⟨hn, hlt, hcell⟩ := hz.keep hbl
  have HL := hide hlt
  have HC := hide hcell
  clear hbl hz hlt hcell
  go_wp2_with fail
  go_loop [0, 1, 7] (fun x y i => ∃ p q k : Nat, x = .int .u64 p ∧ y = .int .u64 q ∧ i = .int .i64 k ∧ k ≤ n ∧ p < 18446744073709551616 ∧ q < 18446744073709551616) (fun _ _ i => n - (intOf i).toNat)
  case atStart => exact ⟨la, lb, 0, rfl, rfl, rfl, by omega, _ha, _hb⟩
  case round =>
    obtain ⟨p, q, k, rfl, rfl, rfl, hk, hp, hq⟩ := hrel
    by_cases hlt : k < n
    · have hd := HL.out k
      obtain ⟨b, off, rfl, hcl⟩ : ∃ b off, a = some ⟨b, off, none⟩ ∧ w2.cell? ⟨b, off + k, none⟩ = some (.int .u64 (z.getD k 0 : Nat)) := by
        rcases HC.out with h | ⟨b, off, h1, h2, h3⟩
        · omega
        · exact ⟨b, off, h1, h3 k hlt⟩
      generalize z.getD k 0 = d at *
      have m1 := hide (fun w => mix_any p d hd w)
      have m2 := hide (fun w => mix_any q d hd w)
      have r1 := hide (fun w => rmix_any p d hd w)
      have r2 := hide (fun w => rmix_any q d hd w)
      have l1 := V.mix_lt p d
      have l2 := V.mix_lt q d
      generalize V.mix p d = P at *
      generalize V.mix q d = Q at *
      go_wp2_with fail
      go_at_call 10
      refine (m1.out _).mono ?_
      rintro e w3 ⟨rfl, rfl⟩
      go_wp2_with fail
      go_at_call 10
      refine (m2.out _).mono ?_
      rintro e w3 ⟨rfl, rfl⟩
      go_wp2_with fail
      go_at_call 11
      refine (r1.out _).mono ?_
      rintro e w3 ⟨rfl, rfl⟩
      go_wp2_with fail
      go_at_call 11
      refine (r2.out _).mono ?_
      rintro e w3 ⟨rfl, rfl⟩
      go_wp2_with fail
      go_at_call 10
      refine (m1.out _).mono ?_
      rintro e w3 ⟨rfl, rfl⟩
      go_wp2_with fail
      exact ⟨⟨P, Q, k + 1, rfl, rfl, by go_num, by omega, l1, l2⟩, by simp [intOf]; omega⟩
    · go_wp2
      go_ret
      exact ⟨rfl, HB.out⟩
end Go.Proofs.Ytfnndnceaddhgaa
