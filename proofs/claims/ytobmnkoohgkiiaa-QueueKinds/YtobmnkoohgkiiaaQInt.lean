/- Chapter 8's laws: lists of numbers, read and compared. -/
import Derived.Test.YtobmnkoohgkiiaaQFil
namespace Go.Proofs.Ytobmnkoohgkiiaa
namespace Qu
open Go.RowKit

/-- a list of numbers in memory -/
structure RdZ (w : World) (a : Option Addr) (n c : Nat) (z : List Int) : Prop where
  len : n = z.length
  cap : n ≤ c
  rd : ∀ j x, z[j]? = some x → ∃ g off, a = some ⟨g, off, none⟩ ∧ w.cell? ⟨g, off + j, none⟩ = some (.int .i64 x)
theorem RdZ.far {w w' : World} {a : Option Addr} {n c : Nat} {z : List Int} (h : RdZ w a n c z) {T : Nat → Prop} (hk : Keep T w w') (hT : ∀ g off, a = some ⟨g, off, none⟩ → 0 < z.length → ¬ T g) : RdZ w' a n c z :=
  ⟨h.len, h.cap, fun j x hj => by
    obtain ⟨g, off, e1, e2⟩ := h.rd j x hj
    exact ⟨g, off, e1, hk.cell e2 (hT g off e1 (by have := (List.getElem?_eq_some_iff.1 hj).1; omega))⟩⟩
theorem RdZ.new {w w' : World} {a : Option Addr} {n c : Nat} {z : List Int} (h : RdZ w a n c z) (hk : Keep (fun _ => False) w w') : RdZ w' a n c z := h.far hk fun _ _ _ _ f => f
theorem RdZ.ofOwns {w : World} {B : Nat} {a : Option Addr} {n c : Nat} {z : List Int} (h : w.ownsRow B 3 1 (.slice a n c) n (z.map (Value.int .i64))) : RdZ w a n c z := by
  have hl : n = z.length := by have := h.1; simp at this; omega
  rcases h.2 with ⟨e1, e2⟩ | ⟨g, cap, cur, e1, e2, e3, e4, e5, e6, e7⟩
  · injection e1 with e1 e1' e1''
    subst e1'
    refine ⟨hl, by omega, fun j x hj => ?_⟩
    rw [List.eq_nil_of_length_eq_zero hl.symm] at hj
    simp at hj
  · injection e1 with e1 _ e8
    subst e8
    refine ⟨hl, e4, fun j x hj => ⟨g, 0, e1, ?_⟩⟩
    rw [Nat.zero_add]
    refine cell_blk e3 j ?_
    have h2 : (z.map (Value.int .i64))[j]? = some (.int .i64 x) := by simp [hj]
    rw [← e7, List.getElem?_take] at h2
    split at h2
    · simpa using h2
    · cases h2

/-- a row as numbers -/
def pairs (r : List (Nat × Int)) : List Int := r.flatMap fun e => [(e.1 : Int), e.2]
theorem flat_pairs (r : List (Nat × Int)) : flat KI r = (pairs r).map (Value.int .i64) := by
  induction r with
  | nil => rfl
  | cons e r ih =>
    rw [flat_cons, ih]
    rfl
theorem pairs_length (r : List (Nat × Int)) : (pairs r).length = r.length * 2 := by
  have h := congrArg List.length (flat_pairs r)
  rw [List.length_map, flat_length okI.cln] at h
  exact h.symm
theorem pairs_append (r t : List (Nat × Int)) : pairs (r ++ t) = pairs r ++ pairs t := by simp [pairs]

set_option maxRecDepth 100000 in
set_option maxHeartbeats 4000000 in
theorem ints_same {a b : Option Addr} {n c m d : Nat} {z : List Int} (w : World) (h1 : RdZ w a n c z) (h2 : RdZ w b m d z) (hz : z.length ≤ 8796093022208) :
    Calls Try.prog 18 #[.slice a n c, .slice b m d] w fun e w' => e = .returned (.bool true) ∧ Keep (fun _ => False) w w' := by
  obtain rfl : n = m := by rw [h1.len, h2.len]
  have H1 := hide h1
  have H2 := hide h2
  have hn := h1.len
  clear h1 h2
  go_enter Try.func18, Try.ntmps18
  go_wp2
  go_loopw [5] (fun s5 wr => ∃ i : Nat, s5 = .int .i64 (i : Nat) ∧ i ≤ n ∧ Hid (Keep (fun _ => False) w wr)) (fun s5 _ => n - (intOf s5).toNat)
  case atStart => exact ⟨0, rfl, Nat.zero_le _, Keep.refl _ _⟩
  case round =>
    obtain ⟨i, rfl, hi, HK⟩ := hrel
    by_cases hlt : i < n
    · obtain ⟨x, hx⟩ : ∃ x, z[i]? = some x := ⟨z[i]'(by omega), by simp⟩
      obtain ⟨g, off, rfl, e1⟩ := (H1.out.new HK.out).rd i x hx
      obtain ⟨g', off', rfl, e2⟩ := (H2.out.new HK.out).rd i x hx
      clear hx
      go_wp2_with fail
      go_region
      go_wp2
      go_roundw
      · exact ⟨i + 1, rfl, by omega, HK.out.more (Keep.drew _ _)⟩
      · show n - ((i : Int) + 1).toNat < n - (i : Int).toNat
        omega
    · obtain rfl : i = n := by omega
      go_wp2
      go_ret
      exact ⟨rfl, HK.out⟩

end Qu
end Go.Proofs.Ytobmnkoohgkiiaa
