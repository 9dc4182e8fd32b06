/- Chapter 8's laws: lists of numbers, read (for a seat in which 'ints' is not reached: beside QInt and QRmW it is not imported). -/
import Derived.Test.YtcopldjnkngjcabQFil
namespace Go.Proofs.Ytcopldjnkngjcab
namespace Qu
open Go.RowKit

/-- a list of numbers in memory -/
structure RdZ (w : World) (a : Option Addr) (n c : Nat) (z : List Int) : Prop where
  len : n = z.length
  cap : n ≤ c
  rd : ∀ j x, z[j]? = some x → ∃ g off, a = some ⟨g, off, none⟩ ∧ w.cell? ⟨g, off + j, none⟩ = some (.int .i64 x)
theorem RdZ.far {w w' : World} {a : Option Addr} {n c : Nat} {z : List Int} (h : RdZ w a n c z) {T : Nat → Prop} (hk : Keep T w w') (hT : ∀ g off, a = some ⟨g, off, none⟩ → 0 < z.length → ¬ T g) : RdZ w' a n c z :=
  ⟨h.len, h.cap, fun j x hj => by
    obtain ⟨g, off, e1, e2⟩ := h.rd j x hj
    exact ⟨g, off, e1, hk.cell e2 (hT g off e1 (by have := (List.getElem?_eq_some_iff.1 hj).1; omega))⟩⟩
theorem RdZ.new {w w' : World} {a : Option Addr} {n c : Nat} {z : List Int} (h : RdZ w a n c z) (hk : Keep (fun _ => False) w w') : RdZ w' a n c z := h.far hk fun _ _ _ _ f => f
theorem RdZ.ofOwns {w : World} {B : Nat} {a : Option Addr} {n c : Nat} {z : List Int} (h : w.ownsRow B 3 1 (.slice a n c) n (z.map (Value.int .i64))) : RdZ w a n c z := by
  have hl : n = z.length := by have := h.1; simp at this; omega
  rcases h.2 with ⟨e1, e2⟩ | ⟨g, cap, cur, e1, e2, e3, e4, e5, e6, e7⟩
  · injection e1 with e1 e1' e1''
    subst e1'
    refine ⟨hl, by omega, fun j x hj => ?_⟩
    rw [List.eq_nil_of_length_eq_zero hl.symm] at hj
    simp at hj
  · injection e1 with e1 _ e8
    subst e8
    refine ⟨hl, e4, fun j x hj => ⟨g, 0, e1, ?_⟩⟩
    rw [Nat.zero_add]
    refine cell_blk e3 j ?_
    have h2 : (z.map (Value.int .i64))[j]? = some (.int .i64 x) := by simp [hj]
    rw [← e7, List.getElem?_take] at h2
    split at h2
    · simpa using h2
    · cases h2

/-- a row as numbers -/
def pairs (r : List (Nat × Int)) : List Int := r.flatMap fun e => [(e.1 : Int), e.2]
theorem flat_pairs (r : List (Nat × Int)) : flat KI r = (pairs r).map (Value.int .i64) := by
  induction r with
  | nil => rfl
  | cons e r ih =>
    rw [flat_cons, ih]
    rfl
theorem pairs_length (r : List (Nat × Int)) : (pairs r).length = r.length * 2 := by
  have h := congrArg List.length (flat_pairs r)
  rw [List.length_map, flat_length okI.cln] at h
  exact h.symm
theorem pairs_append (r t : List (Nat × Int)) : pairs (r ++ t) = pairs r ++ pairs t := by simp [pairs]

theorem RdQ.more {B B' n : Nat} {w : World} {a : Option Addr} {l : List Sp} (h : RdQ B w a n l) (hB : B ≤ B') : RdQ B' w a n l :=
  ⟨h.len, h.few, h.inn, fun j x hj => by obtain ⟨g, off, e1, e2, e3⟩ := h.rd j x hj; exact ⟨g, off, e1, Nat.lt_of_lt_of_le e2 hB, e3⟩⟩

theorem pairs_at {r : List (Nat × Int)} {i n : Nat} {k : Int} (h : r[i]? = some (n, k)) : (pairs r)[i * 2]? = some (n : Int) ∧ (pairs r)[i * 2 + 1]? = some k := by
  have h0 := flat_at okI.cln h (j := 0) (by decide)
  have h1 := flat_at okI.cln h (j := 1) (by decide)
  rw [flat_pairs, List.getElem?_map] at h0 h1
  have e0 : (pairs r)[i * 2]?.map (Value.int .i64) = some (.int .i64 (n : Int)) := h0
  have e1 : (pairs r)[i * 2 + 1]?.map (Value.int .i64) = some (.int .i64 k) := h1
  obtain ⟨x, hx, ex⟩ := Option.map_eq_some_iff.1 e0
  obtain ⟨y, hy, ey⟩ := Option.map_eq_some_iff.1 e1
  injection ex with _ ex
  injection ey with _ ey
  exact ⟨by rw [hx, ex], by rw [hy, ey]⟩

end Qu
end Go.Proofs.Ytcopldjnkngjcab
