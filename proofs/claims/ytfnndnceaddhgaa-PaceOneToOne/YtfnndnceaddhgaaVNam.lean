/- PaceNames, PaceOneToOne: the walks. -/
import Derived.Test.YtfnndnceaddhgaaVKno
import Derived.Deep.RegionHeld3
namespace Go.Proofs.Ytfnndnceaddhgaa
open Go.RowKit

theorem names_walk (w : World) :
    Calls Try.prog 3 #[] w fun e w' => e = .returned (.bool true) ∧ Below w.heap.size w w' := by
  go_enter Try.func3, Try.ntmps3
  go_wp2_with fail
  go_at_call 9
  refine (known_any _).mono ?_
  rintro e w2 ⟨rfl, hb⟩
  have HB := hide hb
  clear hb
  go_wp2_with fail
  go_ret
  exact ⟨rfl, HB.out⟩

theorem one_walk (a b x y : Nat) (w : World) (ha : a < 18446744073709551616) (hb : b < 18446744073709551616) (hx : x < 18446744073709551616) (hy : y < 18446744073709551616) :
    Calls Try.prog 6 #[.agg #[.int .u64 a, .int .u64 b, .int .u64 x, .int .u64 y]] w fun e w' => e = .returned (.bool true) ∧ Below w.heap.size w w' := by
  have m1 := hide (fun w => mix_any a x hx w)
  have m2 := hide (fun w => mix_any b x hx w)
  have m3 := hide (fun w => mix_any a y hy w)
  have E1 := hide (V.mix_luck a b x ha hb hx)
  have E2 := hide (V.mix_draw a x y hx hy)
  generalize V.mix a x = p at *
  generalize V.mix b x = q at *
  generalize V.mix a y = r at *
  go_enter Try.func6, Try.ntmps6
  go_wp2_with fail
  go_at_call 10
  refine (m1.out _).mono ?_
  rintro e w3 ⟨rfl, rfl⟩
  go_wp2_with fail
  obtain ⟨v1, e1, f1⟩ : ∃ v1, ((p : Int) == (q : Int)) = v1 ∧ ((a : Int) == (b : Int)) = v1 := by
    refine ⟨_, rfl, ?_⟩
    have := E1.out
    rw [Bool.eq_iff_iff, beq_iff_eq, beq_iff_eq]; omega
  obtain ⟨v2, e2, f2⟩ : ∃ v2, ((p : Int) == (r : Int)) = v2 ∧ ((x : Int) == (y : Int)) = v2 := by
    refine ⟨_, rfl, ?_⟩
    have := E2.out
    rw [Bool.eq_iff_iff, beq_iff_eq, beq_iff_eq]; omega
  clear E1 E2
  have C0 := hide (show ∀ wx, Below (w.heap.size + 1) (w.alloc (Obj.cells #[.int .u64 a, .int .u64 b, .int .u64 x, .int .u64 y] 39)) wx → wx.cell? ⟨w.heap.size, 0, none⟩ = some (.int .u64 a) ∧ wx.cell? ⟨w.heap.size, 1, none⟩ = some (.int .u64 b) ∧ wx.cell? ⟨w.heap.size, 2, none⟩ = some (.int .u64 x) ∧ wx.cell? ⟨w.heap.size, 3, none⟩ = some (.int .u64 y) from fun wx hb => by
    refine ⟨?_, ?_, ?_, ?_⟩ <;> (rw [hb.cell (by simp), World.cell?_alloc_mark]; rfl))
  have K0 := hide (Below.refl (w.heap.size + 1) (w.alloc (Obj.cells #[.int .u64 a, .int .u64 b, .int .u64 x, .int .u64 y] 39)))
  have KW := hide ((Below.refl w.heap.size w).alloc (Nat.le_refl _) (Obj.cells #[.int .u64 a, .int .u64 b, .int .u64 x, .int .u64 y] 39))
  generalize hw1 : w.alloc (Obj.cells #[.int .u64 a, .int .u64 b, .int .u64 x, .int .u64 y] 39) = w1 at *
  have hs1 : w1.heap.size = w.heap.size + 1 := by rw [← hw1]; simp
  have HS1 := hide hs1
  clear hw1 hs1
  go_region_held3 (fun wx => wx.cell? ⟨w.heap.size, 0, none⟩ = some (.int .u64 a) ∧ wx.cell? ⟨w.heap.size, 1, none⟩ = some (.int .u64 b) ∧ wx.cell? ⟨w.heap.size, 2, none⟩ = some (.int .u64 x) ∧ wx.cell? ⟨w.heap.size, 3, none⟩ = some (.int .u64 y)) (first | (exact C0.out _ K0.out.drew) | (exact C0.out _ K1.out) | go_keep) (first
    | (go_at_call 9
       refine (known_any _).mono ?_
       rintro e w2 ⟨rfl, hb2⟩
       have K1 := hide (K0.out.drew.trans (hb2.mono (show w.heap.size + 1 ≤ w1.heap.size by have := HS1.out; omega)))
       have K2 := hide (KW.out.drew.trans (hb2.mono (show w.heap.size ≤ w1.heap.size by have := HS1.out; omega)))
       clear hb2)
    | (go_at_call 10; refine ((fun (_ : True) w => m3.out w) T2 _).mono ?_; rintro e w3 ⟨rfl, rfl⟩)
    | (go_at_call 10; refine (m2.out _).mono ?_; rintro e w3 ⟨rfl, rfl⟩; have T2 := True.intro))
  go_wp2_with fail
  go_ret
  exact ⟨rfl, K2.out⟩
end Go.Proofs.Ytfnndnceaddhgaa
