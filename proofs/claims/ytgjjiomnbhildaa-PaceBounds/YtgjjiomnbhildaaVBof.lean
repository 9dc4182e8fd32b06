/- The law's bound; how bounds grow. -/
import Derived.Test.YtgjjiomnbhildaaVBnd
import Derived.Test.YtgjjiomnbhildaaVKno
namespace Go.Proofs.Ytgjjiomnbhildaa
open Go.RowKit

namespace V
theorem cost_mono {q : Nd} {Q Q' : Int} (h : nOk q) (hQ : Q ≤ Q') : cost q Q ≤ cost q Q' := by
  unfold cost
  exact Int.mul_le_mul_of_nonneg_left (by omega) (by have := h.1; omega)
theorem sum_mono {qs : List Nd} {Q Q' : Int} (h : ∀ q ∈ qs, nOk q) (hQ : Q ≤ Q') : sumC qs Q ≤ sumC qs Q' := by
  induction qs with
  | nil => simp [sumC]
  | cons q qs ih =>
    have i := ih fun x hx => h x (List.mem_cons_of_mem _ hx)
    have c := cost_mono (h q (List.mem_cons_self ..)) hQ
    simp only [sumC, List.map_cons, List.sum_cons] at i ⊢
    omega
theorem sum_append (qs rs : List Nd) (Q : Int) : sumC (qs ++ rs) Q = sumC qs Q + sumC rs Q := by simp [sumC]
theorem sum_reverse (qs : List Nd) (Q : Int) : sumC qs.reverse Q = sumC qs Q := by
  induction qs with
  | nil => rfl
  | cons q qs ih => rw [List.reverse_cons, sum_append, ih]; simp [sumC]; omega
theorem sum_one (q : Nd) (Q : Int) : sumC [q] Q = cost q Q := by simp [sumC]
theorem sum_take {qs : List Nd} {Q : Int} (k : Nat) (h : ∀ q ∈ qs, nOk q) (hQ0 : 0 ≤ Q) (hQ : Q ≤ 1126999418470400) : sumC (qs.take k) Q ≤ sumC qs Q := by
  have e : sumC qs Q = sumC (qs.take k) Q + sumC (qs.drop k) Q := by rw [← sum_append, List.take_append_drop]
  have := (sum_in (qs := qs.drop k) (fun q hq => h q (List.mem_of_mem_drop hq)) hQ0 hQ).1
  omega
/-- what a ready task may wait for its poll -/
theorem poll_in {g a : Int} (h1 : 1 ≤ g) (h2 : g ≤ 1099511627776) (h3 : 0 ≤ a) (h4 : a ≤ 1024) : 0 ≤ (a + 1) * g ∧ (a + 1) * g ≤ 1126999418470400 := by
  have a1 := Int.mul_nonneg (show 0 ≤ a + 1 by omega) (show 0 ≤ g by omega)
  have a2 := Int.mul_le_mul (show a + 1 ≤ (1025 : Int) by omega) h2 (by omega) (by decide)
  omega
theorem poll_gap (g a : Int) (h3 : 0 ≤ a) : (a + 1) * g ≤ (a + 1) * (g + 1) := Int.mul_le_mul_of_nonneg_left (by omega) (by omega)
theorem poll_ahead (g a : Int) (h1 : 0 ≤ g) : (a + 1) * g ≤ (a + 1 + 1) * g := Int.mul_le_mul_of_nonneg_right (by omega) h1
end V

theorem boundOf_any (nm : ByteArray) (dl : Int) (a : Option Addr) (n c : Nat) (qs : List V.Nd) (g ah : Int) (w : World) (hqs : RdN w a n qs) (hB : V.okB dl g ah qs.length) (hall : ∀ q ∈ qs, V.nOk q) :
    Calls Try.prog 11 #[.agg #[.string nm, .int .i64 dl, .slice a n c], .int .i64 g, .int .i64 ah] w fun e w' => e = .returned (.int .i64 (min dl (V.sumC qs ((ah + 1) * g)))) ∧ Below w.heap.size w w' := by
  have B := hide (bound_all nm dl a n c qs g ah (w.alloc (.cells #[.string nm, .int .i64 dl, .slice a n c] 37)) (hqs.keep ((Below.refl _ _).alloc (Nat.le_refl _) _)))
  rw [bndI_pos hB hall] at B
  generalize min dl (V.sumC qs ((ah + 1) * g)) = r at *
  have KW := hide ((Below.refl w.heap.size w).alloc (Nat.le_refl _) (.cells #[.string nm, .int .i64 dl, .slice a n c] 37))
  clear hqs hB hall
  go_enter Try.func11, Try.ntmps11
  go_wp2_with fail
  go_at_call 17
  refine B.out.mono ?_
  rintro e w2 ⟨rfl, hb2⟩
  have K2 := hide (KW.out.trans (hb2.mono KW.out.size))
  clear hb2 KW B
  go_wp2_with fail
  go_ret
  exact ⟨rfl, K2.out⟩
end Go.Proofs.Ytgjjiomnbhildaa
