/- Bound: the mathematics; nodes in memory; isSpan, isBounded. -/
import Derived.Test.YtgjjiomnbhildaaVWai
import Derived.Deep.RegionHeld3
namespace Go.Proofs.Ytgjjiomnbhildaa
open Go.RowKit

namespace V
def nOk (q : Nd) : Prop := 1 ≤ q.bu ∧ q.bu ≤ 100 ∧ 1 ≤ q.cl ∧ q.cl ≤ 1099511627776 ∧ 1 ≤ q.ca ∧ q.ca ≤ 1099511627776 ∧ 0 ≤ q.ji ∧ q.ji ≤ 1099511627776
/-- what a node's attempts can take, each waiting Q for its poll -/
def cost (q : Nd) (Q : Int) : Int := q.bu * (q.cl + q.ca + q.ji + Q)
def sumC (qs : List Nd) (Q : Int) : Int := (qs.map fun q => cost q Q).sum
def okB (dl g a : Int) (n : Nat) : Prop := (1 ≤ g ∧ g ≤ 1099511627776) ∧ (0 ≤ a ∧ a ≤ 1024) ∧ (1 ≤ dl ∧ dl ≤ 1099511627776) ∧ n ≤ 64
open Classical in
noncomputable def bndI (dl : Int) (qs : List Nd) (g a : Int) : Int × Int := if okB dl g a qs.length ∧ ∀ q ∈ qs, nOk q then (min dl (sumC qs ((a + 1) * g)), 0) else (0, 90)

theorem cost_in {q : Nd} {Q : Int} (h : nOk q) (hQ0 : 0 ≤ Q) (hQ : Q ≤ 1126999418470400) : 0 ≤ q.cl + q.ca + q.ji + Q ∧ q.cl + q.ca + q.ji + Q ≤ 1130297953353728 ∧ 0 ≤ cost q Q ∧ cost q Q ≤ 113029795335372800 := by
  obtain ⟨h1, h2, h3, h4, h5, h6, h7, h8⟩ := h
  have a1 : 0 ≤ q.cl + q.ca + q.ji + Q := by omega
  have a2 : q.cl + q.ca + q.ji + Q ≤ 1130297953353728 := by omega
  refine ⟨a1, a2, Int.mul_nonneg (by omega) a1, ?_⟩
  have := Int.mul_le_mul h2 a2 a1 (by decide : (0 : Int) ≤ 100)
  unfold cost
  omega
theorem sum_snoc (qs : List Nd) (q : Nd) (Q : Int) : sumC (qs ++ [q]) Q = sumC qs Q + cost q Q := by simp [sumC]
theorem sum_in {qs : List Nd} {Q : Int} (h : ∀ q ∈ qs, nOk q) (hQ0 : 0 ≤ Q) (hQ : Q ≤ 1126999418470400) : 0 ≤ sumC qs Q ∧ sumC qs Q ≤ 113029795335372800 * qs.length := by
  induction qs with
  | nil => simp [sumC]
  | cons q qs ih =>
    have i := ih fun x hx => h x (List.mem_cons_of_mem _ hx)
    have c := cost_in (h q (List.mem_cons_self ..)) hQ0 hQ
    have e : sumC (q :: qs) Q = cost q Q + sumC qs Q := by simp [sumC]
    rw [e, List.length_cons]
    omega
theorem take_snoc (qs : List Nd) (i : Nat) (q : Nd) (h : qs[i]? = some q) : qs.take (i + 1) = qs.take i ++ [q] := by
  rw [List.take_add_one, h]; rfl
end V

/-- a node, in memory -/
structure NodeAt (w : World) (B o : Nat) (q : V.Nd) : Prop where
  row : ∀ j v, q.row[j]? = some v → w.cell? ⟨B, o + j, none⟩ = some v
  lt : B < w.heap.size
theorem NodeAt.keep {w w' : World} {B o : Nat} {q : V.Nd} (h : NodeAt w B o q) (b : Below w.heap.size w w') : NodeAt w' B o q :=
  ⟨fun j v hv => by rw [b.cell (p := ⟨B, o + j, none⟩) h.lt]; exact h.row j v hv, Nat.lt_of_lt_of_le h.lt b.size⟩
theorem NodeAt.new (w : World) (q : V.Nd) (t : TypeId) : NodeAt (w.alloc (.cells q.row.toArray t)) w.heap.size 0 q :=
  ⟨fun j v hv => by rw [Nat.zero_add, World.cell?_alloc_mark]; simpa using hv, by simp⟩
theorem NodeAt.all {w : World} {B o : Nat} {q : V.Nd} (h : NodeAt w B o q) : w.cell? ⟨B, o, none⟩ = some (.string q.nm) ∧ w.cell? ⟨B, o + 1, none⟩ = some (.int .i64 q.la) ∧ w.cell? ⟨B, o + 2, none⟩ = some (.int .i64 q.bu) ∧ w.cell? ⟨B, o + 3, none⟩ = some (.int .i64 q.cl) ∧ w.cell? ⟨B, o + 4, none⟩ = some (.int .i64 q.be) ∧ w.cell? ⟨B, o + 5, none⟩ = some (.int .i64 q.ba) ∧ w.cell? ⟨B, o + 6, none⟩ = some (.int .i64 q.ca) ∧ w.cell? ⟨B, o + 7, none⟩ = some (.int .i64 q.ji) ∧ w.cell? ⟨B, o + 8, none⟩ = some (.slice q.ne.1 q.ne.2.1 q.ne.2.2) ∧ w.cell? ⟨B, o + 9, none⟩ = some (.slice q.af.1 q.af.2.1 q.af.2.2) :=
  ⟨h.row 0 _ rfl, h.row 1 _ rfl, h.row 2 _ rfl, h.row 3 _ rfl, h.row 4 _ rfl, h.row 5 _ rfl, h.row 6 _ rfl, h.row 7 _ rfl, h.row 8 _ rfl, h.row 9 _ rfl⟩
/-- a row of nodes, in memory -/
def RdN (w : World) (a : Option Addr) (n : Nat) (qs : List V.Nd) : Prop :=
  n = qs.length ∧ n ≤ 9223372036854775806 ∧ (∀ q ∈ qs, V.Nd.In q) ∧ (n = 0 ∨ ∃ b off, a = some ⟨b, off, none⟩ ∧ b < w.heap.size ∧ ∀ i q, qs[i]? = some q → NodeAt w b (off + i * 10) q)
theorem RdN.keep {w w' : World} {a : Option Addr} {n : Nat} {qs : List V.Nd} (h : RdN w a n qs) (b : Below w.heap.size w w') : RdN w' a n qs := by
  obtain ⟨h1, h2, h3, h4⟩ := h
  refine ⟨h1, h2, h3, ?_⟩
  rcases h4 with h4 | ⟨k, off, rfl, hl, h4⟩
  · exact .inl h4
  · exact .inr ⟨k, off, rfl, Nat.lt_of_lt_of_le hl b.size, fun i q hq => (h4 i q hq).keep b⟩

theorem isSpan_any (t : Int) (w : World) :
    Calls Try.prog 20 #[.int .i64 t] w fun e w' => e = .returned (.bool (decide (1 ≤ t ∧ t ≤ 1099511627776))) ∧ w' = w := by
  have D := hide (fun w => isDelay_any t w)
  generalize hr : decide (1 ≤ t ∧ t ≤ 1099511627776) = r
  have HR := hide hr
  clear hr
  by_cases h0 : 1 ≤ t
  · have e : decide (0 ≤ t ∧ t ≤ 1099511627776) = r := by rw [← HR.out]; exact decide_eq_decide.2 (by omega)
    rw [e] at D
    clear e
    go_enter Try.func20, Try.ntmps20
    go_wp2_with (go_at_call 12; refine (D.out _).mono ?_; rintro e w' ⟨rfl, rfl⟩)
    go_ret
    exact ⟨rfl, rfl⟩
  · obtain rfl : r = false := by rw [← HR.out]; exact decide_eq_false (by omega)
    go_enter Try.func20, Try.ntmps20
    go_wp2_with fail
    go_ret
    exact ⟨rfl, rfl⟩

open Classical in
set_option maxHeartbeats 1000000 in
theorem isBounded_any (q : V.Nd) (w : World) :
    Calls Try.prog 21 #[.agg q.row.toArray] w fun e w' => e = .returned (.bool (decide (V.nOk q))) ∧ Below w.heap.size w w' := by
  obtain ⟨nm, la, bu, cl, be, ba, ca, ji, ⟨ne1, ne2, ne3⟩, ⟨af1, af2, af3⟩⟩ := q
  have S1 := hide (fun w => isSpan_any cl w)
  have S2 := hide (fun w => isSpan_any ca w)
  have S3 := hide (fun w => isDelay_any ji w)
  generalize hr : decide (V.nOk ⟨nm, la, bu, cl, be, ba, ca, ji, (ne1, ne2, ne3), (af1, af2, af3)⟩) = r
  have HR := hide hr
  clear hr
  simp only [V.Nd.row]
  have KW := hide ((Below.refl w.heap.size w).alloc (Nat.le_refl _) (.cells #[.string nm, .int .i64 la, .int .i64 bu, .int .i64 cl, .int .i64 be, .int .i64 ba, .int .i64 ca, .int .i64 ji, .slice ne1 ne2 ne3, .slice af1 af2 af3] 24))
  by_cases c1 : 1 ≤ bu
  · by_cases c2 : bu ≤ 100
    · by_cases c3 : 1 ≤ cl ∧ cl ≤ 1099511627776
      · have e3 := decide_eq_true c3
        by_cases c4 : 1 ≤ ca ∧ ca ≤ 1099511627776
        · have e4 := decide_eq_true c4
          have e5 : decide (0 ≤ ji ∧ ji ≤ 1099511627776) = r := by rw [← HR.out]; exact decide_eq_decide.2 ⟨fun h => ⟨c1, c2, c3.1, c3.2, c4.1, c4.2, h⟩, fun h => h.2.2.2.2.2.2⟩
          rw [e3] at S1
          rw [e4] at S2
          rw [e5] at S3
          clear e3 e4 e5 c3 c4 HR
          go_enter Try.func21, Try.ntmps21
          go_wp2_with fail
          go_at_call 20
          refine (S1.out _).mono ?_
          rintro e w1 ⟨rfl, rfl⟩
          go_wp2_with fail
          go_at_call 20
          refine (S2.out _).mono ?_
          rintro e w1 ⟨rfl, rfl⟩
          go_wp2_with fail
          go_at_call 12
          refine (S3.out _).mono ?_
          rintro e w1 ⟨rfl, rfl⟩
          go_wp2_with fail
          go_ret
          exact ⟨rfl, KW.out⟩
        · have e4 := decide_eq_false c4
          obtain rfl : r = false := by rw [← HR.out]; exact decide_eq_false fun h => c4 ⟨h.2.2.2.2.1, h.2.2.2.2.2.1⟩
          rw [e3] at S1
          rw [e4] at S2
          clear e3 e4 c3 c4 HR
          go_enter Try.func21, Try.ntmps21
          go_wp2_with fail
          go_at_call 20
          refine (S1.out _).mono ?_
          rintro e w1 ⟨rfl, rfl⟩
          go_wp2_with fail
          go_at_call 20
          refine (S2.out _).mono ?_
          rintro e w1 ⟨rfl, rfl⟩
          go_wp2_with fail
          go_ret
          exact ⟨rfl, KW.out⟩
      · have e3 := decide_eq_false c3
        obtain rfl : r = false := by rw [← HR.out]; exact decide_eq_false fun h => c3 ⟨h.2.2.1, h.2.2.2.1⟩
        rw [e3] at S1
        clear e3 c3 HR
        go_enter Try.func21, Try.ntmps21
        go_wp2_with fail
        go_at_call 20
        refine (S1.out _).mono ?_
        rintro e w1 ⟨rfl, rfl⟩
        go_wp2_with fail
        go_ret
        exact ⟨rfl, KW.out⟩
    · obtain rfl : r = false := by rw [← HR.out]; exact decide_eq_false fun h => c2 h.2.1
      clear HR
      go_enter Try.func21, Try.ntmps21
      go_wp2_with fail
      go_ret
      exact ⟨rfl, KW.out⟩
  · obtain rfl : r = false := by rw [← HR.out]; exact decide_eq_false fun h => c1 h.1
    clear HR
    go_enter Try.func21, Try.ntmps21
    go_wp2_with fail
    go_ret
    exact ⟨rfl, KW.out⟩
end Go.Proofs.Ytgjjiomnbhildaa
