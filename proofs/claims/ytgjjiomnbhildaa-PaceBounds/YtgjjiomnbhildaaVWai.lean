/- Contract of pace.Wait. -/
import Derived.Test.YtgjjiomnbhildaaVAll
namespace Go.Proofs.Ytgjjiomnbhildaa
open Go.RowKit

/-- a node, as a value -/
structure V.Nd where
  nm : ByteArray
  la : Int
  bu : Int
  cl : Int
  be : Int
  ba : Int
  ca : Int
  ji : Int
  ne : Option Addr × Nat × Nat
  af : Option Addr × Nat × Nat
def V.Nd.row (q : V.Nd) : List Value := [.string q.nm, .int .i64 q.la, .int .i64 q.bu, .int .i64 q.cl, .int .i64 q.be, .int .i64 q.ba, .int .i64 q.ca, .int .i64 q.ji, .slice q.ne.1 q.ne.2.1 q.ne.2.2, .slice q.af.1 q.af.2.1 q.af.2.2]
def V.i64 (x : Int) : Prop := -9223372036854775808 ≤ x ∧ x ≤ 9223372036854775807
def V.Nd.In (q : V.Nd) : Prop := V.i64 q.la ∧ V.i64 q.bu ∧ V.i64 q.cl ∧ V.i64 q.be ∧ V.i64 q.ba ∧ V.i64 q.ca ∧ V.i64 q.ji

theorem wait_all (q : V.Nd) (l : Nat) (a b c : Int) (ha : a ≤ 9223372036854775807) (hb : b ≤ 9223372036854775807) (hc : c ≤ 9223372036854775807) (w : World) :
    Calls Try.prog 5 #[.agg q.row.toArray, .int .u64 (l : Int), .int .i64 a, .int .i64 b, .int .i64 c] w fun e w' => e = .returned (.tuple #[.int .i64 ((V.waitI q.ba q.ca q.ji l a b c).1 : Nat), .int .i64 ((V.waitI q.ba q.ca q.ji l a b c).2 : Nat)]) ∧ Below w.heap.size w w' := by
  obtain ⟨nm, la, bu, cl, be, ba, ca, ji, ne, af⟩ := q
  have D := hide (fun w => delay_all ba ca c hc w)
  have J := hide (fun w => jitter_all l a b c ji ha hb hc w)
  have HW := hide (show V.waitI ba ca ji l a b c = (if (V.delI ba ca c).2 = 0 then (if (V.jitI l a b c ji).2 = 0 then ((V.delI ba ca c).1 + (V.jitI l a b c ji).1, 0) else (0, 90)) else (0, 90)) from rfl)
  have d1 := V.delI_cases ba ca c
  have j1 := V.jitI_cases l a b c ji
  show Calls Try.prog 5 _ w fun e w' => e = .returned (.tuple #[.int .i64 ((V.waitI ba ca ji l a b c).1 : Nat), .int .i64 ((V.waitI ba ca ji l a b c).2 : Nat)]) ∧ Below w.heap.size w w'
  generalize V.waitI ba ca ji l a b c = r at *
  generalize V.delI ba ca c = d at *
  generalize V.jitI l a b c ji = j at *
  obtain ⟨dt, dc⟩ := d
  obtain ⟨jt, jc⟩ := j
  obtain ⟨rt, rc⟩ := r
  simp only [Prod.mk.injEq] at d1 j1
  simp only [V.Nd.row] at *
  have KW := hide ((Below.refl w.heap.size w).alloc (Nat.le_refl _) (Obj.cells #[.string nm, .int .i64 la, .int .i64 bu, .int .i64 cl, .int .i64 be, .int .i64 ba, .int .i64 ca, .int .i64 ji, .slice ne.1 ne.2.1 ne.2.2, .slice af.1 af.2.1 af.2.2] 24))
  rcases d1 with ⟨rfl, d2⟩ | ⟨rfl, rfl⟩
  · go_enter Try.func5, Try.ntmps5
    go_wp2_with fail
    go_at_call 6
    refine (D.out _).mono ?_
    rintro e w1 ⟨rfl, rfl⟩
    go_wp2_with fail
    go_at_call 7
    refine (J.out _).mono ?_
    rintro e w2 ⟨rfl, hb2⟩
    have K2 := hide (KW.out.trans (hb2.mono (by simp)))
    clear hb2
    rcases j1 with ⟨rfl, j2⟩ | ⟨rfl, rfl⟩
    · have := HW.out
      simp only [if_true, Prod.mk.injEq] at this
      obtain ⟨rfl, rfl⟩ := this
      go_wp2_with fail
      go_ret2
      exact ⟨ret2 (by omega), K2.out⟩
    · have := HW.out
      simp only [if_true] at this
      obtain ⟨rfl, rfl⟩ := this
      go_wp2_with fail
      go_ret2
      exact ⟨rfl, K2.out⟩
  · have := HW.out
    simp at this
    obtain ⟨rfl, rfl⟩ := this
    go_enter Try.func5, Try.ntmps5
    go_wp2_with fail
    go_at_call 6
    refine (D.out _).mono ?_
    rintro e w1 ⟨rfl, rfl⟩
    go_wp2_with fail
    go_ret2
    exact ⟨rfl, KW.out⟩
end Go.Proofs.Ytgjjiomnbhildaa
