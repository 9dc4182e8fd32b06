/- The laws' at. -/
import Derived.Test.YtilpidioengnbaaDAlk
namespace Go.Proofs.Ytilpidioengnbaa
open Go.RowKit Go.Lib

theorem Rd.front {w : World} {a : Option Addr} {n : Nat} {l : List Nat} (h : Rd w a n l) (hi : Nat) (h2 : hi ≤ n) : Rd w a hi (l.take hi) := by
  obtain ⟨hl, hn, hd, hrow⟩ := h
  refine ⟨by simp; omega, by omega, fun d hd' => hd d (List.mem_of_mem_take hd'), ?_⟩
  rcases hrow with h0' | ⟨b, off, rfl, hrow⟩
  · exact .inl (by omega)
  · refine .inr ⟨b, off, rfl, fun i hi' => ?_⟩
    rw [hrow i (by omega)]
    congr 3
    rw [List.getD_eq_getElem?_getD, List.getD_eq_getElem?_getD, List.getElem?_take, if_pos hi']

theorem slice_hi_run (a : Option Addr) (n c hi : Nat) (h2 : hi ≤ c) (w : World) :
    (Instr.slice 33 (.slice a n c) none (some (.int .i64 (hi : Int))) none).run Try.prog w = .ok (.slice (if c = 0 then a else a.map (·.add 0)) hi c) w := by
  go_simp
theorem add_zero (a : Addr) : a.add 0 = a := by unfold Addr.add; split <;> simp_all
theorem slice_hi_run' (a : Option Addr) (n c hi : Nat) (h2 : hi ≤ c) (w : World) :
    (Instr.slice 33 (.slice a n c) none (some (.int .i64 (hi : Int))) none).run Try.prog w = .ok (.slice a hi c) w := by
  rw [slice_hi_run a n c hi h2]
  cases a <;> simp [add_zero]

/-- what at answers -/
def AtAs (w : World) (L : List (Int × List Nat)) (k : Int) (e : Ending) (w' : World) : Prop :=
  w' = w ∧ ((∃ (ba : Option Addr) (bc : Nat) (b : List Nat), e = .returned (.tuple #[.slice ba b.length bc, .bool true]) ∧ (k, b) ∈ L ∧ Rd w ba b.length b ∧ b.length ≤ bc ∧ (ba = none → bc = 0)) ∨ (e = .returned (.tuple #[.slice none 0 0, .bool false]) ∧ ∀ b, (k, b) ∉ L))

theorem RdS.at' {lo : Nat} {w : World} {a : Option Addr} {L : List (Int × List Nat)} (h : RdS lo w a L) (j : Nat) (hj : j < L.length) (hb : ∀ x ∈ L, x.2.length < 281474976710656) :
    ∃ g, a = some ⟨g, 0, none⟩ ∧ w.cell? ⟨g, j * 2, none⟩ = some (.int .i64 L[j].1) ∧ ∃ ba bc, w.cell? ⟨g, j * 2 + 1, none⟩ = some (.slice ba L[j].2.length bc) ∧ Rd w ba L[j].2.length L[j].2 ∧ L[j].2.length ≤ bc ∧ (ba = none → bc = 0) := by
  obtain ⟨g, e, _, h2, v, h3, h4, _⟩ := h.2 j hj
  obtain ⟨ba, bc, hv, hr, h0, hl, _⟩ := h4.rd (hb _ (List.getElem_mem hj))
  subst hv
  rw [Nat.mul_comm] at h2 h3
  exact ⟨g, e, h2, ba, bc, h3, hr, hl, h0⟩

/-- each segment of one list begins one of another -/
def Begins (L M : List (Int × List Nat)) : Prop := ∀ k b, (k, b) ∈ L → ∃ b', (k, b') ∈ M ∧ b.length ≤ b'.length ∧ b'.take b.length = b

theorem keys_one {M : List (Int × List Nat)} (h : (M.map Prod.fst).Pairwise (· < ·)) {k : Int} {b b' : List Nat} (h1 : (k, b) ∈ M) (h2 : (k, b') ∈ M) : b = b' := by
  induction M with
  | nil => cases h1
  | cons x r ih =>
    rw [List.map_cons, List.pairwise_cons] at h
    rcases List.mem_cons.1 h1 with e1 | e1
    · rcases List.mem_cons.1 h2 with e2 | e2
      · have := e1.trans e2.symm; injection this
      · have := h.1 k (List.mem_map.2 ⟨_, e2, rfl⟩)
        rw [← e1] at this
        simp at this
    · rcases List.mem_cons.1 h2 with e2 | e2
      · have := h.1 k (List.mem_map.2 ⟨_, e1, rfl⟩)
        rw [← e2] at this
        simp at this
      · exact ih h.2 e1 e2

end Go.Proofs.Ytilpidioengnbaa
