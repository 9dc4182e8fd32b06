/- Package pack: peekCount, peek, takeRow; the take of Texts. -/
import Derived.Test.YteaokgolnhdloaaPLists
import Derived.Laws.BytesArg
namespace Go.Proofs.Yteaokgolnhdloaa
open Go.RowKit

/-- the number at the head of a row, or of a list -/
def cnt (most : Int) (l : List Nat) : Except Nat (Nat × Nat) := match K.pk l with
  | .error e => .error e
  | .ok (n, z) => if most < (n : Int) then .error 20 else if l.length < z + n then .error 21 else .ok (n, z)

theorem cnt_err {most : Int} {l : List Nat} {e : Nat} (h : cnt most l = .error e) : e ≠ 0 := by
  unfold cnt at h
  split at h
  · rename_i hp
    injection h with h
    have := pk_err hp
    omega
  · split at h
    · injection h with h; omega
    · split at h
      · injection h with h; omega
      · cases h

theorem cnt_ok {most : Int} {l : List Nat} {n z : Nat} (h : cnt most l = .ok (n, z)) : K.pk l = .ok (n, z) ∧ (n : Int) ≤ most ∧ z + n ≤ l.length := by
  unfold cnt at h
  split at h
  · cases h
  · split at h
    · cases h
    · split at h
      · cases h
      · rename_i hp h1 h2
        injection h with h
        injection h with e1 e2
        subst e1; subst e2
        exact ⟨hp, by omega, by omega⟩

set_option maxRecDepth 10000 in
theorem peekCount_any (q : Nat) (most : Int) (s : K.RS) (w : World) (h : Rr w q s) :
    Calls Try.prog 44 #[.pointer (some ⟨q, 0, none⟩), .int .i64 most] w fun en w' => pkOut (cnt most (rest s)) en ∧ Below w.heap.size w w' := by
  have HH := hide h
  have htp := h.top
  have htk := h.tak
  generalize hr : cnt most (rest s) = r
  have HR := hide hr
  have hlen := rest_len s
  have HLEN := hide hlen
  clear hr hlen
  cases hp : K.pk (rest s) with
  | error e =>
    have HP := hide hp
    have HR' : Hid (r = .error e) := by show _ = _; rw [← HR.out]; unfold cnt; rw [hp]
    clear h hp
    go_enter Try.func44, Try.ntmps44
    go_wp2_with fail
    refine (peekNumber_any q s _ HH.out).mono ?_
    rintro en w1 ⟨ho, hb⟩
    have hp := HP.out
    unfold rest at hp
    rw [hp] at ho
    have hen : en = gaveUp e := ho
    subst hen
    exact ⟨rfl, by rw [HR'.out]; rfl, hb⟩
  | ok x =>
    obtain ⟨n, z⟩ := x
    obtain ⟨k1, k2, k3, _, k5⟩ := K.pk_ok h.byt hp
    rw [HLEN.out] at k3
    have HP := hide hp
    clear h hp
    by_cases hb1 : most < (n : Int)
    · have HR' : Hid (r = .error 20) := by show _ = _; rw [← HR.out]; unfold cnt; rw [HP.out]; exact if_pos hb1
      go_enter Try.func44, Try.ntmps44
      go_wp2_with fail
      refine (peekNumber_any q s _ HH.out).mono ?_
      rintro en w1 ⟨ho, hb⟩
      have hp := HP.out
      unfold rest at hp
      rw [hp] at ho
      have hen : en = .returned (.tuple #[.int .i64 (n : Nat), .int .i64 (z : Nat)]) := ho
      subst hen
      clear ho hp
      go_wp2
      exact ⟨rfl, by rw [HR'.out]; rfl, hb⟩
    · by_cases hb2 : (rest s).length < z + n
      · have HR' : Hid (r = .error 21) := by show _ = _; rw [← HR.out]; unfold cnt; rw [HP.out]; exact (if_neg hb1).trans (if_pos hb2)
        rw [HLEN.out] at hb2
        go_enter Try.func44, Try.ntmps44
        go_wp2_with fail
        refine (peekNumber_any q s _ HH.out).mono ?_
        rintro en w1 ⟨ho, hb⟩
        have hp := HP.out
        unfold rest at hp
        rw [hp] at ho
        have hen : en = .returned (.tuple #[.int .i64 (n : Nat), .int .i64 (z : Nat)]) := ho
        subst hen
        have HB := hide hb
        clear ho hp hb
        go_wp2_with fail
        refine (left_any q s _ (HH.out.below HB.out)).mono ?_
        rintro e w2 ⟨a', c', rfl, hr, h0', hc', hb3⟩
        have HB3 := hide hb3
        clear hr h0' hb3
        go_wp2
        exact ⟨rfl, by rw [HR'.out]; rfl, further HB.out HB3.out⟩
      · have HR' : Hid (r = .ok (n, z)) := by show _ = _; rw [← HR.out]; unfold cnt; rw [HP.out]; exact (if_neg hb1).trans (if_neg hb2)
        rw [HLEN.out] at hb2
        go_enter Try.func44, Try.ntmps44
        go_wp2_with fail
        refine (peekNumber_any q s _ HH.out).mono ?_
        rintro en w1 ⟨ho, hb⟩
        have hp := HP.out
        unfold rest at hp
        rw [hp] at ho
        have hen : en = .returned (.tuple #[.int .i64 (n : Nat), .int .i64 (z : Nat)]) := ho
        subst hen
        have HB := hide hb
        clear ho hp hb
        go_wp2_with fail
        refine (left_any q s _ (HH.out.below HB.out)).mono ?_
        rintro e w2 ⟨a', c', rfl, hr, h0', hc', hb3⟩
        have HB3 := hide hb3
        clear hr h0' hb3
        go_wp2
        go_ret2
        exact ⟨by rw [HR'.out]; rfl, further HB.out HB3.out⟩

theorem peek_yes (q n : Nat) (s : K.RS) (w : World) (h : Rr w q s) (hn : n ≤ (rest s).length) :
    Calls Try.prog 88 #[.pointer (some ⟨q, 0, none⟩), .int .i64 (n : Nat)] w fun en w' => ∃ a c, en = .returned (.slice a n c) ∧ Rd w' a n ((rest s).take n) ∧ (a = none → c = 0) ∧ n ≤ c ∧ Below w.heap.size w w' := by
  have HH := hide h
  have htp := h.top
  rw [rest_len] at hn
  clear h
  go_enter Try.func88, Try.ntmps88
  go_wp2_with fail
  refine (left_any q s _ HH.out).mono ?_
  rintro e w1 ⟨a1, c1, rfl, _, _, hc1, hb1⟩
  have HB1 := hide hb1
  clear hb1
  go_wp2_with fail
  refine (left_any q s _ (HH.out.below HB1.out)).mono ?_
  rintro e w2 ⟨a', c', rfl, hr, h0', hc', hb3⟩
  have HR := hide (hr.front n hn)
  have HB := hide (further HB1.out hb3)
  have H0 := hide h0'
  have hsl := slice_hi_run' a' (s.data.length - s.taken) c' n (by omega)
  clear hr hb3 h0'
  go_wp2
  go_ret
  exact ⟨a', c', rfl, HR.out, H0.out, by omega, HB.out⟩

theorem peek_no (q n : Nat) (s : K.RS) (w : World) (h : Rr w q s) (hn : ¬ n ≤ (rest s).length) :
    Calls Try.prog 88 #[.pointer (some ⟨q, 0, none⟩), .int .i64 (n : Nat)] w fun en w' => en = gaveUp 21 ∧ Below w.heap.size w w' := by
  have HH := hide h
  have htp := h.top
  rw [rest_len] at hn
  clear h
  go_enter Try.func88, Try.ntmps88
  go_wp2_with fail
  refine (left_any q s _ HH.out).mono ?_
  rintro e w1 ⟨a1, c1, rfl, _, _, hc1, hb1⟩
  have HB1 := hide hb1
  clear hb1
  go_wp2
  exact ⟨rfl, rfl, HB1.out⟩

end Go.Proofs.Yteaokgolnhdloaa
