/- CronFields: digits, listed, full. -/
import Derived.Test.YtbflmgiheccgdaaDoorXFldM
import Derived.Test.YtbflmgiheccgdaaDoorXAwake
namespace Go.Proofs.YtbflmgiheccgdaaDoor
open Go.RowKit

def tenB : ByteArray := ⟨#[48, 49, 50, 51, 52, 53, 54, 55, 56, 57]⟩
theorem dec_one (n : Nat) (h : n < 10) : tenB.extract n (n + 1) = ⟨(Lib.decDigits n).toArray⟩ := by
  have key : (List.range 10).all (fun n => decide (tenB.extract n (n + 1) = ⟨(Lib.decDigits n).toArray⟩)) = true := by decide +kernel
  simpa using List.all_eq_true.1 key n (by simpa using h)
theorem dec_two (a b : Nat) (h0 : 1 ≤ a) (h : a < 10) (hb : b < 10) : tenB.extract a (a + 1) ++ tenB.extract b (b + 1) = ⟨(Lib.decDigits (10 * a + b)).toArray⟩ := by
  have key : (List.range 10).all (fun a => (List.range 10).all fun b => decide (1 ≤ a → tenB.extract a (a + 1) ++ tenB.extract b (b + 1) = ⟨(Lib.decDigits (10 * a + b)).toArray⟩)) = true := by decide +kernel
  have k1 := List.all_eq_true.1 (List.all_eq_true.1 key a (by simpa using h)) b (by simpa using hb)
  exact of_decide_eq_true k1 h0
set_option maxRecDepth 100000 in
theorem digits_any (n : Nat) (h : n < 60) (w : World) :
    Calls Tryd.prog 12 #[.int .i64 n] w fun e w' => e = .returned (.string ⟨(Lib.decDigits n).toArray⟩) ∧ Below w.heap.size w w' := by
  by_cases h10 : n < 10
  · have i1 : (n : Int) < 10 := by omega
    have i0 : (0 : Int) ≤ n := by omega
    have hd := dec_one n h10
    go_enter Tryd.func12, Tryd.ntmps12
    go_wp2_with fail
    go_ret
    exact ⟨by rw [← hd]; rfl, Below.refl _ _⟩
  · obtain ⟨a, b, ha, ha', hb, rfl⟩ : ∃ a b, 1 ≤ a ∧ a < 10 ∧ b < 10 ∧ n = 10 * a + b := ⟨n / 10, n % 10, by omega, by omega, by omega, by omega⟩
    have i1 : ¬ (((10 * a + b : Nat) : Int) < 10) := by omega
    have hd := dec_two a b ha ha' hb
    have q : Int.tdiv ((10 * a + b : Nat) : Int) 10 = (a : Int) := by
      rw [Int.tdiv_eq_ediv_of_nonneg (by omega)]; omega
    have r : Int.tmod ((10 * a + b : Nat) : Int) 10 = (b : Int) := by
      rw [Int.tmod_eq_emod_of_nonneg (by omega)]; omega
    have ra : Calls Tryd.prog 12 #[.int .i64 ((10 * a + b : Nat) : Int)] w fun e w' => e = .returned (.string (tenB.extract a (a + 1) ++ tenB.extract b (b + 1))) ∧ Below w.heap.size w w' := by
      generalize ((10 * a + b : Nat) : Int) = N at *
      clear hd
      have a1 : (a : Int) < 10 := by omega
      have b1 : (b : Int) < 10 := by omega
      have a0 : (0 : Int) ≤ a := by omega
      have b0 : (0 : Int) ≤ b := by omega
      go_enter Tryd.func12, Tryd.ntmps12
      go_wp2_with fail
      go_quiet (fail)
      go_wp2_with fail
      go_ret
      exact ⟨rfl, ⟨rfl, rfl, rfl, Nat.le_refl _, fun _ _ => rfl⟩⟩
    rw [← hd]; exact ra
def fullB (H : Nat → Bool) (lo n : Nat) : Bool := (List.range n).all fun v => decide (v < lo) || H v
theorem fullB_no {H : Nat → Bool} {lo n v : Nat} (h1 : lo ≤ v) (h2 : v < n) (h : H v = false) : fullB H lo n = false := by
  rw [Bool.eq_false_iff]
  intro e
  have := List.all_eq_true.1 e v (by simpa using h2)
  simp [h] at this
  omega
theorem fullB_yes {H : Nat → Bool} {lo n : Nat} (h : ∀ v, lo ≤ v → v < n → H v = true) : fullB H lo n = true := by
  refine List.all_eq_true.2 fun v hv => ?_
  have hv' : v < n := by simpa using hv
  by_cases e : v < lo
  · simp [e]
  · simp [h v (by omega) hv']
set_option maxRecDepth 100000 in
theorem full_any (gh n c lo : Nat) (H : Nat → Bool) (hn : n ≤ 60) (hlo : lo ≤ n) (w : World) (hc : ∀ v, v < n → w.cell? ⟨gh, v, none⟩ = some (.bool (H v))) :
    Calls Tryd.prog 9 #[.slice (some ⟨gh, 0, none⟩) n c, .int .i64 lo] w fun e w' => e = .returned (.bool (fullB H lo n)) ∧ w' = w := by
  go_enter Tryd.func9, Tryd.ntmps9
  go_wp2_with fail
  have HC := hide hc
  clear hc
  go_loopw [5] (fun x wx => ∃ v : Nat, x = .int .i64 v ∧ lo ≤ v ∧ v ≤ n ∧ (∀ u, lo ≤ u → u < v → H u = true) ∧ wx = w) (fun x _ => n - (intOf x).toNat)
  case atStart => exact ⟨lo, rfl, by omega, hlo, fun u h1 h2 => by omega, rfl⟩
  case round =>
    obtain ⟨v, rfl, v0, v1, hv, rfl⟩ := hrel
    by_cases hlt : v < n
    · have c0 := HC.out v hlt
      have i0 : (v : Int) < n := by omega
      have i1 : (0 : Int) ≤ v := by omega
      cases hH : H v
      · rw [hH] at c0
        have hf := fullB_no v0 hlt hH
        go_wp2_with fail
        go_ret
        exact ⟨by rw [hf]; rfl, rfl⟩
      · rw [hH] at c0
        have HV := hide (show ∀ u, lo ≤ u → u < v + 1 → H u = true from fun u h1 h2 => by
          by_cases e : u = v
          · subst e; exact hH
          · exact hv u h1 (by omega))
        clear hv
        go_wp2_with fail
        exact ⟨⟨v + 1, by go_num, by omega, by omega, HV.out, trivial⟩, by simp [intOf]; omega⟩
    · obtain rfl : v = n := by omega
      have hf := fullB_yes hv
      clear hv
      go_wp2_with fail
      go_ret
      exact ⟨by rw [hf]; rfl, rfl⟩
end Go.Proofs.YtbflmgiheccgdaaDoor
