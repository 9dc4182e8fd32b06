/- The document's expressions: least, greatest, blank, number. -/
import Derived.Test.YtbgioclbjbmicaaDoorXRfM
import Derived.Test.YtbgioclbjbmicaaDoorXSplit
import Derived.Lib.SmallJoins
import Derived.Handy
namespace Go.Proofs.YtbgioclbjbmicaaDoor
open Go.RowKit

theorem five (f : Nat) (hf : f < 5) : f = 0 ∨ f = 1 ∨ f = 2 ∨ f = 3 ∨ f = 4 := by omega
theorem least_any (f : Nat) (hf : f < 5) (w : World) :
    Calls Tryd.prog 63 #[.int .i64 f] w fun e w' => e = .returned (.int .i64 (X.loF f)) ∧ w' = w := by
  rcases five f hf with rfl | rfl | rfl | rfl | rfl
  all_goals
    go_enter Tryd.func63, Tryd.ntmps63
    go_wp2_with fail
    go_ret
    exact ⟨rfl, rfl⟩
set_option maxHeartbeats 1000000 in
theorem greatest_any (f : Nat) (hf : f < 5) (w : World) :
    Calls Tryd.prog 57 #[.int .i64 f] w fun e w' => e = .returned (.int .i64 (X.hiF f)) ∧ Below w.heap.size w w' := by
  rcases five f hf with rfl | rfl | rfl | rfl | rfl
  all_goals
    go_enter Tryd.func57, Tryd.ntmps57
    go_wp2_with fail
    go_ret
    exact ⟨rfl, Below.put (Below.refl _ _) _⟩
theorem blank_any (b : UInt8) (w : World) :
    Calls Tryd.prog 56 #[.int .u8 (b.toNat : Int)] w fun e w' => e = .returned (.bool (X.isBl b)) ∧ w' = w := by
  have hb : X.isBl b = (decide (b.toNat = 32) || decide (b.toNat = 9)) := by
    unfold X.isBl
    rw [show (b == 32) = decide (b.toNat = 32) from by rw [Bool.eq_iff_iff]; simp only [beq_iff_eq, decide_eq_true_eq]; exact ⟨fun h => by rw [h]; rfl, fun h => UInt8.toNat_inj.1 h⟩,
      show (b == 9) = decide (b.toNat = 9) from by rw [Bool.eq_iff_iff]; simp only [beq_iff_eq, decide_eq_true_eq]; exact ⟨fun h => by rw [h]; rfl, fun h => UInt8.toNat_inj.1 h⟩]
  rw [hb]
  generalize b.toNat = n
  by_cases h : n = 32
  · subst h
    go_enter Tryd.func56, Tryd.ntmps56
    go_wp2
    go_ret
    exact ⟨rfl, rfl⟩
  · have h1 : ((n : Int) == 32) = false := by simp; omega
    by_cases k : n = 9
    · subst k
      go_enter Tryd.func56, Tryd.ntmps56
      go_wp2
      go_ret
      exact ⟨rfl, rfl⟩
    · have h2 : ((n : Int) == 9) = false := by simp; omega
      have e : (decide (n = 32) || decide (n = 9)) = false := by simp [h, k]
      rw [e]
      go_enter Tryd.func56, Tryd.ntmps56
      go_wp2
      go_ret
      exact ⟨rfl, rfl⟩
theorem list_two (s : ByteArray) (h : s.size = 2) : s.data.toList = [s[0]'(by omega), s[1]'(by omega)] := by
  have h1 := drop_at s 0 (by omega)
  have h2 := drop_at s 1 (by omega)
  have h3 := drop_end s 2 (by omega)
  rw [List.drop_zero] at h1
  rw [h1, h2, h3]
theorem list_one (s : ByteArray) (h : s.size = 1) : s.data.toList = [s[0]'(by omega)] := by
  have h1 := drop_at s 0 (by omega)
  have h3 := drop_end s 1 (by omega)
  rw [List.drop_zero] at h1
  rw [h1, h3]
set_option maxHeartbeats 1000000 in
set_option maxRecDepth 100000 in
theorem number_one (s : ByteArray) (h : s.size = 1) (w : World) :
    Calls Tryd.prog 70 #[.string s] w fun e w' => e = .returned (.int .i64 (X.rnI s.data.toList)) ∧ w' = w := by
  have hl := list_one s h
  have hp : 0 < s.size := by omega
  have hi : X.rnI s.data.toList = if 48 ≤ (s[0]'hp).toNat ∧ (s[0]'hp).toNat ≤ 57 then ((s[0]'hp).toNat : Int) - 48 else -1 := by
    rw [hl]; unfold X.rnI; simp only [X.rnum]
    by_cases k : 48 ≤ (s[0]'hp).toNat ∧ (s[0]'hp).toNat ≤ 57
    · rw [if_pos k, if_pos ((X.digB_iff _).2 k)]; simp only; omega
    · rw [if_neg k, if_neg (fun q => k ((X.digB_iff _).1 q))]
  rw [hi]
  clear hi hl
  have hc : ((s[0]'hp).toNat : Int) < 256 := by have := (s[0]'hp).toNat_lt; omega
  generalize hcc : (s[0]'hp).toNat = c at *
  by_cases k : 48 ≤ c ∧ c ≤ 57
  · rw [if_pos k]
    have k1 : ¬ (c : Int) < 48 := by omega
    have k2 : ¬ (57 : Int) < c := by omega
    go_enter Tryd.func70, Tryd.ntmps70
    go_wp2_with fail
    go_rounds 3
    go_ret
    exact ⟨by simp, rfl⟩
  · rw [if_neg k]
    by_cases k1 : (c : Int) < 48
    · go_enter Tryd.func70, Tryd.ntmps70
      go_wp2_with fail
      go_rounds 2
      go_ret
      exact ⟨rfl, rfl⟩
    · have k2 : (57 : Int) < c := by omega
      go_enter Tryd.func70, Tryd.ntmps70
      go_wp2_with fail
      go_rounds 2
      go_ret
      exact ⟨rfl, rfl⟩
set_option maxHeartbeats 2000000 in
set_option maxRecDepth 100000 in
theorem number_two (s : ByteArray) (h : s.size = 2) (w : World) :
    Calls Tryd.prog 70 #[.string s] w fun e w' => e = .returned (.int .i64 (X.rnI s.data.toList)) ∧ w' = w := by
  have hl := list_two s h
  have hp : 0 < s.size := by omega
  have hq : 1 < s.size := by omega
  have hi : X.rnI s.data.toList = if (s[0]'hp).toNat ≠ 48 ∧ (48 ≤ (s[0]'hp).toNat ∧ (s[0]'hp).toNat ≤ 57) ∧ (48 ≤ (s[1]'hq).toNat ∧ (s[1]'hq).toNat ≤ 57) then 10 * (((s[0]'hp).toNat : Int) - 48) + (s[1]'hq).toNat - 48 else -1 := by
    rw [hl]; unfold X.rnI; simp only [X.rnum]
    by_cases k : (s[0]'hp).toNat ≠ 48 ∧ (48 ≤ (s[0]'hp).toNat ∧ (s[0]'hp).toNat ≤ 57) ∧ (48 ≤ (s[1]'hq).toNat ∧ (s[1]'hq).toNat ≤ 57)
    · rw [if_pos k, if_pos ⟨(X.ne48 _).2 k.1, (X.digB_iff _).2 k.2.1, (X.digB_iff _).2 k.2.2⟩]; simp only; omega
    · rw [if_neg k, if_neg (fun q => k ⟨(X.ne48 _).1 q.1, (X.digB_iff _).1 q.2.1, (X.digB_iff _).1 q.2.2⟩)]
  rw [hi]
  clear hi hl
  have hc : ((s[0]'hp).toNat : Int) < 256 := by have := (s[0]'hp).toNat_lt; omega
  have hd : ((s[1]'hq).toNat : Int) < 256 := by have := (s[1]'hq).toNat_lt; omega
  generalize hcc : (s[0]'hp).toNat = c at *
  generalize hdd : (s[1]'hq).toNat = d at *
  by_cases k0 : c = 48
  · subst k0
    rw [if_neg (by omega)]
    go_enter Tryd.func70, Tryd.ntmps70
    go_wp2_with fail
    go_ret
    exact ⟨rfl, rfl⟩
  · have k0' : ((c : Int) == 48) = false := by simp; omega
    by_cases k : 48 ≤ c ∧ c ≤ 57
    · have k1 : ¬ (c : Int) < 48 := by omega
      have k2 : ¬ (57 : Int) < c := by omega
      by_cases j : 48 ≤ d ∧ d ≤ 57
      · rw [if_pos ⟨k0, k, j⟩]
        have j1 : ¬ (d : Int) < 48 := by omega
        have j2 : ¬ (57 : Int) < d := by omega
        go_enter Tryd.func70, Tryd.ntmps70
        go_wp2_with fail
        go_rounds 4
        go_ret
        exact ⟨by simp, rfl⟩
      · rw [if_neg (by omega)]
        by_cases j1 : (d : Int) < 48
        · go_enter Tryd.func70, Tryd.ntmps70
          go_wp2_with fail
          go_rounds 3
          go_ret
          exact ⟨rfl, rfl⟩
        · have j2 : (57 : Int) < d := by omega
          go_enter Tryd.func70, Tryd.ntmps70
          go_wp2_with fail
          go_rounds 3
          go_ret
          exact ⟨rfl, rfl⟩
    · rw [if_neg (by omega)]
      by_cases k1 : (c : Int) < 48
      · go_enter Tryd.func70, Tryd.ntmps70
        go_wp2_with fail
        go_rounds 2
        go_ret
        exact ⟨rfl, rfl⟩
      · have k2 : (57 : Int) < c := by omega
        go_enter Tryd.func70, Tryd.ntmps70
        go_wp2_with fail
        go_rounds 2
        go_ret
        exact ⟨rfl, rfl⟩
theorem rnI_other (s : ByteArray) (h : s.size = 0 ∨ 2 < s.size) : X.rnI s.data.toList = -1 := by
  have hl : s.data.toList.length = s.size := by simp
  generalize s.data.toList = l at *
  unfold X.rnI
  match l, hl with
  | [], _ => rfl
  | [a], hl => simp at hl; omega
  | [a, b], hl => simp at hl; omega
  | a :: b :: c :: r, _ => rfl
set_option maxHeartbeats 1000000 in
theorem refNumber_any (s : ByteArray) (hs : s.size ≤ 9223372036854775807) (w : World) :
    Calls Tryd.prog 70 #[.string s] w fun e w' => e = .returned (.int .i64 (X.rnI s.data.toList)) ∧ w' = w := by
  by_cases h1 : s.size = 1
  · exact number_one s h1 w
  · by_cases h2 : s.size = 2
    · exact number_two s h2 w
    · rw [rnI_other s (by omega)]
      by_cases h0 : s.size = 0
      · go_enter Tryd.func70, Tryd.ntmps70
        go_wp2_with fail
        go_ret
        exact ⟨rfl, rfl⟩
      · have k0 : ¬ (s.size : Int) < 1 := by omega
        have k1 : (2 : Int) < s.size := by omega
        go_enter Tryd.func70, Tryd.ntmps70
        go_wp2_with fail
        go_ret
        exact ⟨rfl, rfl⟩
end Go.Proofs.YtbgioclbjbmicaaDoor
