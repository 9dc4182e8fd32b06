/- The document's Check (escapementref10): its small functions. -/
import Derived.Test.YtfoahfgehmghcaaGreatDoorGEdg
namespace Go.Proofs.YtfoahfgehmghcaaGreatDoor
namespace Gr
open Go.RowKit

/-- how the document's IsName holds a byte against its bounds -/
theorem inNm_iff (b : UInt8) : inNm b = true ↔ (97 ≤ b.toNat ∧ b.toNat ≤ 122) ∨ (48 ≤ b.toNat ∧ b.toNat ≤ 57) ∨ b.toNat = 45 ∨ b.toNat = 95 ∨ b.toNat = 46 := by
  unfold inNm
  simp only [Bool.or_eq_true, Bool.and_eq_true, decide_eq_true_eq]
  omega
set_option maxHeartbeats 2000000 in
theorem refIsName_any (s : ByteArray) (w : World) (hs : s.size ≤ 9223372036854775807) :
    Calls Tryz.prog 35 #[.string s] w fun e w' => e = .returned (.bool (isNm s)) ∧ w' = w := by
  generalize hr : isNm s = r
  have HR : Hid ((wI s.size 1 40 && s.data.toList.all inNm) = r) := hr
  clear hr
  go_enter Tryz.func35, Tryz.ntmps35
  go_wp2_with fail
  go_loopw [3] (fun sv wr => ∃ i : Nat, sv = .int .i64 (i : Nat) ∧ i ≤ s.size ∧ wr = w ∧ Hid ((wI s.size 1 40 && (s.data.toList.drop i).all inNm) = r)) (fun sv _ => s.size - (intOf sv).toNat)
  case atStart => exact ⟨0, rfl, Nat.zero_le _, rfl, HR.out⟩
  case round =>
    obtain ⟨i, rfl, hi, rfl, HD⟩ := hrel
    clear HR
    by_cases hlt : i < s.size
    · have hd := hide (drop_at s i hlt)
      have HT := hide (inNm_iff s[i])
      have HX : Hid (¬ ((97 ≤ s[i].toNat ∧ s[i].toNat ≤ 122) ∨ (48 ≤ s[i].toNat ∧ s[i].toNat ≤ 57) ∨ s[i].toNat = 45 ∨ s[i].toNat = 95 ∨ s[i].toNat = 46) → r = false) := fun h => by
        have hc : inNm s[i] = false := by rw [← Bool.not_eq_true]; exact fun c => h (HT.out.1 c)
        rw [← HD.out, hd.out, List.all_cons, hc]; simp
      have HY : Hid (((97 ≤ s[i].toNat ∧ s[i].toNat ≤ 122) ∨ (48 ≤ s[i].toNat ∧ s[i].toNat ≤ 57) ∨ s[i].toNat = 45 ∨ s[i].toNat = 95 ∨ s[i].toNat = 46) → (wI s.size 1 40 && (s.data.toList.drop (i + 1)).all inNm) = r) := fun h => by
        have := HD.out
        rwa [hd.out, List.all_cons, HT.out.2 h, Bool.true_and] at this
      clear HD hd HT
      generalize hb : s[i].toNat = n at *
      by_cases a1 : 97 ≤ n
      · by_cases a2 : n ≤ 122
        · have f0 : (97 : Int) ≤ n := by first | omega | (simp; omega)
          have f1 : (n : Int) ≤ 122 := by first | omega | (simp; omega)
          have f2 : (48 : Int) ≤ n := by first | omega | (simp; omega)
          have f3 : ¬ (n : Int) ≤ 57 := by first | omega | (simp; omega)
          have HD2 := hide (HY.out (by omega))
          clear HY HX
          go_wp2_with fail
          go_roundw
          · exact ⟨i + 1, rfl, by omega, trivial, HD2.out⟩
          · show s.size - ((i : Int) + 1).toNat < s.size - (i : Int).toNat
            omega
        · have f0 : (97 : Int) ≤ n := by first | omega | (simp; omega)
          have f1 : ¬ (n : Int) ≤ 122 := by first | omega | (simp; omega)
          have f2 : (48 : Int) ≤ n := by first | omega | (simp; omega)
          have f3 : ¬ (n : Int) ≤ 57 := by first | omega | (simp; omega)
          have f4 : ((n : Int) != 45) = true := by first | omega | (simp; omega)
          have f5 : ((n : Int) != 95) = true := by first | omega | (simp; omega)
          have f6 : ((n : Int) != 46) = true := by first | omega | (simp; omega)
          obtain rfl : r = false := HX.out (by omega)
          clear HY HX
          go_wp2_with fail
          go_ret
          exact ⟨rfl, rfl⟩
      · by_cases a2 : 48 ≤ n
        · by_cases a3 : n ≤ 57
          · have f0 : ¬ (97 : Int) ≤ n := by first | omega | (simp; omega)
            have f1 : (48 : Int) ≤ n := by first | omega | (simp; omega)
            have f2 : (n : Int) ≤ 57 := by first | omega | (simp; omega)
            have HD2 := hide (HY.out (by omega))
            clear HY HX
            go_wp2_with fail
            go_roundw
            · exact ⟨i + 1, rfl, by omega, trivial, HD2.out⟩
            · show s.size - ((i : Int) + 1).toNat < s.size - (i : Int).toNat
              omega
          · by_cases a4 : n = 95
            · have f0 : ¬ (97 : Int) ≤ n := by first | omega | (simp; omega)
              have f1 : (48 : Int) ≤ n := by first | omega | (simp; omega)
              have f2 : ¬ (n : Int) ≤ 57 := by first | omega | (simp; omega)
              have f3 : ((n : Int) != 45) = true := by first | omega | (simp; omega)
              have f4 : ((n : Int) != 95) = false := by first | omega | (simp; omega)
              have HD2 := hide (HY.out (by omega))
              clear HY HX
              go_wp2_with fail
              go_roundw
              · exact ⟨i + 1, rfl, by omega, trivial, HD2.out⟩
              · show s.size - ((i : Int) + 1).toNat < s.size - (i : Int).toNat
                omega
            · have f0 : ¬ (97 : Int) ≤ n := by first | omega | (simp; omega)
              have f1 : (48 : Int) ≤ n := by first | omega | (simp; omega)
              have f2 : ¬ (n : Int) ≤ 57 := by first | omega | (simp; omega)
              have f3 : ((n : Int) != 45) = true := by first | omega | (simp; omega)
              have f4 : ((n : Int) != 95) = true := by first | omega | (simp; omega)
              have f5 : ((n : Int) != 46) = true := by first | omega | (simp; omega)
              obtain rfl : r = false := HX.out (by omega)
              clear HY HX
              go_wp2_with fail
              go_ret
              exact ⟨rfl, rfl⟩
        · by_cases a3 : n = 45
          · have f0 : ¬ (97 : Int) ≤ n := by first | omega | (simp; omega)
            have f1 : ¬ (48 : Int) ≤ n := by first | omega | (simp; omega)
            have f2 : ((n : Int) != 45) = false := by first | omega | (simp; omega)
            have HD2 := hide (HY.out (by omega))
            clear HY HX
            go_wp2_with fail
            go_roundw
            · exact ⟨i + 1, rfl, by omega, trivial, HD2.out⟩
            · show s.size - ((i : Int) + 1).toNat < s.size - (i : Int).toNat
              omega
          · by_cases a4 : n = 46
            · have f0 : ¬ (97 : Int) ≤ n := by first | omega | (simp; omega)
              have f1 : ¬ (48 : Int) ≤ n := by first | omega | (simp; omega)
              have f2 : ((n : Int) != 45) = true := by first | omega | (simp; omega)
              have f3 : ((n : Int) != 95) = true := by first | omega | (simp; omega)
              have f4 : ((n : Int) != 46) = false := by first | omega | (simp; omega)
              have HD2 := hide (HY.out (by omega))
              clear HY HX
              go_wp2_with fail
              go_roundw
              · exact ⟨i + 1, rfl, by omega, trivial, HD2.out⟩
              · show s.size - ((i : Int) + 1).toNat < s.size - (i : Int).toNat
                omega
            · have f0 : ¬ (97 : Int) ≤ n := by first | omega | (simp; omega)
              have f1 : ¬ (48 : Int) ≤ n := by first | omega | (simp; omega)
              have f2 : ((n : Int) != 45) = true := by first | omega | (simp; omega)
              have f3 : ((n : Int) != 95) = true := by first | omega | (simp; omega)
              have f4 : ((n : Int) != 46) = true := by first | omega | (simp; omega)
              obtain rfl : r = false := HX.out (by omega)
              clear HY HX
              go_wp2_with fail
              go_ret
              exact ⟨rfl, rfl⟩
    · have HE : Hid (wI s.size 1 40 = r) := by
        have := HD.out
        rwa [List.drop_eq_nil_of_le (by simp; omega), List.all_nil, Bool.and_true] at this
      clear HD
      by_cases c1 : 1 ≤ s.size
      · by_cases c2 : s.size ≤ 40
        · obtain rfl : r = true := by rw [← HE.out, wI]; simp; omega
          go_wp2_with fail
          go_ret
          exact ⟨by simp; omega, rfl⟩
        · obtain rfl : r = false := by rw [← HE.out, wI]; simp; omega
          go_wp2_with fail
          go_ret
          exact ⟨by simp; omega, rfl⟩
      · obtain rfl : r = false := by rw [← HE.out, wI]; simp; omega
        go_wp2_with fail
        go_ret
        exact ⟨by simp, rfl⟩

end Gr
end Go.Proofs.YtfoahfgehmghcaaGreatDoor
