/- Contracts of plan's small functions. -/
import Derived.Test.YtbjcckfhfbjchaaGreatCDp
import Derived.Lib.SmallJoins
namespace Go.Proofs.YtbjcckfhfbjchaaGreat
namespace Gr
open Go.RowKit

theorem within_any (n a b : Int) (w : World) :
    Calls Tryz.prog 105 #[.int .i64 n, .int .i64 a, .int .i64 b] w fun e w' => e = .returned (.bool (wI n a b)) ∧ w' = w := by
  generalize hr : wI n a b = r
  have HR := hide hr
  clear hr
  by_cases h : a ≤ n
  · by_cases h1 : n ≤ b
    · obtain rfl : r = true := by rw [← HR.out, wI]; simp [h, h1]
      go_enter Tryz.func105, Tryz.ntmps105
      go_wp2
      go_ret
      exact ⟨by simp, rfl⟩
    · obtain rfl : r = false := by rw [← HR.out, wI]; simp [h1]
      go_enter Tryz.func105, Tryz.ntmps105
      go_wp2
      go_ret
      exact ⟨by simp, rfl⟩
  · obtain rfl : r = false := by rw [← HR.out, wI]; simp; omega
    go_enter Tryz.func105, Tryz.ntmps105
    go_wp2
    go_ret
    exact ⟨by simp, rfl⟩

theorem inName_any (b : UInt8) (w : World) :
    Calls Tryz.prog 150 #[.int .u8 (b.toNat : Int)] w fun e w' => e = .returned (.bool (inNm b)) ∧ w' = w := by
  unfold inNm
  generalize b.toNat = n
  go_enter Tryz.func150, Tryz.ntmps150
  go_wp2
  all_goals go_ret
  all_goals refine ⟨congrArg (fun b => Ending.returned (.bool b)) ?_, rfl⟩
  all_goals (rw [Bool.eq_iff_iff]; simp only [Bool.or_eq_true, Bool.and_eq_true, decide_eq_true_eq, beq_iff_eq, true_iff]; omega)

theorem drop_at (s : ByteArray) (p : Nat) (h : p < s.size) : s.data.toList.drop p = s[p]'h :: s.data.toList.drop (p + 1) := by
  have hl : p < s.data.toList.length := by simpa using h
  rw [List.drop_eq_getElem_cons hl]
  rfl
set_option maxHeartbeats 1000000 in
theorem isName_any (s : ByteArray) (w : World) (hs : s.size ≤ 9223372036854775807) :
    Calls Tryz.prog 104 #[.string s] w fun e w' => e = .returned (.bool (isNm s)) ∧ w' = w := by
  generalize hr : isNm s = r
  have HR := hide hr
  clear hr
  have WI := hide (fun w => within_any (s.size : Int) 1 40 w)
  go_enter Tryz.func104, Tryz.ntmps104
  go_wp2_with fail
  go_at_call 105
  refine (WI.out _).mono ?_
  rintro e w1 ⟨rfl, rfl⟩
  cases h : wI (s.size : Int) 1 40
  · obtain rfl : r = false := by rw [← HR.out, isNm, h]; rfl
    go_wp2_with fail
    go_ret
    exact ⟨rfl, rfl⟩
  · have hb : 1 ≤ s.size ∧ s.size ≤ 40 := by unfold wI at h; simp at h; omega
    have hall : isNm s = s.data.toList.all inNm := by unfold isNm; rw [h]; rfl
    have HA := hide (hall.symm.trans HR.out)
    clear hall HR WI h
    go_wp2_with fail
    go_loopw [10] (fun sv wr => ∃ i : Nat, sv = .int .i64 (i : Nat) ∧ i ≤ s.size ∧ wr = w1 ∧ Hid ((s.data.toList.drop i).all inNm = r)) (fun sv _ => s.size - (intOf sv).toNat)
    case atStart => exact ⟨0, rfl, Nat.zero_le _, rfl, HA.out⟩
    case round =>
      obtain ⟨i, rfl, hi, rfl, HD⟩ := hrel
      by_cases hlt : i < s.size
      · have hd := hide (drop_at s i hlt)
        cases hb : inNm s[i]
        · have hD := HD.out
          rw [hd.out, List.all_cons, hb] at hD
          simp only [Bool.false_and] at hD
          subst hD
          go_wp2_with (go_at_call 150; refine (inName_any s[i] _).mono ?_; rintro e w2 ⟨rfl, rfl⟩; rw [hb])
          go_ret
          exact ⟨rfl, rfl⟩
        · have hD := HD.out
          rw [hd.out, List.all_cons, hb] at hD
          simp only [Bool.true_and] at hD
          have HD2 := hide hD
          clear hD HD
          go_wp2_with (go_at_call 150; refine (inName_any s[i] _).mono ?_; rintro e w2 ⟨rfl, rfl⟩; rw [hb])
          go_roundw
          · exact ⟨i + 1, rfl, by omega, trivial, HD2.out⟩
          · show s.size - ((i : Int) + 1).toNat < s.size - (i : Int).toNat
            omega
      · obtain rfl : r = true := by rw [← HD.out, List.drop_eq_nil_of_le (by simp; omega)]; rfl
        go_wp2_with fail
        go_ret
        exact ⟨rfl, rfl⟩

theorem drop_z (z : List Int) (p : Nat) (x : Int) (h : z[p]? = some x) : z.drop p = x :: z.drop (p + 1) := by
  obtain ⟨h1, h2⟩ := List.getElem?_eq_some_iff.1 h
  rw [List.drop_eq_getElem_cons h1, h2]
set_option maxHeartbeats 1000000 in
theorem listHolds_any (s : Option Addr × Nat × Nat) (z : List Int) (own cnt : Int) (B : Nat) (w : World) (hz : RdZ B w s z) :
    Calls Tryz.prog 153 #[.slice s.1 s.2.1 s.2.2, .int .i64 own, .int .i64 cnt] w fun e w' => e = .returned (.bool (lOk (-1) z own cnt)) ∧ w' = w := by
  obtain ⟨a, n, c⟩ := s
  have HN : Hid (n = z.length) := hz.1
  have hn2 : n ≤ 17592186044416 := hz.2.1
  have HZ := hide hz
  clear hz
  generalize hr : lOk (-1) z own cnt = r
  have HR := hide hr
  clear hr
  go_enter Tryz.func153, Tryz.ntmps153
  go_wp2_with fail
  go_loopw [7, 12] (fun av iv wr => ∃ (i : Nat) (ah : Int), av = .int .i64 ah ∧ iv = .int .i64 (i : Nat) ∧ i ≤ n ∧ wr = w ∧ Hid (lOk ah (z.drop i) own cnt = r)) (fun _ iv _ => n - (intOf iv).toNat)
  case atStart => exact ⟨0, -1, rfl, rfl, Nat.zero_le _, rfl, HR.out⟩
  case round =>
    obtain ⟨i, ah, rfl, rfl, hi, rfl, HD⟩ := hrel
    by_cases hlt : i < n
    · obtain ⟨g, off, x, rfl, hg, hx, hc⟩ := HZ.out.at hlt
      have hd := drop_z z i x hx
      have HD2 : Hid ((!(decide (x ≤ ah) || decide (cnt ≤ x) || decide (x = own)) && lOk x (z.drop (i + 1)) own cnt) = r) := by
        have := HD.out; rw [hd] at this; exact this
      clear hx hd HD HZ
      by_cases h1 : x ≤ ah
      · obtain rfl : r = false := by rw [← HD2.out]; simp [h1]
        go_wp2_with fail
        go_ret
        exact ⟨rfl, rfl⟩
      · by_cases h2 : cnt ≤ x
        · obtain rfl : r = false := by rw [← HD2.out]; simp [h2]
          go_wp2_with fail
          go_ret
          exact ⟨rfl, rfl⟩
        · by_cases h3 : x = own
          · obtain rfl : r = false := by rw [← HD2.out]; simp [h3]
            go_wp2_with fail
            go_ret
            exact ⟨rfl, rfl⟩
          · have HD3 : Hid (lOk x (z.drop (i + 1)) own cnt = r) := by have := HD2.out; simp only [h1, h2, h3, decide_false, Bool.or_self, Bool.not_false, Bool.true_and] at this; exact this
            clear HD2
            go_wp2_with fail
            go_roundw
            · exact ⟨i + 1, x, rfl, rfl, by omega, trivial, HD3.out⟩
            · show n - ((i : Int) + 1).toNat < n - (i : Int).toNat
              omega
    · obtain rfl : r = true := by rw [← HD.out, List.drop_eq_nil_of_le (by have := HN.out; omega)]; rfl
      go_wp2_with fail
      go_ret
      exact ⟨rfl, rfl⟩

set_option maxHeartbeats 1000000 in
theorem index_any (s : Option Addr × Nat × Nat) (z : List Int) (v : Int) (B : Nat) (w : World) (hz : RdZ B w s z) :
    Calls Tryz.prog 182 #[.slice s.1 s.2.1 s.2.2, .int .i64 v] w fun e w' => (∃ i : Int, e = .returned (.int .i64 i) ∧ -1 ≤ i ∧ (0 ≤ i ↔ z.contains v = true)) ∧ w' = w := by
  obtain ⟨a, n, c⟩ := s
  have HN : Hid (n = z.length) := hz.1
  have hn2 : n ≤ 17592186044416 := hz.2.1
  have HZ := hide hz
  clear hz
  go_enter Tryz.func182, Tryz.ntmps182
  go_wp2_with fail
  go_loopw [8] (fun iv wr => ∃ i : Nat, iv = .int .i64 (i : Nat) ∧ i ≤ n ∧ wr = w ∧ Hid (∀ k, k < i → z[k]? ≠ some v)) (fun iv _ => n - (intOf iv).toNat)
  case atStart => exact ⟨0, rfl, Nat.zero_le _, rfl, fun k hk => by omega⟩
  case round =>
    obtain ⟨i, rfl, hi, rfl, HD⟩ := hrel
    by_cases hlt : i < n
    · obtain ⟨g, off, x, rfl, hg, hx, hc⟩ := HZ.out.at hlt
      have HX := hide hx
      clear hx HZ
      by_cases h1 : v = x
      · subst h1
        go_wp2_with fail
        go_ret
        exact ⟨⟨i, rfl, by omega, fun _ => by rw [List.contains_iff_mem]; exact List.mem_of_getElem? HX.out, fun _ => by omega⟩, rfl⟩
      · go_wp2_with fail
        go_roundw
        · refine ⟨i + 1, rfl, by omega, trivial, fun k hk => ?_⟩
          by_cases e : k = i
          · subst e; rw [HX.out]; intro e; injection e with e; exact h1 e.symm
          · exact HD.out k (by omega)
        · show n - ((i : Int) + 1).toNat < n - (i : Int).toNat
          omega
    · go_wp2_with fail
      go_ret
      refine ⟨⟨-1, rfl, by omega, fun h => by omega, fun h => ?_⟩, rfl⟩
      rw [List.contains_iff_mem] at h
      obtain ⟨k, hk, e⟩ := List.mem_iff_getElem.1 h
      exact absurd (by rw [List.getElem?_eq_getElem hk, e]) (HD.out k (by have := HN.out; omega))

theorem contains_any (s : Option Addr × Nat × Nat) (z : List Int) (v : Int) (B : Nat) (w : World) (hz : RdZ B w s z) :
    Calls Tryz.prog 152 #[.slice s.1 s.2.1 s.2.2, .int .i64 v] w fun e w' => e = .returned (.bool (z.contains v)) ∧ w' = w := by
  have I := hide (index_any s z v B w hz)
  go_enter Tryz.func152, Tryz.ntmps152
  go_wp2_with fail
  go_at_call 182
  refine I.out.mono ?_
  rintro e w1 ⟨⟨i, rfl, h1, h2⟩, rfl⟩
  have H2 := hide h2
  clear h2
  go_wp2_with fail
  go_ret
  refine ⟨congrArg (fun b => Ending.returned (.bool b)) ?_, rfl⟩
  rw [Bool.eq_iff_iff, decide_eq_true_iff]
  exact H2.out

set_option maxHeartbeats 2000000 in
theorem fieldsHold_any (q : Nd) (w : World) :
    Calls Tryz.prog 107 #[.agg q.row.toArray] w fun e w' => e = .returned (.bool (fOk q)) ∧ Keep (fun _ => False) w w' := by
  obtain ⟨nm, la, bu, cl, be, ba, ca, ji, ⟨ne1, ne2, ne3⟩, ⟨af1, af2, af3⟩⟩ := q
  have W1 := hide (fun w => within_any la 0 15 w)
  have W2 := hide (fun w => within_any bu 1 100 w)
  have W3 := hide (fun w => within_any cl 1 1099511627776 w)
  have W4 := hide (fun w => within_any be 0 1099511627776 w)
  have W5 := hide (fun w => within_any ca 1 1099511627776 w)
  have W6 := hide (fun w => within_any ba 1 ca w)
  have W7 := hide (fun w => within_any ji 0 1099511627776 w)
  have KW := hide (Keep.alloc (fun _ => False) w (.cells #[.string nm, .int .i64 la, .int .i64 bu, .int .i64 cl, .int .i64 be, .int .i64 ba, .int .i64 ca, .int .i64 ji, .slice ne1 ne2 ne3, .slice af1 af2 af3] 57))
  simp only [Nd.row]
  unfold fOk
  generalize h1 : wI la 0 15 = b1 at *
  generalize h2 : wI bu 1 100 = b2 at *
  generalize h3 : wI cl 1 1099511627776 = b3 at *
  generalize h4 : wI be 0 1099511627776 = b4 at *
  generalize h5 : wI ca 1 1099511627776 = b5 at *
  generalize h6 : wI ba 1 ca = b6 at *
  generalize h7 : wI ji 0 1099511627776 = b7 at *
  clear h1 h2 h3 h4 h5 h6 h7
  go_enter Tryz.func107, Tryz.ntmps107
  go_wp2_with fail
  go_at_call 105
  refine (W1.out _).mono ?_
  rintro e w1 ⟨rfl, rfl⟩
  cases b1
  · go_wp2_with fail
    go_ret
    exact ⟨rfl, KW.out⟩
  go_wp2_with fail
  go_at_call 105
  refine (W2.out _).mono ?_
  rintro e w1 ⟨rfl, rfl⟩
  cases b2
  · go_wp2_with fail
    go_ret
    exact ⟨rfl, KW.out⟩
  go_wp2_with fail
  go_at_call 105
  refine (W3.out _).mono ?_
  rintro e w1 ⟨rfl, rfl⟩
  cases b3
  · go_wp2_with fail
    go_ret
    exact ⟨rfl, KW.out⟩
  go_wp2_with fail
  go_at_call 105
  refine (W4.out _).mono ?_
  rintro e w1 ⟨rfl, rfl⟩
  cases b4
  · go_wp2_with fail
    go_ret
    exact ⟨rfl, KW.out⟩
  go_wp2_with fail
  go_at_call 105
  refine (W5.out _).mono ?_
  rintro e w1 ⟨rfl, rfl⟩
  cases b5
  · go_wp2_with fail
    go_ret
    exact ⟨rfl, KW.out⟩
  go_wp2_with fail
  go_at_call 105
  refine (W6.out _).mono ?_
  rintro e w1 ⟨rfl, rfl⟩
  cases b6
  · go_wp2_with fail
    go_ret
    exact ⟨rfl, KW.out⟩
  go_wp2_with fail
  go_at_call 105
  refine (W7.out _).mono ?_
  rintro e w1 ⟨rfl, rfl⟩
  go_wp2_with fail
  go_ret
  exact ⟨rfl, KW.out⟩
end Gr
end Go.Proofs.YtbjcckfhfbjchaaGreat
