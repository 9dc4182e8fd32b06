/- The document's Parse (escapementref11): names and numbers. -/
import Derived.Test.YtfoahfgehmghcaaGreatDoorUSpT
import Derived.Test.YtfoahfgehmghcaaGreatDoorUNum
import Derived.Test.YtfoahfgehmghcaaGreatDoorGRfN
namespace Go.Proofs.YtfoahfgehmghcaaGreatDoor
namespace Gr
open Go.RowKit

set_option maxHeartbeats 2000000 in
theorem ref11Name_any (s : ByteArray) (w : World) (hs : s.size ≤ 9223372036854775807) :
    Calls Tryz.prog 45 #[.string s] w fun e w' => e = .returned (.bool (isNm s)) ∧ w' = w := by
  generalize hr : isNm s = r
  have HR : Hid ((wI s.size 1 40 && s.data.toList.all inNm) = r) := hr
  clear hr
  go_enter Tryz.func45, Tryz.ntmps45
  go_wp2_with fail
  go_loopw [3] (fun sv wr => ∃ i : Nat, sv = .int .i64 (i : Nat) ∧ i ≤ s.size ∧ wr = w ∧ Hid ((wI s.size 1 40 && (s.data.toList.drop i).all inNm) = r)) (fun sv _ => s.size - (intOf sv).toNat)
  case atStart => exact ⟨0, rfl, Nat.zero_le _, rfl, HR.out⟩
  case round =>
    obtain ⟨i, rfl, hi, rfl, HD⟩ := hrel
    clear HR
    by_cases hlt : i < s.size
    · have hd := hide (drop_at s i hlt)
      have HT := hide (inNm_iff s[i])
      have HX : Hid (¬ ((97 ≤ s[i].toNat ∧ s[i].toNat ≤ 122) ∨ (48 ≤ s[i].toNat ∧ s[i].toNat ≤ 57) ∨ s[i].toNat = 45 ∨ s[i].toNat = 95 ∨ s[i].toNat = 46) → r = false) := fun h => by
        have hc : inNm s[i] = false := by rw [← Bool.not_eq_true]; exact fun c => h (HT.out.1 c)
        rw [← HD.out, hd.out, List.all_cons, hc]; simp
      have HY : Hid (((97 ≤ s[i].toNat ∧ s[i].toNat ≤ 122) ∨ (48 ≤ s[i].toNat ∧ s[i].toNat ≤ 57) ∨ s[i].toNat = 45 ∨ s[i].toNat = 95 ∨ s[i].toNat = 46) → (wI s.size 1 40 && (s.data.toList.drop (i + 1)).all inNm) = r) := fun h => by
        have := HD.out
        rwa [hd.out, List.all_cons, HT.out.2 h, Bool.true_and] at this
      clear HD hd HT
      generalize hb : s[i].toNat = n at *
      by_cases a1 : 97 ≤ n
      · by_cases a2 : n ≤ 122
        · have f0 : (97 : Int) ≤ n := by first | omega | (simp; omega)
          have f1 : (n : Int) ≤ 122 := by first | omega | (simp; omega)
          have f2 : (48 : Int) ≤ n := by first | omega | (simp; omega)
          have f3 : ¬ (n : Int) ≤ 57 := by first | omega | (simp; omega)
          have HD2 := hide (HY.out (by omega))
          clear HY HX
          go_wp2_with fail
          go_roundw
          · exact ⟨i + 1, rfl, by omega, trivial, HD2.out⟩
          · show s.size - ((i : Int) + 1).toNat < s.size - (i : Int).toNat
            omega
        · have f0 : (97 : Int) ≤ n := by first | omega | (simp; omega)
          have f1 : ¬ (n : Int) ≤ 122 := by first | omega | (simp; omega)
          have f2 : (48 : Int) ≤ n := by first | omega | (simp; omega)
          have f3 : ¬ (n : Int) ≤ 57 := by first | omega | (simp; omega)
          have f4 : ((n : Int) != 45) = true := by first | omega | (simp; omega)
          have f5 : ((n : Int) != 95) = true := by first | omega | (simp; omega)
          have f6 : ((n : Int) != 46) = true := by first | omega | (simp; omega)
          obtain rfl : r = false := HX.out (by omega)
          clear HY HX
          go_wp2_with fail
          go_ret
          exact ⟨rfl, rfl⟩
      · by_cases a2 : 48 ≤ n
        · by_cases a3 : n ≤ 57
          · have f0 : ¬ (97 : Int) ≤ n := by first | omega | (simp; omega)
            have f1 : (48 : Int) ≤ n := by first | omega | (simp; omega)
            have f2 : (n : Int) ≤ 57 := by first | omega | (simp; omega)
            have HD2 := hide (HY.out (by omega))
            clear HY HX
            go_wp2_with fail
            go_roundw
            · exact ⟨i + 1, rfl, by omega, trivial, HD2.out⟩
            · show s.size - ((i : Int) + 1).toNat < s.size - (i : Int).toNat
              omega
          · by_cases a4 : n = 95
            · have f0 : ¬ (97 : Int) ≤ n := by first | omega | (simp; omega)
              have f1 : (48 : Int) ≤ n := by first | omega | (simp; omega)
              have f2 : ¬ (n : Int) ≤ 57 := by first | omega | (simp; omega)
              have f3 : ((n : Int) != 45) = true := by first | omega | (simp; omega)
              have f4 : ((n : Int) != 95) = false := by first | omega | (simp; omega)
              have HD2 := hide (HY.out (by omega))
              clear HY HX
              go_wp2_with fail
              go_roundw
              · exact ⟨i + 1, rfl, by omega, trivial, HD2.out⟩
              · show s.size - ((i : Int) + 1).toNat < s.size - (i : Int).toNat
                omega
            · have f0 : ¬ (97 : Int) ≤ n := by first | omega | (simp; omega)
              have f1 : (48 : Int) ≤ n := by first | omega | (simp; omega)
              have f2 : ¬ (n : Int) ≤ 57 := by first | omega | (simp; omega)
              have f3 : ((n : Int) != 45) = true := by first | omega | (simp; omega)
              have f4 : ((n : Int) != 95) = true := by first | omega | (simp; omega)
              have f5 : ((n : Int) != 46) = true := by first | omega | (simp; omega)
              obtain rfl : r = false := HX.out (by omega)
              clear HY HX
              go_wp2_with fail
              go_ret
              exact ⟨rfl, rfl⟩
        · by_cases a3 : n = 45
          · have f0 : ¬ (97 : Int) ≤ n := by first | omega | (simp; omega)
            have f1 : ¬ (48 : Int) ≤ n := by first | omega | (simp; omega)
            have f2 : ((n : Int) != 45) = false := by first | omega | (simp; omega)
            have HD2 := hide (HY.out (by omega))
            clear HY HX
            go_wp2_with fail
            go_roundw
            · exact ⟨i + 1, rfl, by omega, trivial, HD2.out⟩
            · show s.size - ((i : Int) + 1).toNat < s.size - (i : Int).toNat
              omega
          · by_cases a4 : n = 46
            · have f0 : ¬ (97 : Int) ≤ n := by first | omega | (simp; omega)
              have f1 : ¬ (48 : Int) ≤ n := by first | omega | (simp; omega)
              have f2 : ((n : Int) != 45) = true := by first | omega | (simp; omega)
              have f3 : ((n : Int) != 95) = true := by first | omega | (simp; omega)
              have f4 : ((n : Int) != 46) = false := by first | omega | (simp; omega)
              have HD2 := hide (HY.out (by omega))
              clear HY HX
              go_wp2_with fail
              go_roundw
              · exact ⟨i + 1, rfl, by omega, trivial, HD2.out⟩
              · show s.size - ((i : Int) + 1).toNat < s.size - (i : Int).toNat
                omega
            · have f0 : ¬ (97 : Int) ≤ n := by first | omega | (simp; omega)
              have f1 : ¬ (48 : Int) ≤ n := by first | omega | (simp; omega)
              have f2 : ((n : Int) != 45) = true := by first | omega | (simp; omega)
              have f3 : ((n : Int) != 95) = true := by first | omega | (simp; omega)
              have f4 : ((n : Int) != 46) = true := by first | omega | (simp; omega)
              obtain rfl : r = false := HX.out (by omega)
              clear HY HX
              go_wp2_with fail
              go_ret
              exact ⟨rfl, rfl⟩
    · have HE : Hid (wI s.size 1 40 = r) := by
        have := HD.out
        rwa [List.drop_eq_nil_of_le (by simp; omega), List.all_nil, Bool.and_true] at this
      clear HD
      by_cases c1 : 1 ≤ s.size
      · by_cases c2 : s.size ≤ 40
        · obtain rfl : r = true := by rw [← HE.out, wI]; simp; omega
          go_wp2_with fail
          go_ret
          exact ⟨by simp; omega, rfl⟩
        · obtain rfl : r = false := by rw [← HE.out, wI]; simp; omega
          go_wp2_with fail
          go_ret
          exact ⟨by simp; omega, rfl⟩
      · obtain rfl : r = false := by rw [← HE.out, wI]; simp; omega
        go_wp2_with fail
        go_ret
        exact ⟨by simp, rfl⟩

end Gr
namespace U
namespace Sp
open Go.RowKit

theorem isNm_ba (l : List UInt8) : Gr.isNm (ba l) = nmL l := by
  unfold Gr.isNm nmL Gr.wI
  rw [ba_size, ba_data]
  congr 1
  rw [Bool.eq_iff_iff]
  simp
  omega
theorem refName_any (l : List UInt8) (w : World) (hl : l.length ≤ 65536) :
    Calls Tryz.prog 45 #[.string (ba l)] w fun e w' => e = .returned (.bool (nmL l)) ∧ w' = w := by
  have := Gr.ref11Name_any (ba l) w (by rw [ba_size]; omega)
  rw [isNm_ba] at this
  exact this
/-- what isNumber answers -/
theorem val_bound : ∀ (l : List UInt8) (n : Nat), l.all digB = true → val n l < (n + 1) * 10 ^ l.length
  | [], n, _ => by rw [val_nil]; simp
  | b :: r, n, h => by
    rw [List.all_cons, Bool.and_eq_true] at h
    rw [val_cons]
    have := val_bound r (n * 10 + (b.toNat - 48)) h.2
    have hb : b.toNat - 48 ≤ 9 := by
      have := h.1
      unfold digB at this
      simp only [Bool.and_eq_true, decide_eq_true_eq] at this
      omega
    have h2 : (n * 10 + (b.toNat - 48) + 1) * 10 ^ r.length ≤ ((n + 1) * 10) * 10 ^ r.length := Nat.mul_le_mul_right _ (by omega)
    rw [List.length_cons, Nat.pow_succ, Nat.mul_comm (10 ^ r.length) 10, ← Nat.mul_assoc]
    omega
theorem numNo {l : List UInt8} (h : l = [] ∨ (l.headD 0 = 48 ∧ 1 < l.length) ∨ 19 < l.length ∨ l.all digB = false ∨ 4611686018427387903 < val 0 l) : numEnd l = .returned (.tuple #[.int .i64 0, .bool false]) := by
  refine numEnd_no ?_
  rw [← rnum_eq]
  unfold rnum
  split
  · rfl
  · rename_i c
    rw [if_neg]
    rintro ⟨h1, h2⟩
    rcases h with h | h | h | h | h
    · exact c (.inl h)
    · exact c (.inr (.inl h))
    · exact c (.inr (.inr h))
    · rw [h] at h1; cases h1
    · omega
theorem numYes {l : List UInt8} (h0 : l ≠ []) (h1 : ¬ (l.headD 0 = 48 ∧ 1 < l.length)) (h2 : l.length ≤ 19) (h3 : l.all digB = true) (h4 : val 0 l ≤ 4611686018427387903) : numEnd l = .returned (.tuple #[.int .i64 ((val 0 l : Nat) : Int), .bool true]) := by
  refine numEnd_yes ?_
  rw [← rnum_eq]
  unfold rnum
  rw [if_neg, if_pos ⟨h3, h4⟩]
  rintro (h | h | h)
  · exact h0 h
  · exact h1 h
  · omega
theorem val_snoc (n : Nat) (l : List UInt8) (b : UInt8) : val n (l ++ [b]) = val n l * 10 + (b.toNat - 48) := by unfold val; rw [List.foldl_append]; rfl
theorem get_ba (l : List UInt8) (i : Nat) (h : i < (ba l).size) : l[i]? = some ((ba l)[i]'h) := by
  have := drop_at (ba l) i h
  rw [ba_data] at this
  have h2 := congrArg List.head? this
  rw [List.head?_drop] at h2
  exact h2
set_option maxRecDepth 100000 in
set_option maxHeartbeats 2000000 in
theorem refNumber_any (l : List UInt8) (w : World) (hl : l.length ≤ 65536) :
    Calls Tryz.prog 73 #[.string (ba l)] w fun e w' => e = numEnd l ∧ w' = w := by
  have hem := bytes_empty (ba l)
  have HN := hide (fun h => numNo (l := l) h)
  have HY := hide (fun h0 h1 h2 h3 h4 => numYes (l := l) h0 h1 h2 h3 h4)
  have HG := hide (fun i h => get_ba l i h)
  have HVB := hide (fun z h => val_bound z 0 h)
  generalize numEnd l = E at *
  have hsz := ba_size l
  generalize ba l = s at *
  have HZ := hide hsz
  rw [hsz] at hem
  by_cases h0 : l.length = 0
  · have he : s.toList.isEmpty = true := by rw [hem]; simp [h0]
    obtain rfl := HN.out (.inl (List.eq_nil_of_length_eq_zero h0))
    clear hem hsz HG
    go_enter Tryz.func73, Tryz.ntmps73
    go_wp2_with fail
    go_ret2
    exact ⟨rfl, rfl⟩
  · have he : s.toList.isEmpty = false := by rw [hem]; simp [h0]
    have hne : l ≠ [] := fun e => h0 (by rw [e]; rfl)
    have hp : 0 < s.size := by omega
    have g0 := HG.out 0 hp
    have hhd : l.headD 0 = s[0] := by
      rw [List.headD_eq_head?_getD, List.head?_eq_getElem?, g0]; rfl
    have HNE := hide hne
    clear hem g0 hne h0
    by_cases c1 : 19 < l.length
    · obtain rfl := HN.out (.inr (.inr (.inl c1)))
      have d1 : (19 : Int) < s.size := by have := HZ.out; omega
      have d2 : (1 : Int) < s.size := by omega
      clear HN HY hsz hhd
      by_cases c2 : s[0].toNat = 48
      · have e2 : ((s[0].toNat : Int) == 48) = true := by rw [c2]; rfl
        go_enter Tryz.func73, Tryz.ntmps73
        go_wp2_with fail
        go_ret2
        exact ⟨rfl, rfl⟩
      · have e2 : ((s[0].toNat : Int) == 48) = false := by simp; omega
        go_enter Tryz.func73, Tryz.ntmps73
        go_wp2_with fail
        go_ret2
        exact ⟨rfl, rfl⟩
    · have d1 : ¬ (19 : Int) < s.size := by have := HZ.out; omega
      by_cases c2 : l.headD 0 = 48 ∧ 1 < l.length
      · obtain rfl := HN.out (.inr (.inl c2))
        have d2 : (1 : Int) < s.size := by have := HZ.out; omega
        have e1 : s[0].toNat = 48 := by rw [← hhd, c2.1]; rfl
        generalize hq : s[0].toNat = n at *
        have e2 : ((n : Int) == 48) = true := by simp; omega
        clear HN HY hsz hhd c2 e1 HG
        go_enter Tryz.func73, Tryz.ntmps73
        go_wp2_with fail
        go_ret2
        exact ⟨rfl, rfl⟩
      · have HC2 := hide c2
        by_cases c3 : s[0].toNat = 48
        · have d2 : ¬ (1 : Int) < s.size := by
            have : ¬ 1 < l.length := fun h => c2 ⟨by rw [hhd]; exact UInt8.toNat_inj.1 c3, h⟩
            have := HZ.out
            omega
          have e2 : ((s[0].toNat : Int) == 48) = true := by rw [c3]; rfl
          clear hsz hhd c2 c3
          go_enter Tryz.func73, Tryz.ntmps73
          go_wp2_with fail
          go_loopw [4, 5] (fun nv iv wr => ∃ i n : Nat, nv = .int .u64 (n : Nat) ∧ iv = .int .i64 (i : Nat) ∧ i ≤ s.size ∧ wr = w ∧ Hid (n = val 0 (l.take i) ∧ (l.take i).all digB = true) ∧ n < 10 ^ i) (fun _ iv _ => s.size - (intOf iv).toNat)
          case atStart => exact ⟨0, 0, rfl, rfl, Nat.zero_le _, rfl, ⟨by simp [val], by simp⟩, by simp⟩
          case round =>
            obtain ⟨i, n, rfl, rfl, hi, rfl, HD, hn⟩ := hrel
            by_cases hlt : i < s.size
            · have hx := HG.out i hlt
              have htk : l.take (i + 1) = l.take i ++ [s[i]] := Gr.take_snoc l i _ hx
              have HBad : Hid (¬ (48 ≤ s[i].toNat ∧ s[i].toNat ≤ 57) → E = .returned (.tuple #[.int .i64 0, .bool false])) := fun h => HN.out (.inr (.inr (.inr (.inl (by
                rw [Bool.eq_false_iff]
                intro hall
                have := List.all_eq_true.1 hall s[i] (List.mem_of_getElem? hx)
                unfold digB at this
                simp only [Bool.and_eq_true, decide_eq_true_eq] at this
                exact h this)))))
              have HGd : Hid (48 ≤ s[i].toNat ∧ s[i].toNat ≤ 57 → n * 10 + (s[i].toNat - 48) = val 0 (l.take (i + 1)) ∧ (l.take (i + 1)).all digB = true) := fun h => by
                rw [htk, val_snoc, ← HD.out.1, List.all_append, HD.out.2]
                refine ⟨rfl, ?_⟩
                simp [digB, h.1, h.2]
              clear hx htk HD HN HY HG HVB
              have h19 : i ≤ 18 := by have := HZ.out; omega
              have hp10 : 10 ^ i ≤ 10 ^ 18 := Nat.pow_le_pow_right (by omega) h19
              have hpn : 10 ^ (i + 1) = 10 ^ i * 10 := Nat.pow_succ ..
              generalize hb : s[i].toNat = c at *
              by_cases a1 : 48 ≤ c
              · have f1 : (48 : Int) ≤ c := by omega
                by_cases a2 : c ≤ 57
                · have f2 : (c : Int) ≤ 57 := by omega
                  obtain ⟨m, hm⟩ : ∃ m : Nat, n * 10 + (c - 48) = m := ⟨_, rfl⟩
                  have hm' : 10 * (n : Int) + ((c : Int) - 48) = m := by omega
                  have HM : Hid (m = val 0 (l.take (i + 1)) ∧ (l.take (i + 1)).all digB = true) := by have := HGd.out ⟨a1, a2⟩; rw [hm] at this; exact this
                  have hmb : m < 10 ^ (i + 1) := by rw [hpn]; omega
                  have w1 : IntKind.u64.wrap (10 * (n : Int)) = 10 * (n : Int) := by rw [IntKind.wrap_u64]; omega
                  have w2 : IntKind.u8.wrap ((c : Int) - 48) = (c : Int) - 48 := by rw [IntKind.wrap_u8]; omega
                  have w3 : IntKind.u64.wrap ((c : Int) - 48) = (c : Int) - 48 := by rw [IntKind.wrap_u64]; omega
                  have w4 : IntKind.u64.wrap (m : Int) = (m : Int) := by rw [IntKind.wrap_u64]; omega
                  clear HBad HGd hpn hp10 hm
                  go_wp2_with fail
                  go_roundw
                  · exact ⟨i + 1, m, rfl, rfl, by omega, trivial, HM.out, hmb⟩
                  · show s.size - ((i : Int) + 1).toNat < s.size - (i : Int).toNat
                    omega
                · have f2 : ¬ (c : Int) ≤ 57 := by omega
                  obtain rfl := HBad.out (fun h => a2 h.2)
                  clear hpn hp10 hn
                  go_wp2_with fail
                  go_ret2
                  exact ⟨rfl, rfl⟩
              · have f1 : ¬ (48 : Int) ≤ c := by omega
                obtain rfl := HBad.out (fun h => a1 h.1)
                clear hpn hp10 hn
                go_wp2_with fail
                go_ret2
                exact ⟨rfl, rfl⟩
            · have hll : l.take i = l := List.take_of_length_le (by have := HZ.out; omega)
              obtain ⟨hv, hal⟩ := HD.out
              rw [hll] at hv hal
              clear hn
              by_cases c4 : n ≤ 4611686018427387903
              · have f4 : ¬ (4611686018427387904 : Int) ≤ n := by omega
                have hE := HY.out HNE.out HC2.out (by omega) hal (by rw [← hv]; exact c4)
                rw [← hv] at hE
                obtain rfl := hE
                have w5 : IntKind.i64.wrap (n : Int) = n := by rw [IntKind.wrap_i64]; omega
                clear HD hv hal hll HN HY HG HVB
                go_wp2_with fail
                go_ret2
                exact ⟨rfl, rfl⟩
              · have f4 : (4611686018427387904 : Int) ≤ n := by omega
                obtain rfl := HN.out (.inr (.inr (.inr (.inr (by rw [← hv]; omega)))))
                clear HD hv hal hll HN HY HG HVB
                go_wp2_with fail
                go_ret2
                exact ⟨rfl, rfl⟩
        · have e2 : ((s[0].toNat : Int) == 48) = false := by simp; omega
          clear hsz hhd c2 c3
          go_enter Tryz.func73, Tryz.ntmps73
          go_wp2_with fail
          go_loopw [4, 5] (fun nv iv wr => ∃ i n : Nat, nv = .int .u64 (n : Nat) ∧ iv = .int .i64 (i : Nat) ∧ i ≤ s.size ∧ wr = w ∧ Hid (n = val 0 (l.take i) ∧ (l.take i).all digB = true) ∧ n < 10 ^ i) (fun _ iv _ => s.size - (intOf iv).toNat)
          case atStart => exact ⟨0, 0, rfl, rfl, Nat.zero_le _, rfl, ⟨by simp [val], by simp⟩, by simp⟩
          case round =>
            obtain ⟨i, n, rfl, rfl, hi, rfl, HD, hn⟩ := hrel
            by_cases hlt : i < s.size
            · have hx := HG.out i hlt
              have htk : l.take (i + 1) = l.take i ++ [s[i]] := Gr.take_snoc l i _ hx
              have HBad : Hid (¬ (48 ≤ s[i].toNat ∧ s[i].toNat ≤ 57) → E = .returned (.tuple #[.int .i64 0, .bool false])) := fun h => HN.out (.inr (.inr (.inr (.inl (by
                rw [Bool.eq_false_iff]
                intro hall
                have := List.all_eq_true.1 hall s[i] (List.mem_of_getElem? hx)
                unfold digB at this
                simp only [Bool.and_eq_true, decide_eq_true_eq] at this
                exact h this)))))
              have HGd : Hid (48 ≤ s[i].toNat ∧ s[i].toNat ≤ 57 → n * 10 + (s[i].toNat - 48) = val 0 (l.take (i + 1)) ∧ (l.take (i + 1)).all digB = true) := fun h => by
                rw [htk, val_snoc, ← HD.out.1, List.all_append, HD.out.2]
                refine ⟨rfl, ?_⟩
                simp [digB, h.1, h.2]
              clear hx htk HD HN HY HG HVB
              have h19 : i ≤ 18 := by have := HZ.out; omega
              have hp10 : 10 ^ i ≤ 10 ^ 18 := Nat.pow_le_pow_right (by omega) h19
              have hpn : 10 ^ (i + 1) = 10 ^ i * 10 := Nat.pow_succ ..
              generalize hb : s[i].toNat = c at *
              by_cases a1 : 48 ≤ c
              · have f1 : (48 : Int) ≤ c := by omega
                by_cases a2 : c ≤ 57
                · have f2 : (c : Int) ≤ 57 := by omega
                  obtain ⟨m, hm⟩ : ∃ m : Nat, n * 10 + (c - 48) = m := ⟨_, rfl⟩
                  have hm' : 10 * (n : Int) + ((c : Int) - 48) = m := by omega
                  have HM : Hid (m = val 0 (l.take (i + 1)) ∧ (l.take (i + 1)).all digB = true) := by have := HGd.out ⟨a1, a2⟩; rw [hm] at this; exact this
                  have hmb : m < 10 ^ (i + 1) := by rw [hpn]; omega
                  have w1 : IntKind.u64.wrap (10 * (n : Int)) = 10 * (n : Int) := by rw [IntKind.wrap_u64]; omega
                  have w2 : IntKind.u8.wrap ((c : Int) - 48) = (c : Int) - 48 := by rw [IntKind.wrap_u8]; omega
                  have w3 : IntKind.u64.wrap ((c : Int) - 48) = (c : Int) - 48 := by rw [IntKind.wrap_u64]; omega
                  have w4 : IntKind.u64.wrap (m : Int) = (m : Int) := by rw [IntKind.wrap_u64]; omega
                  clear HBad HGd hpn hp10 hm
                  go_wp2_with fail
                  go_roundw
                  · exact ⟨i + 1, m, rfl, rfl, by omega, trivial, HM.out, hmb⟩
                  · show s.size - ((i : Int) + 1).toNat < s.size - (i : Int).toNat
                    omega
                · have f2 : ¬ (c : Int) ≤ 57 := by omega
                  obtain rfl := HBad.out (fun h => a2 h.2)
                  clear hpn hp10 hn
                  go_wp2_with fail
                  go_ret2
                  exact ⟨rfl, rfl⟩
              · have f1 : ¬ (48 : Int) ≤ c := by omega
                obtain rfl := HBad.out (fun h => a1 h.1)
                clear hpn hp10 hn
                go_wp2_with fail
                go_ret2
                exact ⟨rfl, rfl⟩
            · have hll : l.take i = l := List.take_of_length_le (by have := HZ.out; omega)
              obtain ⟨hv, hal⟩ := HD.out
              rw [hll] at hv hal
              clear hn
              by_cases c4 : n ≤ 4611686018427387903
              · have f4 : ¬ (4611686018427387904 : Int) ≤ n := by omega
                have hE := HY.out HNE.out HC2.out (by omega) hal (by rw [← hv]; exact c4)
                rw [← hv] at hE
                obtain rfl := hE
                have w5 : IntKind.i64.wrap (n : Int) = n := by rw [IntKind.wrap_i64]; omega
                clear HD hv hal hll HN HY HG HVB
                go_wp2_with fail
                go_ret2
                exact ⟨rfl, rfl⟩
              · have f4 : (4611686018427387904 : Int) ≤ n := by omega
                obtain rfl := HN.out (.inr (.inr (.inr (.inr (by rw [← hv]; omega)))))
                clear HD hv hal hll HN HY HG HVB
                go_wp2_with fail
                go_ret2
                exact ⟨rfl, rfl⟩
end Sp
end U
end Go.Proofs.YtfoahfgehmghcaaGreatDoor
