import Derived.Test.YtnhmmplheihojaaGreatDoorGEdg
import Derived.Deep.QuietTactic
import Derived.BigQuiet
import Derived.Deep.RegionHeld3
import Derived.Deep.Cut
import Derived.Test.YtnhmmplheihojaaGreatDoorGChk
import Derived.Laws.MakeOwn
import Derived.Deep.CutRange
/- The document's Check (escapementref10): its small functions. -/
namespace Go.Proofs.YtnhmmplheihojaaGreatDoor
namespace Gr
open Go.RowKit

/-- how the document's IsName holds a byte against its bounds -/
theorem inNm_iff (b : UInt8) : inNm b = true ↔ (97 ≤ b.toNat ∧ b.toNat ≤ 122) ∨ (48 ≤ b.toNat ∧ b.toNat ≤ 57) ∨ b.toNat = 45 ∨ b.toNat = 95 ∨ b.toNat = 46 := by
  unfold inNm
  simp only [Bool.or_eq_true, Bool.and_eq_true, decide_eq_true_eq]
  omega
set_option maxHeartbeats 2000000 in
theorem refIsName_any (s : ByteArray) (w : World) (hs : s.size ≤ 9223372036854775807) :
    Calls Tryz.prog 30 #[.string s] w fun e w' => e = .returned (.bool (isNm s)) ∧ w' = w := by
  generalize hr : isNm s = r
  have HR : Hid ((wI s.size 1 40 && s.data.toList.all inNm) = r) := hr
  clear hr
  go_enter Tryz.func30, Tryz.ntmps30
  go_wp2_with fail
  go_loopw [3] (fun sv wr => ∃ i : Nat, sv = .int .i64 (i : Nat) ∧ i ≤ s.size ∧ wr = w ∧ Hid ((wI s.size 1 40 && (s.data.toList.drop i).all inNm) = r)) (fun sv _ => s.size - (intOf sv).toNat)
  case atStart => exact ⟨0, rfl, Nat.zero_le _, rfl, HR.out⟩
  case round =>
    obtain ⟨i, rfl, hi, rfl, HD⟩ := hrel
    clear HR
    by_cases hlt : i < s.size
    · have hd := hide (drop_at s i hlt)
      have HT := hide (inNm_iff s[i])
      have HX : Hid (¬ ((97 ≤ s[i].toNat ∧ s[i].toNat ≤ 122) ∨ (48 ≤ s[i].toNat ∧ s[i].toNat ≤ 57) ∨ s[i].toNat = 45 ∨ s[i].toNat = 95 ∨ s[i].toNat = 46) → r = false) := fun h => by
        have hc : inNm s[i] = false := by rw [← Bool.not_eq_true]; exact fun c => h (HT.out.1 c)
        rw [← HD.out, hd.out, List.all_cons, hc]; simp
      have HY : Hid (((97 ≤ s[i].toNat ∧ s[i].toNat ≤ 122) ∨ (48 ≤ s[i].toNat ∧ s[i].toNat ≤ 57) ∨ s[i].toNat = 45 ∨ s[i].toNat = 95 ∨ s[i].toNat = 46) → (wI s.size 1 40 && (s.data.toList.drop (i + 1)).all inNm) = r) := fun h => by
        have := HD.out
        rwa [hd.out, List.all_cons, HT.out.2 h, Bool.true_and] at this
      clear HD hd HT
      generalize hb : s[i].toNat = n at *
      by_cases a1 : 97 ≤ n
      · by_cases a2 : n ≤ 122
        · have f0 : (97 : Int) ≤ n := by first | omega | (simp; omega)
          have f1 : (n : Int) ≤ 122 := by first | omega | (simp; omega)
          have f2 : (48 : Int) ≤ n := by first | omega | (simp; omega)
          have f3 : ¬ (n : Int) ≤ 57 := by first | omega | (simp; omega)
          have HD2 := hide (HY.out (by omega))
          clear HY HX
          go_wp2_with fail
          go_roundw
          · exact ⟨i + 1, rfl, by omega, trivial, HD2.out⟩
          · show s.size - ((i : Int) + 1).toNat < s.size - (i : Int).toNat
            omega
        · have f0 : (97 : Int) ≤ n := by first | omega | (simp; omega)
          have f1 : ¬ (n : Int) ≤ 122 := by first | omega | (simp; omega)
          have f2 : (48 : Int) ≤ n := by first | omega | (simp; omega)
          have f3 : ¬ (n : Int) ≤ 57 := by first | omega | (simp; omega)
          have f4 : ((n : Int) != 45) = true := by first | omega | (simp; omega)
          have f5 : ((n : Int) != 95) = true := by first | omega | (simp; omega)
          have f6 : ((n : Int) != 46) = true := by first | omega | (simp; omega)
          obtain rfl : r = false := HX.out (by omega)
          clear HY HX
          go_wp2_with fail
          go_ret
          exact ⟨rfl, rfl⟩
      · by_cases a2 : 48 ≤ n
        · by_cases a3 : n ≤ 57
          · have f0 : ¬ (97 : Int) ≤ n := by first | omega | (simp; omega)
            have f1 : (48 : Int) ≤ n := by first | omega | (simp; omega)
            have f2 : (n : Int) ≤ 57 := by first | omega | (simp; omega)
            have HD2 := hide (HY.out (by omega))
            clear HY HX
            go_wp2_with fail
            go_roundw
            · exact ⟨i + 1, rfl, by omega, trivial, HD2.out⟩
            · show s.size - ((i : Int) + 1).toNat < s.size - (i : Int).toNat
              omega
          · by_cases a4 : n = 95
            · have f0 : ¬ (97 : Int) ≤ n := by first | omega | (simp; omega)
              have f1 : (48 : Int) ≤ n := by first | omega | (simp; omega)
              have f2 : ¬ (n : Int) ≤ 57 := by first | omega | (simp; omega)
              have f3 : ((n : Int) != 45) = true := by first | omega | (simp; omega)
              have f4 : ((n : Int) != 95) = false := by first | omega | (simp; omega)
              have HD2 := hide (HY.out (by omega))
              clear HY HX
              go_wp2_with fail
              go_roundw
              · exact ⟨i + 1, rfl, by omega, trivial, HD2.out⟩
              · show s.size - ((i : Int) + 1).toNat < s.size - (i : Int).toNat
                omega
            · have f0 : ¬ (97 : Int) ≤ n := by first | omega | (simp; omega)
              have f1 : (48 : Int) ≤ n := by first | omega | (simp; omega)
              have f2 : ¬ (n : Int) ≤ 57 := by first | omega | (simp; omega)
              have f3 : ((n : Int) != 45) = true := by first | omega | (simp; omega)
              have f4 : ((n : Int) != 95) = true := by first | omega | (simp; omega)
              have f5 : ((n : Int) != 46) = true := by first | omega | (simp; omega)
              obtain rfl : r = false := HX.out (by omega)
              clear HY HX
              go_wp2_with fail
              go_ret
              exact ⟨rfl, rfl⟩
        · by_cases a3 : n = 45
          · have f0 : ¬ (97 : Int) ≤ n := by first | omega | (simp; omega)
            have f1 : ¬ (48 : Int) ≤ n := by first | omega | (simp; omega)
            have f2 : ((n : Int) != 45) = false := by first | omega | (simp; omega)
            have HD2 := hide (HY.out (by omega))
            clear HY HX
            go_wp2_with fail
            go_roundw
            · exact ⟨i + 1, rfl, by omega, trivial, HD2.out⟩
            · show s.size - ((i : Int) + 1).toNat < s.size - (i : Int).toNat
              omega
          · by_cases a4 : n = 46
            · have f0 : ¬ (97 : Int) ≤ n := by first | omega | (simp; omega)
              have f1 : ¬ (48 : Int) ≤ n := by first | omega | (simp; omega)
              have f2 : ((n : Int) != 45) = true := by first | omega | (simp; omega)
              have f3 : ((n : Int) != 95) = true := by first | omega | (simp; omega)
              have f4 : ((n : Int) != 46) = false := by first | omega | (simp; omega)
              have HD2 := hide (HY.out (by omega))
              clear HY HX
              go_wp2_with fail
              go_roundw
              · exact ⟨i + 1, rfl, by omega, trivial, HD2.out⟩
              · show s.size - ((i : Int) + 1).toNat < s.size - (i : Int).toNat
                omega
            · have f0 : ¬ (97 : Int) ≤ n := by first | omega | (simp; omega)
              have f1 : ¬ (48 : Int) ≤ n := by first | omega | (simp; omega)
              have f2 : ((n : Int) != 45) = true := by first | omega | (simp; omega)
              have f3 : ((n : Int) != 95) = true := by first | omega | (simp; omega)
              have f4 : ((n : Int) != 46) = true := by first | omega | (simp; omega)
              obtain rfl : r = false := HX.out (by omega)
              clear HY HX
              go_wp2_with fail
              go_ret
              exact ⟨rfl, rfl⟩
    · have HE : Hid (wI s.size 1 40 = r) := by
        have := HD.out
        rwa [List.drop_eq_nil_of_le (by simp; omega), List.all_nil, Bool.and_true] at this
      clear HD
      by_cases c1 : 1 ≤ s.size
      · by_cases c2 : s.size ≤ 40
        · obtain rfl : r = true := by rw [← HE.out, wI]; simp; omega
          go_wp2_with fail
          go_ret
          exact ⟨by simp; omega, rfl⟩
        · obtain rfl : r = false := by rw [← HE.out, wI]; simp; omega
          go_wp2_with fail
          go_ret
          exact ⟨by simp; omega, rfl⟩
      · obtain rfl : r = false := by rw [← HE.out, wI]; simp; omega
        go_wp2_with fail
        go_ret
        exact ⟨by simp, rfl⟩

end Gr
end Go.Proofs.YtnhmmplheihojaaGreatDoor

/- The document's Check (escapementref10): its small functions. -/
namespace Go.Proofs.YtnhmmplheihojaaGreatDoor
namespace Gr
open Go.RowKit

set_option maxHeartbeats 1000000 in
theorem refIn_any (s : Option Addr × Nat × Nat) (z : List Int) (v : Int) (B : Nat) (w : World) (hz : RdZ B w s z) :
    Calls Tryz.prog 54 #[.slice s.1 s.2.1 s.2.2, .int .i64 v] w fun e w' => e = .returned (.bool (z.contains v)) ∧ w' = w := by
  obtain ⟨a, n, c⟩ := s
  have HN : Hid (n = z.length) := hz.1
  have hn2 : n ≤ 17592186044416 := hz.2.1
  have HZ := hide hz
  clear hz
  generalize hr : z.contains v = r
  have HR := hide hr
  clear hr
  go_enter Tryz.func54, Tryz.ntmps54
  go_wp2_with fail
  go_loopw [5] (fun iv wr => ∃ (i : Nat), iv = .int .i64 (i : Nat) ∧ i ≤ n ∧ wr = w ∧ Hid ((z.drop i).contains v = r)) (fun iv _ => n - (intOf iv).toNat)
  case atStart => exact ⟨0, rfl, Nat.zero_le _, rfl, HR.out⟩
  case round =>
    obtain ⟨i, rfl, hi, rfl, HD⟩ := hrel
    by_cases hlt : i < n
    · obtain ⟨g, off, x, rfl, hg, hx, hc⟩ := HZ.out.at hlt
      have hd := drop_z z i x hx
      have HD2 : Hid ((x :: z.drop (i + 1)).contains v = r) := by have := HD.out; rwa [hd] at this
      clear hx hd HD HZ
      by_cases h1 : x = v
      · subst h1
        obtain rfl : r = true := by rw [← HD2.out]; simp
        go_wp2_with fail
        go_ret
        exact ⟨rfl, rfl⟩
      · have HD3 : Hid ((z.drop (i + 1)).contains v = r) := by
          have := HD2.out
          rw [List.contains_cons] at this
          have hne : (v == x) = false := by simp; exact fun h => h1 h.symm
          rwa [hne, Bool.false_or] at this
        clear HD2
        go_wp2_with fail
        go_roundw
        · exact ⟨i + 1, rfl, by omega, trivial, HD3.out⟩
        · show n - ((i : Int) + 1).toNat < n - (i : Int).toNat
          omega
    · obtain rfl : r = false := by rw [← HD.out, List.drop_eq_nil_of_le (by have := HN.out; omega)]; rfl
      go_wp2_with fail
      go_ret
      exact ⟨rfl, rfl⟩

/-- The worlds behind W: all older memory as it was. -/
def Behind (W : World) : Type := { x : World // Below W.heap.size W x }
theorem behindNE (W : World) : Nonempty (Behind W) := ⟨⟨W, Below.refl _ _⟩⟩
theorem quiet_behind {id : Nat} {Q : Exit → Act → World → Prop} {a : Act} {W : World} {l : List Oper} (hm : Tryz.prog.follows .mixedOrders = true) (hB : Region.lexB .any l.toArray = true)
    (h : wpQuiet Tryz.prog l.toArray (fun w' => ∃ u : Behind W, w' = u.1) (fun a' => ∀ w', (∃ u : Behind W, w' = u.1) → Q .normal a' w') l a) : (Code.region id l.toArray true).wp Tryz.prog Q a W :=
  wp_region_quiet (C := fun w' => ∃ u : Behind W, w' = u.1) hm hB ⟨⟨_, (⟨rfl, rfl, rfl, Nat.le_refl _, fun _ _ => rfl⟩ : Below W.heap.size W W.drew)⟩, rfl⟩ (by simpa using h)
theorem calls_behind' {f : FuncId} {args : Array Value} {W : World} (u : Behind W) {v : Value}
    (h : Calls Tryz.prog f args u.1 fun e w' => e = .returned v ∧ w' = u.1) : Calls Tryz.prog f args u.1 fun e w'' => e = .returned v ∧ ∃ u' : Behind W, w'' = u'.1 :=
  h.mono fun _ _ ⟨he, hb⟩ => ⟨he, u, hb⟩
theorem Behind.cell {W : World} (u : Behind W) {p : Addr} {v : Value} (h : W.cell? p = some v) : u.1.cell? p = some v := (u.2.cell (World.block_lt_of_cell? _ _ h)).trans h
theorem Behind.keep {W : World} (u : Behind W) : Keep (fun _ => False) W u.1 := Keep.ofBelow u.2 (Nat.le_refl _)

set_option maxHeartbeats 4000000 in
theorem refRising_any (s : Option Addr × Nat × Nat) (z : List Int) (own cnt : Int) (B : Nat) (w : World) (hz : RdZ B w s z) :
    Calls Tryz.prog 79 #[.slice s.1 s.2.1 s.2.2, .int .i64 own, .int .i64 cnt] w fun e w' => e = .returned (.bool (lOk (-1) z own cnt)) ∧ Keep (fun _ => False) w w' := by
  obtain ⟨a, n, c⟩ := s
  have HN : Hid (n = z.length) := hz.1
  have hn2 : n ≤ 17592186044416 := hz.2.1
  have HZ := hide hz
  clear hz
  generalize hr : lOk (-1) z own cnt = r
  have HR := hide hr
  clear hr
  go_enter Tryz.func79, Tryz.ntmps79
  go_wp2_with fail
  go_loopw [7] (fun iv wr => ∃ (i : Nat), iv = .int .i64 (i : Nat) ∧ i ≤ n ∧ Hid (Keep (fun _ => False) w wr ∧ ∃ ah : Int, lOk ah (z.drop i) own cnt = r ∧ -1 ≤ ah ∧ (i = 0 → ah = -1) ∧ (i ≠ 0 → z[i - 1]? = some ah))) (fun iv _ => n - (intOf iv).toNat)
  case atStart => exact ⟨0, rfl, Nat.zero_le _, Keep.refl _ _, -1, HR.out, by omega, fun _ => rfl, fun h => absurd rfl h⟩
  case round =>
    obtain ⟨i, rfl, hi, HD⟩ := hrel
    obtain ⟨hK, ah, hD, h1, h2, h3⟩ := HD.out
    have HK := hide hK
    clear HD hK HR
    by_cases hlt : i < n
    · obtain ⟨g, off, x, ha, hg, hx, hc⟩ := (HZ.out.new HK.out).at hlt
      have ha : a = some ⟨g, off, none⟩ := ha
      subst ha
      have HD2 : Hid ((!(decide (x ≤ ah) || decide (cnt ≤ x) || decide (x = own)) && lOk x (z.drop (i + 1)) own cnt) = r) := by
        have := hD; rw [drop_z z i x hx] at this; exact this
      have HX := hide hx
      have HP : Hid (i ≠ 0 → wr.cell? ⟨g, off + (i - 1), none⟩ = some (.int .i64 ah)) := fun hi0 => by
        obtain ⟨g', off', x', ha', _, hx', hc'⟩ := (HZ.out.new HK.out).at (i := i - 1) (by show i - 1 < n; omega)
        have ha' : some (⟨g, off, none⟩ : Addr) = some ⟨g', off', none⟩ := ha'
        injection ha' with ha'
        injection ha' with e1 e2
        subst e1
        subst e2
        rw [h3 hi0] at hx'
        rw [Option.some.inj hx']
        exact hc'
      have H0 := hide h2
      have HE := hide (fun u : Behind wr => u.cell hc)
      clear hx hD HZ h2 h3
      have e1 := HE.out
      haveI := behindNE wr
      by_cases c1 : x < 0
      · obtain rfl : r = false := by
          have hxa : x ≤ ah := by omega
          rw [← HD2.out]; simp [hxa]
        clear HP
        go_wp2_with fail
        refine quiet_behind (by kernel_rfl) (by kernel_rfl) ?_
        repeat (go_big_quiet_step (fail))
        refine wpQuiet_nil ?_
        intro _ hw'
        obtain ⟨u, hw''⟩ := hw'
        subst hw''
        have KU := hide (HK.out.more u.keep)
        clear e1 HE
        go_wp2
        go_ret
        exact ⟨rfl, KU.out⟩
      · have d1 : decide (x < 0) = false := decide_eq_false c1
        by_cases c2 : cnt ≤ x
        · obtain rfl : r = false := by rw [← HD2.out]; simp [c2]
          clear HP
          go_wp2_with fail
          refine quiet_behind (by kernel_rfl) (by kernel_rfl) ?_
          repeat (go_big_quiet_step (fail))
          refine wpQuiet_nil ?_
          intro _ hw'
          obtain ⟨u, hw''⟩ := hw'
          subst hw''
          have KU := hide (HK.out.more u.keep)
          clear e1 HE
          go_wp2
          go_ret
          exact ⟨rfl, KU.out⟩
        · have d2 : decide (cnt ≤ x) = false := decide_eq_false c2
          by_cases c3 : x = own
          · obtain rfl : r = false := by rw [← HD2.out]; simp [c3]
            clear HP HD2
            subst c3
            go_wp2_with fail
            refine quiet_behind (by kernel_rfl) (by kernel_rfl) ?_
            repeat (go_big_quiet_step (fail))
            refine wpQuiet_nil ?_
            intro _ hw'
            obtain ⟨u, hw''⟩ := hw'
            subst hw''
            have KU := hide (HK.out.more u.keep)
            clear e1 HE
            go_wp2
            go_ret
            exact ⟨rfl, KU.out⟩
          · have d3 : (x == own) = false := by simpa using c3
            by_cases c4 : i = 0
            · have ha0 : ah = -1 := H0.out c4
              have HD3 : Hid (lOk x (z.drop (i + 1)) own cnt = r) := by
                have := HD2.out
                have q1 : ¬ x ≤ ah := by omega
                simp only [q1, c2, c3, decide_false, Bool.or_self, Bool.not_false, Bool.true_and] at this
                exact this
              subst c4
              clear HD2 HP H0 ha0
              have e0 : ∀ u : Behind wr, u.1.cell? ⟨g, off, none⟩ = some (.int .i64 x) := e1
              go_wp2_with fail
              refine quiet_behind (by kernel_rfl) (by kernel_rfl) ?_
              repeat (go_big_quiet_step (fail))
              refine wpQuiet_nil ?_
              intro _ hw'
              obtain ⟨u, hw''⟩ := hw'
              subst hw''
              have KU := hide (HK.out.more u.keep)
              clear e0 e1 HE
              go_wp2
              go_roundw
              · exact ⟨1, rfl, by omega, KU.out, x, HD3.out, by omega, fun h => by omega, fun _ => HX.out⟩
              · show n - ((0 : Int) + 1).toNat < n - (0 : Int).toNat
                omega
            · obtain ⟨k, rfl⟩ : ∃ k, i = k + 1 := ⟨i - 1, by omega⟩
              have hcp := HP.out (by omega)
              rw [show k + 1 - 1 = k by omega] at hcp
              have e2 := fun u : Behind wr => u.cell hcp
              clear HP H0
              have d4 : decide ((0 : Int) < (k : Int) + 1) = true := decide_eq_true (by omega)
              by_cases c5 : x ≤ ah
              · obtain rfl : r = false := by rw [← HD2.out]; simp [c5]
                go_wp2_with fail
                refine quiet_behind (by kernel_rfl) (by kernel_rfl) ?_
                repeat (go_big_quiet_step (fail))
                refine wpQuiet_nil ?_
                intro _ hw'
                obtain ⟨u, hw''⟩ := hw'
                subst hw''
                have KU := hide (HK.out.more u.keep)
                clear e1 e2 HE
                go_wp2
                go_ret
                exact ⟨rfl, KU.out⟩
              · have d5 : decide (x ≤ ah) = false := decide_eq_false c5
                have HD3 : Hid (lOk x (z.drop (k + 1 + 1)) own cnt = r) := by
                  have := HD2.out
                  simp only [c5, c2, c3, decide_false, Bool.or_self, Bool.not_false, Bool.true_and] at this
                  exact this
                clear HD2
                go_wp2_with fail
                refine quiet_behind (by kernel_rfl) (by kernel_rfl) ?_
                repeat (go_big_quiet_step (fail))
                refine wpQuiet_nil ?_
                intro _ hw'
                obtain ⟨u, hw''⟩ := hw'
                subst hw''
                have KU := hide (HK.out.more u.keep)
                clear e1 e2 HE
                go_wp2
                go_roundw
                · exact ⟨k + 2, rfl, by omega, KU.out, x, HD3.out, by omega, fun h => by omega, fun _ => HX.out⟩
                · show n - ((k : Int) + 1 + 1).toNat < n - ((k : Int) + 1).toNat
                  omega
    · obtain rfl : r = true := by rw [← hD, List.drop_eq_nil_of_le (by have := HN.out; omega)]; rfl
      go_wp2_with fail
      go_ret
      exact ⟨rfl, HK.out⟩
end Gr
end Go.Proofs.YtnhmmplheihojaaGreatDoor

/- The document's Check (escapementref10): fields. -/
namespace Go.Proofs.YtnhmmplheihojaaGreatDoor
namespace Gr
open Go.RowKit

set_option maxHeartbeats 4000000 in
theorem refFields_any (q : Nd) (w : World) :
    Calls Tryz.prog 52 #[.agg q.row.toArray] w fun e w' => e = .returned (.bool (fOk q)) ∧ Keep (fun _ => False) w w' := by
  obtain ⟨nm, la, bu, cl, be, ba, ca, ji, ⟨ne1, ne2, ne3⟩, ⟨af1, af2, af3⟩⟩ := q
  have KW := hide (Keep.alloc (fun _ => False) w (.cells #[.string nm, .int .i64 la, .int .i64 bu, .int .i64 cl, .int .i64 be, .int .i64 ba, .int .i64 ca, .int .i64 ji, .slice ne1 ne2 ne3, .slice af1 af2 af3] 35))
  simp only [Nd.row]
  have HF : Hid (fOk ⟨nm, la, bu, cl, be, ba, ca, ji, (ne1, ne2, ne3), (af1, af2, af3)⟩ = (wI la 0 15 && wI bu 1 100 && wI cl 1 1099511627776 && wI be 0 1099511627776 && wI ca 1 1099511627776 && wI ba 1 ca && wI ji 0 1099511627776)) := rfl
  generalize fOk ⟨nm, la, bu, cl, be, ba, ca, ji, (ne1, ne2, ne3), (af1, af2, af3)⟩ = r at *
  by_cases h0 : la < 0
  · obtain rfl : r = false := by rw [HF.out]; simp [wI]; omega
    clear HF
    go_enter Tryz.func52, Tryz.ntmps52
    go_wp2
    go_ret
    exact ⟨by simp, KW.out⟩
  by_cases h1 : 15 < la
  · obtain rfl : r = false := by rw [HF.out]; simp [wI]; omega
    clear HF
    go_enter Tryz.func52, Tryz.ntmps52
    go_wp2
    go_ret
    exact ⟨by simp, KW.out⟩
  by_cases h2 : bu < 1
  · obtain rfl : r = false := by rw [HF.out]; simp [wI]; omega
    clear HF
    go_enter Tryz.func52, Tryz.ntmps52
    go_wp2
    go_ret
    exact ⟨by simp, KW.out⟩
  by_cases h3 : 100 < bu
  · obtain rfl : r = false := by rw [HF.out]; simp [wI]; omega
    clear HF
    go_enter Tryz.func52, Tryz.ntmps52
    go_wp2
    go_ret
    exact ⟨by simp, KW.out⟩
  by_cases h4 : cl < 1
  · obtain rfl : r = false := by rw [HF.out]; simp [wI]; omega
    clear HF
    go_enter Tryz.func52, Tryz.ntmps52
    go_wp2
    go_ret
    exact ⟨by simp, KW.out⟩
  by_cases h5 : 1099511627776 < cl
  · obtain rfl : r = false := by rw [HF.out]; simp [wI]; omega
    clear HF
    go_enter Tryz.func52, Tryz.ntmps52
    go_wp2
    go_ret
    exact ⟨by simp, KW.out⟩
  by_cases h6 : be < 0
  · obtain rfl : r = false := by rw [HF.out]; simp [wI]; omega
    clear HF
    go_enter Tryz.func52, Tryz.ntmps52
    go_wp2
    go_ret
    exact ⟨by simp, KW.out⟩
  by_cases h7 : 1099511627776 < be
  · obtain rfl : r = false := by rw [HF.out]; simp [wI]; omega
    clear HF
    go_enter Tryz.func52, Tryz.ntmps52
    go_wp2
    go_ret
    exact ⟨by simp, KW.out⟩
  by_cases h8 : ca < 1
  · obtain rfl : r = false := by rw [HF.out]; simp [wI]; omega
    clear HF
    go_enter Tryz.func52, Tryz.ntmps52
    go_wp2
    go_ret
    exact ⟨by simp, KW.out⟩
  by_cases h9 : 1099511627776 < ca
  · obtain rfl : r = false := by rw [HF.out]; simp [wI]; omega
    clear HF
    go_enter Tryz.func52, Tryz.ntmps52
    go_wp2
    go_ret
    exact ⟨by simp, KW.out⟩
  by_cases g0 : 1 ≤ ba
  rotate_left
  · obtain rfl : r = false := by rw [HF.out]; simp [wI]; omega
    clear HF
    go_enter Tryz.func52, Tryz.ntmps52
    go_wp2
    go_ret
    exact ⟨by simp, KW.out⟩
  by_cases g1 : ba ≤ ca
  rotate_left
  · obtain rfl : r = false := by rw [HF.out]; simp [wI]; omega
    clear HF
    go_enter Tryz.func52, Tryz.ntmps52
    go_wp2
    go_ret
    exact ⟨by simp, KW.out⟩
  by_cases g2 : 0 ≤ ji
  rotate_left
  · obtain rfl : r = false := by rw [HF.out]; simp [wI]; omega
    clear HF
    go_enter Tryz.func52, Tryz.ntmps52
    go_wp2
    go_ret
    exact ⟨by simp, KW.out⟩
  by_cases g3 : ji ≤ 1099511627776
  rotate_left
  · obtain rfl : r = false := by rw [HF.out]; simp [wI]; omega
    clear HF
    go_enter Tryz.func52, Tryz.ntmps52
    go_wp2
    go_ret
    exact ⟨by simp, KW.out⟩
  obtain rfl : r = true := by rw [HF.out]; simp [wI]; omega
  clear HF
  go_enter Tryz.func52, Tryz.ntmps52
  go_wp2
  go_ret
  exact ⟨by simp, KW.out⟩
end Gr
end Go.Proofs.YtnhmmplheihojaaGreatDoor

/- The document's Check (escapementref10): edges, node. -/
namespace Go.Proofs.YtnhmmplheihojaaGreatDoor
namespace Gr
open Go.RowKit

theorem bytes_ne {a b : ByteArray} (h : ¬ a = b) : (a.toList == b.toList) = false := by
  rw [beq_eq_false_iff_ne]
  intro e
  rw [ByteArray.toList_eq, ByteArray.toList_eq] at e
  exact h (ByteArray.ext (Array.toList_inj.1 e))
theorem any_comm (a b : List Int) : (b.any fun e => a.contains e) = (a.any fun e => b.contains e) := by
  rw [Bool.eq_iff_iff]
  simp only [List.any_eq_true, List.contains_iff_mem]
  constructor <;> (rintro ⟨x, h1, h2⟩; exact ⟨x, h2, h1⟩)
set_option maxRecDepth 100000 in
set_option maxHeartbeats 4000000 in
theorem refEdges_any (nm : ByteArray) (dl : Int) (s : Option Addr × Nat × Nat) (xs : List No) (B : Nat) (w : World) (hP : RdP B w s xs) (i : Nat) (x : No) (hx : xs[i]? = some x) :
    Calls Tryz.prog 53 #[.agg #[.string nm, .int .i64 dl, .slice s.1 s.2.1 s.2.2], .int .i64 (i : Nat)] w fun e w' => e = .returned (.bool (eOk x i xs.length)) ∧ Keep (fun _ => False) w w' := by
  obtain ⟨a, n, c⟩ := s
  have hn : n = xs.length := hP.1
  have hi : i < n := by rw [hn]; exact (List.getElem?_eq_some_iff.1 hx).1
  rw [← hn]
  have hnb : n ≤ 1172812402926 := hP.2.1
  obtain ⟨g, off, x', ha, hg, hx', hnd, hz1, hz2⟩ := hP.at (i := i) hi
  obtain rfl : x' = x := by rw [hx] at hx'; exact (Option.some.inj hx').symm
  have ha : a = some ⟨g, off, none⟩ := ha
  subst ha
  clear hP hx hx' hn
  have K1 := Keep.alloc (fun _ => False) w (.cells #[.string nm, .int .i64 dl, .slice (some ⟨g, off, none⟩) n c] 25)
  have hb1 := heap_alloc_new w (.cells #[.string nm, .int .i64 dl, .slice (some ⟨g, off, none⟩) n c] 25)
  have hs1 : (w.alloc (.cells #[.string nm, .int .i64 dl, .slice (some ⟨g, off, none⟩) n c] 25)).heap.size = w.heap.size + 1 := by simp
  have hnd1 := hnd.keep K1 (fun h => h)
  obtain ⟨⟨nmx, la, bu, cl, be, ba, ca, ji, ⟨ne1, ne2, ne3⟩, ⟨af1, af2, af3⟩⟩, nl, al⟩ := x'
  obtain ⟨n0, n1, n2, n3, n4, n5, n6, n7, n8, n9⟩ := hnd1.all
  simp only at n0 n1 n2 n3 n4 n5 n6 n7 n8 n9 hz1 hz2
  have K2 := Keep.alloc (fun _ => False) (w.alloc (.cells #[.string nm, .int .i64 dl, .slice (some ⟨g, off, none⟩) n c] 25)) (.cells #[.string nmx, .int .i64 la, .int .i64 bu, .int .i64 cl, .int .i64 be, .int .i64 ba, .int .i64 ca, .int .i64 ji, .slice ne1 ne2 ne3, .slice af1 af2 af3] 35)
  have hb2 := heap_alloc_new (w.alloc (.cells #[.string nm, .int .i64 dl, .slice (some ⟨g, off, none⟩) n c] 25)) (.cells #[.string nmx, .int .i64 la, .int .i64 bu, .int .i64 cl, .int .i64 be, .int .i64 ba, .int .i64 ca, .int .i64 ji, .slice ne1 ne2 ne3, .slice af1 af2 af3] 35)
  rw [hs1] at hb2
  have hb1 := K2.blk hb1 (fun h => h)
  have KW := hide (K1.more K2)
  have HZ1 := hide hz1
  have HZ2 := hide hz2
  have HB1 := hide hb1
  have HB2 := hide hb2
  have hne : ne2 ≤ 17592186044416 := hz1.2.1
  have HNE : Hid (ne2 = nl.length) := hz1.1
  have HE : Hid (eOk ⟨⟨nmx, la, bu, cl, be, ba, ca, ji, (ne1, ne2, ne3), (af1, af2, af3)⟩, nl, al⟩ (i : Nat) (n : Nat) = (lOk (-1) nl i n && lOk (-1) al i n && !(nl.any fun e => al.contains e))) := by
    show _ = _
    rw [← any_comm]
    rfl
  generalize eOk ⟨⟨nmx, la, bu, cl, be, ba, ca, ji, (ne1, ne2, ne3), (af1, af2, af3)⟩, nl, al⟩ (i : Nat) (n : Nat) = r at *
  have R1 := hide (fun W h => refRising_any (ne1, ne2, ne3) nl i n B W h)
  have R2 := hide (fun W h => refRising_any (af1, af2, af3) al i n B W h)
  have IN := hide (fun v W h => refIn_any (af1, af2, af3) al v B W h)
  clear K1 K2 hb1 hb2 hs1 hnd hnd1 hz1 hz2
  go_enter Tryz.func53, Tryz.ntmps53
  go_upto_region 2 with fail
  generalize ((w.alloc (.cells #[.string nm, .int .i64 dl, .slice (some ⟨g, off, none⟩) n c] 25)).alloc (.cells #[.string nmx, .int .i64 la, .int .i64 bu, .int .i64 cl, .int .i64 be, .int .i64 ba, .int .i64 ca, .int .i64 ji, .slice ne1 ne2 ne3, .slice af1 af2 af3] 35)) = w2 at *
  clear n0 n1 n2 n3 n4 n5 n6 n7 n8 n9
  generalize hN : w.heap.size = N at *
  have HM : Hid (∀ W, Keep (fun _ => False) w2 W → W.cell? ⟨N, 2, none⟩ = some (.slice (some ⟨g, off, none⟩) n c) ∧ W.cell? ⟨N + 1, 8, none⟩ = some (.slice ne1 ne2 ne3) ∧ W.cell? ⟨N + 1, 9, none⟩ = some (.slice af1 af2 af3) ∧ RdZ B W (ne1, ne2, ne3) nl ∧ RdZ B W (af1, af2, af3) al ∧ Keep (fun _ => False) w W) := fun W k =>
    ⟨cell_blk (k.blk HB1.out (fun h => h)) 2 rfl, cell_blk (k.blk HB2.out (fun h => h)) 8 rfl, cell_blk (k.blk HB2.out (fun h => h)) 9 rfl, HZ1.out.new (KW.out.more k), HZ2.out.new (KW.out.more k), KW.out.more k⟩
  clear KW HZ1 HZ2 HB1 HB2
  obtain ⟨c2, c8, c9, hz1, hz2, _⟩ := HM.out w2 (Keep.refl _ _)
  have HZ1 := hide hz1
  clear hz1 hz2
  go_wp2_with fail
  go_at_call 79
  refine (R1.out _ HZ1.out).mono ?_
  rintro e w3 ⟨rfl, k3⟩
  have K3 := hide k3
  clear HZ1 R1 k3 c2 c8 c9
  obtain ⟨c2, c8, c9, hz1, hz2, _⟩ := HM.out w3 K3.out
  have HZ2 := hide hz2
  clear hz1 hz2
  generalize lOk (-1) nl i n = r1 at *
  go_wp2_with fail
  go_at_call 79
  refine (R2.out _ HZ2.out).mono ?_
  rintro e w4 ⟨rfl, k4⟩
  have K4 := hide (K3.out.more k4)
  clear HZ2 R2 k4 c2 c8 c9 K3
  obtain ⟨c2, c8, c9, hz1, hz2, kw⟩ := HM.out w4 K4.out
  have KK := hide kw
  clear hz1 hz2 kw
  generalize lOk (-1) al i n = r2 at *
  cases r1
  · obtain rfl : r = false := by rw [HE.out]; rfl
    go_wp2_with fail
    go_ret
    exact ⟨rfl, KK.out⟩
  cases r2
  · obtain rfl : r = false := by rw [HE.out]; rfl
    go_wp2_with fail
    go_ret
    exact ⟨rfl, KK.out⟩
  have HR : Hid ((!(nl.any fun e => al.contains e)) = r) := by rw [HE.out]; rfl
  clear HE
  go_wp2_with fail
  clear c2 c8 c9 KK
  go_loopw [8] (fun iv wr => ∃ (k : Nat), iv = .int .i64 (k : Nat) ∧ k ≤ ne2 ∧ Hid (Keep (fun _ => False) w2 wr ∧ (!((nl.drop k).any fun e => al.contains e)) = r)) (fun iv _ => ne2 - (intOf iv).toNat)
  case atStart => exact ⟨0, rfl, Nat.zero_le _, K4.out, HR.out⟩
  case round =>
    obtain ⟨k, rfl, hk, HD⟩ := hrel
    clear HR K4
    obtain ⟨c2, c8, c9, hz1, hz2, kw⟩ := HM.out wr HD.out.1
    by_cases hlt : k < ne2
    · obtain ⟨g', off', y, hy0, hg', hy, hyc⟩ := hz1.at hlt
      have hy0 : ne1 = some ⟨g', off', none⟩ := hy0
      subst hy0
      have HZ2 := hide hz2
      have HD2 : Hid ((!(al.contains y || (nl.drop (k + 1)).any fun e => al.contains e)) = r) := by
        have := HD.out.2
        rwa [drop_z nl k y hy] at this
      have e1 := fun u : Behind wr => u.cell c8
      have e2 := fun u : Behind wr => u.cell c9
      have e3 := fun u : Behind wr => u.cell hyc
      have INy : Hid (∀ u : Behind wr, Calls Tryz.prog 54 #[.slice af1 af2 af3, .int .i64 y] u.1 fun e w' => e = .returned (.bool (al.contains y)) ∧ w' = u.1) := fun u => IN.out y u.1 (HZ2.out.new u.keep)
      have HK1 := hide HD.out.1
      clear hz1 hz2 kw hy HD IN HZ2
      haveI := behindNE wr
      generalize al.contains y = q at *
      go_wp2_with fail
      refine quiet_behind (by kernel_rfl) (by kernel_rfl) ?_
      repeat (go_big_quiet_step ((go_at_call 54; exact calls_behind' _ (INy.out _))))
      refine wpQuiet_nil ?_
      intro _ hw'
      obtain ⟨u, hw''⟩ := hw'
      subst hw''
      have KU := hide (HK1.out.more u.keep)
      have KV := hide ((HM.out _ KU.out).2.2.2.2.2)
      clear e1 e2 e3 INy c2 c8 c9
      cases q
      · go_wp2
        go_roundw
        · exact ⟨k + 1, rfl, by omega, KU.out, by simpa using HD2.out⟩
        · show ne2 - ((k : Int) + 1).toNat < ne2 - (k : Int).toNat
          omega
      · obtain rfl : r = false := by rw [← HD2.out]; rfl
        go_wp2
        go_ret
        exact ⟨rfl, KV.out⟩
    · obtain rfl : r = true := by rw [← HD.out.2, List.drop_eq_nil_of_le (by have := HNE.out; omega)]; rfl
      have KV := hide kw
      go_wp2_with fail
      go_ret
      exact ⟨rfl, KV.out⟩

/-- what the document's node says of the i-th one -/
def nCode (xs : List No) (i : Nat) (x : No) : Nat := if !isNm x.q.nm || (xs.take i).any (fun t => decide (t.q.nm = x.q.nm)) then 103 else if !fOk x.q then 104 else if !eOk x i xs.length then 105 else 0
set_option maxRecDepth 100000 in
set_option maxHeartbeats 4000000 in
theorem refNode_any (nm : ByteArray) (dl : Int) (s : Option Addr × Nat × Nat) (xs : List No) (B : Nat) (w : World) (hP : RdP B w s xs) (i : Nat) (x : No) (hx : xs[i]? = some x) (hsz : ∀ y ∈ xs, y.q.nm.size ≤ 9223372036854775807) :
    Calls Tryz.prog 31 #[.agg #[.string nm, .int .i64 dl, .slice s.1 s.2.1 s.2.2], .int .i64 (i : Nat)] w fun e w' => e = .returned (.int .i64 (nCode xs i x : Nat)) ∧ Keep (fun _ => False) w w' := by
  obtain ⟨a, n, c⟩ := s
  have hn : n = xs.length := hP.1
  have hi : i < n := by rw [hn]; exact (List.getElem?_eq_some_iff.1 hx).1
  have hnb : n ≤ 1172812402926 := hP.2.1
  have HSZ := hide hsz
  have IS := hide (fun W => refIsName_any x.q.nm W (hsz x (List.mem_of_getElem? hx)))
  have FI := hide (fun W => refFields_any x.q W)
  have ED := hide (fun W h => refEdges_any nm dl (a, n, c) xs B W h i x hx)
  have HC : Hid (nCode xs i x = if !isNm x.q.nm || (xs.take i).any (fun t => decide (t.q.nm = x.q.nm)) then 103 else if !fOk x.q then 104 else if !eOk x i xs.length then 105 else 0) := rfl
  generalize nCode xs i x = r at *
  have K1 := Keep.alloc (fun _ => False) w (.cells #[.string nm, .int .i64 dl, .slice a n c] 25)
  have hb1 := heap_alloc_new w (.cells #[.string nm, .int .i64 dl, .slice a n c] 25)
  have HP := hide hP
  have HX := hide hx
  have HB1 := hide hb1
  have KW := hide K1
  clear hP hx hn hsz K1 hb1
  go_enter Tryz.func31, Tryz.ntmps31
  go_upto_region 1 with fail
  generalize w.alloc (.cells #[.string nm, .int .i64 dl, .slice a n c] 25) = w2 at *
  generalize hN : w.heap.size = N at *
  have HM : Hid (∀ W, Keep (fun _ => False) w2 W → (W.cell? ⟨N, 0, none⟩ = some (.string nm) ∧ W.cell? ⟨N, 1, none⟩ = some (.int .i64 dl) ∧ W.cell? ⟨N, 2, none⟩ = some (.slice a n c)) ∧ RdP B W (a, n, c) xs ∧ Keep (fun _ => False) w W) := fun W k =>
    ⟨⟨cell_blk (k.blk HB1.out (fun h => h)) 0 rfl, cell_blk (k.blk HB1.out (fun h => h)) 1 rfl, cell_blk (k.blk HB1.out (fun h => h)) 2 rfl⟩, HP.out.new (KW.out.more k), KW.out.more k⟩
  clear HP KW HB1
  have HNX : Hid (∀ W, Keep (fun _ => False) w2 W → ∃ g off, a = some ⟨g, off, none⟩ ∧ NodeAt W g (off + i * 10) x.q) := fun W k => by
    obtain ⟨g, off, y, h1, _, h2, h3, _⟩ := (HM.out W k).2.1.at (i := i) hi
    rw [HX.out] at h2
    obtain rfl := Option.some.inj h2
    exact ⟨g, off, h1, h3⟩
  obtain ⟨⟨c0, c1, c2⟩, _⟩ := HM.out w2 (Keep.refl _ _)
  obtain ⟨g, off, rfl, hnd⟩ := HNX.out w2 (Keep.refl _ _)
  have n0 := hnd.all.1
  go_wp2_with fail
  go_at_call 30
  refine (IS.out _).mono ?_
  rintro e w3 ⟨rfl, rfl⟩
  clear IS
  have K0 := hide (Keep.refl (fun _ => False) w3)
  cases hq : isNm x.q.nm
  · obtain rfl : r = 103 := by rw [HC.out, hq]; rfl
    have KV := hide (HM.out w3 K0.out).2.2
    go_wp2_with fail
    go_ret
    exact ⟨rfl, KV.out⟩
  have HC2 : Hid (r = if (xs.take i).any (fun t => decide (t.q.nm = x.q.nm)) then 103 else if !fOk x.q then 104 else if !eOk x i xs.length then 105 else 0) := by
    have := HC.out
    rw [hq] at this
    exact this
  clear HC hq c0 c1 c2 n0 hnd
  go_wp2_with fail
  go_loopw [5] (fun iv wr => ∃ (j : Nat), iv = .int .i64 (j : Nat) ∧ j ≤ i ∧ Hid (Keep (fun _ => False) w3 wr ∧ (xs.take j).any (fun t => decide (t.q.nm = x.q.nm)) = false)) (fun iv _ => i - (intOf iv).toNat)
  case atStart => exact ⟨0, rfl, Nat.zero_le _, K0.out, rfl⟩
  case round =>
    obtain ⟨j, rfl, hj, HD⟩ := hrel
    clear K0
    obtain ⟨⟨c0, c1, c2⟩, hp, kw⟩ := HM.out wr HD.out.1
    obtain ⟨g', off', hg', hnd⟩ := HNX.out wr HD.out.1
    injection hg' with hg'
    injection hg' with e1 e2
    subst e1
    subst e2
    by_cases hlt : j < i
    · obtain ⟨g', off', y, hg', _, hy, hny, _⟩ := hp.at (i := j) (by show j < n; omega)
      have hg' : some (⟨g, off, none⟩ : Addr) = some ⟨g', off', none⟩ := hg'
      injection hg' with hg'
      injection hg' with e1 e2
      subst e1
      subst e2
      have f1 := fun u : Behind wr => u.cell c2
      have f2 := fun u : Behind wr => u.cell hnd.all.1
      have f3 := fun u : Behind wr => u.cell hny.all.1
      have HK1 := hide HD.out.1
      have HT : Hid ((xs.take (j + 1)).any (fun t => decide (t.q.nm = x.q.nm)) = decide (y.q.nm = x.q.nm)) := by
        show _ = _
        rw [take_snoc xs j y hy, List.any_append, HD.out.2]
        simp
      have HTI : Hid (j < i ∧ xs[j]? = some y) := ⟨hlt, hy⟩
      haveI := behindNE wr
      generalize x.q.nm = s1 at *
      generalize y.q.nm = s2 at *
      clear hp hny hnd c0 c1 c2 hy HD
      by_cases hs : s2 = s1
      · subst hs
        obtain rfl : r = 103 := by
          rw [HC2.out, if_pos]
          have h1 := HT.out
          simp only [decide_true] at h1
          obtain ⟨t, ht, he⟩ := List.any_eq_true.1 h1
          refine List.any_eq_true.2 ⟨t, ?_, he⟩
          obtain ⟨k, hk⟩ := List.getElem?_of_mem ht
          rw [List.getElem?_take] at hk
          split at hk
          · rename_i hkl
            refine List.mem_of_getElem? (i := k) ?_
            rw [List.getElem?_take, if_pos (by omega)]
            exact hk
          · cases hk
        go_wp2_with fail
        refine quiet_behind (by kernel_rfl) (by kernel_rfl) ?_
        repeat (go_big_quiet_step (fail))
        refine wpQuiet_nil ?_
        intro _ hw'
        obtain ⟨u, hw''⟩ := hw'
        subst hw''
        have KV := hide (kw.more u.keep)
        clear f1 f2 f3 kw
        go_wp2
        go_ret
        exact ⟨rfl, KV.out⟩
      · have hs' := bytes_ne hs
        go_wp2_with fail
        refine quiet_behind (by kernel_rfl) (by kernel_rfl) ?_
        repeat (go_big_quiet_step (fail))
        refine wpQuiet_nil ?_
        intro _ hw'
        obtain ⟨u, hw''⟩ := hw'
        subst hw''
        have KV := hide (HK1.out.more u.keep)
        clear f1 f2 f3 kw
        go_wp2
        go_roundw
        · exact ⟨j + 1, rfl, by omega, KV.out, by rw [HT.out]; simpa using hs⟩
        · show i - ((j : Int) + 1).toNat < i - (j : Int).toNat
          omega
    · obtain rfl : j = i := by omega
      have HC3 : Hid (r = if !fOk x.q then 104 else if !eOk x j xs.length then 105 else 0) := by
        have := HC2.out
        rw [HD.out.2] at this
        exact this
      have HK1 := hide HD.out.1
      clear HC2 HD hp kw
      obtain ⟨⟨nmx, la, bu, cl, be, ba, ca, ji, ⟨ne1, ne2, ne3⟩, ⟨af1, af2, af3⟩⟩, nl, al⟩ := x
      obtain ⟨n0, n1, n2, n3, n4, n5, n6, n7, n8, n9⟩ := hnd.all
      simp only [Nd.row] at n0 n1 n2 n3 n4 n5 n6 n7 n8 n9 FI HC3
      clear hnd
      generalize fOk ⟨nmx, la, bu, cl, be, ba, ca, ji, (ne1, ne2, ne3), (af1, af2, af3)⟩ = fo at *
      go_wp2_with fail
      go_at_call 52
      refine (FI.out _).mono ?_
      rintro e w4 ⟨rfl, k4⟩
      have HK2 := hide (HK1.out.more k4)
      clear k4 n0 n1 n2 n3 n4 n5 n6 n7 n8 n9 c0 c1 c2 FI
      obtain ⟨⟨c0, c1, c2⟩, hp, kw⟩ := HM.out w4 HK2.out
      have KV := hide kw
      have HP4 := hide hp
      clear kw hp
      cases fo
      · obtain rfl : r = 104 := HC3.out
        go_wp2_with fail
        go_ret
        exact ⟨rfl, KV.out⟩
      generalize eOk ⟨⟨nmx, la, bu, cl, be, ba, ca, ji, (ne1, ne2, ne3), (af1, af2, af3)⟩, nl, al⟩ (j : Nat) xs.length = eo at *
      go_wp2_with fail
      go_at_call 53
      refine (ED.out _ HP4.out).mono ?_
      rintro e w5 ⟨rfl, k5⟩
      have KX := hide (KV.out.more k5)
      clear k5 c0 c1 c2 ED HP4
      cases eo
      · obtain rfl : r = 105 := HC3.out
        go_wp2_with fail
        go_ret
        exact ⟨rfl, KX.out⟩
      · obtain rfl : r = 0 := HC3.out
        go_wp2_with fail
        go_ret
        exact ⟨rfl, KX.out⟩
end Gr
end Go.Proofs.YtnhmmplheihojaaGreatDoor

/- The document's Check (escapementref10): Waits. -/
namespace Go.Proofs.YtnhmmplheihojaaGreatDoor
namespace Gr
open Go.RowKit

theorem info_boolR : (Tryz.prog.info? 4).map (fun i => (i.zero, i.size, i.bytes)) = some (some (.bool false), 1, 1) := by kernel_rfl
theorem made_boolsR (u : World) (n : Nat) (hn : n ≤ 1048576) : (Instr.makeSlice 81 (.int .i64 (n : Nat)) (.int .i64 (n : Nat))).run Tryz.prog u = .ok (.slice (some ⟨u.heap.size, 0, none⟩) n n) (u.alloc (.cells (madeCells #[.bool false] n) 4)) := by
  obtain ⟨i0, hi, hz0, hz1, hz2⟩ := info_parts info_boolR
  have h := run_make (P := Tryz.prog) (w := u) 81 4 i0 (.bool false) Tryz.underlying81 hi hz0 .i64 .i64 (n : Int) (n : Int) (by omega) (Int.le_refl _) (by rw [hz2]; omega) (by omega)
  simpa [hz1, Value.cells] using h
/-- a row of flags in memory -/
def SnAt (W : World) (B n : Nat) (f : Nat → Bool) : Prop := ∃ cs : Array Value, W.heap[B]? = some (.cells cs 4 (0, 0)) ∧ cs.size = n ∧ ∀ j, j < n → cs[j]? = some (.bool (f j))
theorem SnAt.keep {W W' : World} {B n : Nat} {f : Nat → Bool} (h : SnAt W B n f) {S : Nat → Prop} (hk : Keep S W W') (hS : ¬ S B) : SnAt W' B n f := by
  obtain ⟨cs, h1, h2⟩ := h
  exact ⟨cs, hk.blk h1 hS, h2⟩
def setF (f : Nat → Bool) (k : Nat) : Nat → Bool := fun j => if j = k then true else f j
theorem SnAt.set {W : World} {B n : Nat} {f : Nat → Bool} (h : SnAt W B n f) (k : Nat) : SnAt (W.setCell ⟨B, k, none⟩ (.bool true)) B n (setF f k) := by
  obtain ⟨cs, h1, h2, h3⟩ := h
  refine ⟨_, set_blk h1 k _, by simp [h2], fun j hj => ?_⟩
  rw [Array.getElem?_setIfInBounds]
  unfold setF
  by_cases e : k = j
  · subst e; simp [h2, hj]
  · rw [if_neg e, if_neg (Ne.symm e), h3 j hj]
theorem sn_new (w : World) (n : Nat) : SnAt (w.alloc (.cells (madeCells #[.bool false] n) 4)) w.heap.size n (fun _ => false) :=
  ⟨_, heap_alloc_new _ _, by simp [madeCells], fun j hj => by simp [madeCells, hj, Nat.mod_one]⟩
theorem SnAt.at {W : World} {B n : Nat} {f : Nat → Bool} (h : SnAt W B n f) {j : Nat} (hj : j < n) : W.cell? ⟨B, j, none⟩ = some (.bool (f j)) ∧ W.frozen? ⟨B, j, none⟩ = false := by
  obtain ⟨cs, h1, _, h3⟩ := h
  exact ⟨cell_blk h1 j (h3 j hj), frozen_blk h1 j⟩
/-- how many flags are down -/
def low (f : Nat → Bool) (n : Nat) : Nat := ((List.range n).filter fun j => !f j).length
def isUp : Option Value → Bool
  | some (.bool true) => true
  | _ => false
/-- the same, off memory -/
def lowW (w : World) (B n : Nat) : Nat := low (fun j => isUp (w.cell? ⟨B, j, none⟩)) n
theorem low_congr {f g : Nat → Bool} {n : Nat} (h : ∀ j, j < n → f j = g j) : low f n = low g n := by
  unfold low
  congr 1
  refine List.filter_congr fun j hj => ?_
  rw [h j (List.mem_range.1 hj)]
theorem SnAt.low {W : World} {B n : Nat} {f : Nat → Bool} (h : SnAt W B n f) : lowW W B n = Gr.low f n :=
  low_congr fun j hj => by
    rw [(h.at hj).1]
    cases f j <;> rfl
theorem low_set {f : Nat → Bool} : ∀ {n k : Nat}, k < n → f k = false → low (setF f k) n < low f n
  | 0, _, h, _ => by omega
  | n + 1, k, h, hf => by
    unfold low
    rw [List.range_succ, List.filter_append, List.filter_append, List.length_append, List.length_append]
    by_cases e : k = n
    · subst e
      have h1 : low (setF f k) k = low f k := low_congr fun j hj => by unfold setF; rw [if_neg (by omega)]
      unfold low at h1
      rw [h1]
      simp [setF, hf]
    · have h1 := low_set (n := n) (k := k) (by omega) hf
      unfold low at h1
      have h2 : setF f k n = f n := by unfold setF; rw [if_neg (fun h => e h.symm)]
      simp only [List.filter_cons, List.filter_nil, h2]
      omega
theorem eg_mem {xs : List No} {i : Nat} {x : No} (h : xs[i]? = some x) (hv : ∀ e ∈ x.nl ++ x.al, 0 ≤ e) (k : Nat) : k ∈ eg xs i ↔ (x.nl.contains (k : Int) || x.al.contains (k : Int)) = true := by
  rw [eg_at h]
  simp only [List.mem_append, List.mem_map, Bool.or_eq_true, List.contains_iff_mem]
  constructor
  · rintro (⟨e, he, rfl⟩ | ⟨e, he, rfl⟩)
    · exact .inl (by rw [Int.toNat_of_nonneg (hv e (List.mem_append_left _ he))]; exact he)
    · exact .inr (by rw [Int.toNat_of_nonneg (hv e (List.mem_append_right _ he))]; exact he)
  · rintro (h | h)
    · exact .inl ⟨_, h, by simp⟩
    · exact .inr ⟨_, h, by simp⟩
/-- who is marked waits; where nothing more comes, who waits is marked -/
theorem closed_waits {E : Nat → List Nat} {f : Nat → Bool} {i0 n : Nat} (hE : ∀ i k, k ∈ E i → i < n ∧ k < n) (hc : ∀ i, i < n → (i = i0 ∨ f i = true) → ∀ k ∈ E i, f k = true) : ∀ k, Waits E i0 k → f k = true := by
  have h : ∀ (m a b : Nat), wt E m a b → (a = i0 ∨ f a = true) → f b = true := by
    intro m
    induction m with
    | zero => intro a b h ha; exact hc a (hE a b h).1 ha b h
    | succ m ih =>
      rintro a b ⟨x, hx, h⟩ ha
      exact ih x b h (.inr (hc a (hE a x hx).1 ha x hx))
  rintro k ⟨m, hm⟩
  exact h m i0 k hm (.inl rfl)
end Gr
end Go.Proofs.YtnhmmplheihojaaGreatDoor

/- The document's Check (escapementref10): Waits, the walk. -/
namespace Go.Proofs.YtnhmmplheihojaaGreatDoor
namespace Gr
open Go.RowKit

theorem Keep.mix {S : Nat → Prop} {a b c : World} (h : Keep (fun _ => False) a b) (k : Keep S b c) (hS : ∀ i, S i → a.heap.size ≤ i) : Keep (fun _ => False) a c :=
  ⟨k.os.trans h.os, k.tape.trans h.tape, k.output.trans h.output, Nat.le_trans h.size k.size, fun i hi _ => (k.block i (by have := h.size; omega) (fun hs => by have := hS i hs; omega)).trans (h.block i hi (fun f => f))⟩
set_option maxRecDepth 100000 in
set_option maxHeartbeats 40000000 in
theorem refWaits_any (nm : ByteArray) (dl : Int) (s : Option Addr × Nat × Nat) (xs : List No) (B : Nat) (w : World) (hP : RdP B w s xs) (hB : B ≤ w.heap.size) (hv : Val xs) (i0 : Nat) (hi0 : i0 < xs.length) :
    Calls Tryz.prog 32 #[.agg #[.string nm, .int .i64 dl, .slice s.1 s.2.1 s.2.2], .int .i64 (i0 : Nat)] w fun e w' => ∃ M, e = .returned (.slice (some ⟨M, 0, none⟩) xs.length xs.length) ∧ ∃ f, SnAt w' M xs.length f ∧ (∀ j, j < xs.length → (f j = true ↔ Waits (eg xs) i0 j)) ∧ Keep (fun _ => False) w w' := by
  obtain ⟨a, n, c⟩ := s
  have hn : n = xs.length := hP.1
  rw [← hn] at hi0 ⊢
  have hn64 : n ≤ 64 := by have := hv.1; omega
  have HSW : (w.alloc (.cells #[.string nm, .int .i64 dl, .slice a n c] 25)).heap.size = w.heap.size + 1 := by simp
  have hmk := made_boolsR (w.alloc (.cells #[.string nm, .int .i64 dl, .slice a n c] 25)) n (by omega)
  rw [HSW] at hmk
  have K1 := Keep.alloc (fun _ => False) w (.cells #[.string nm, .int .i64 dl, .slice a n c] 25)
  have K2 := Keep.alloc (fun _ => False) (w.alloc (.cells #[.string nm, .int .i64 dl, .slice a n c] 25)) (.cells (madeCells #[.bool false] n) 4)
  have hb1 := heap_alloc_new w (.cells #[.string nm, .int .i64 dl, .slice a n c] 25)
  have hc1 := cell_blk hb1 2 (v := .slice a n c) rfl
  have HB1 := hide (K2.blk hb1 (fun h => h))
  have sn := sn_new (w.alloc (.cells #[.string nm, .int .i64 dl, .slice a n c] 25)) n
  rw [HSW] at sn
  have SN := hide sn
  have KW := hide (K1.more K2)
  have HP := hide hP
  have HV : Hid (∀ i x, xs[i]? = some x → ∀ k, k ∈ eg xs i ↔ (x.nl.contains (k : Int) || x.al.contains (k : Int)) = true) := fun i x hx k => eg_mem hx (fun e he => (hv.2 x (List.mem_of_getElem? hx) e he).1) k
  have HE : Hid (∀ i k, k ∈ eg xs i → i < n ∧ k < n) := fun i k hk => by
    unfold eg at hk
    cases hx : xs[i]? with
    | none => rw [hx] at hk; cases hk
    | some x =>
      rw [hx] at hk
      obtain ⟨e, he, rfl⟩ := List.mem_map.1 hk
      have := hv.2 x (List.mem_of_getElem? hx) e he
      exact ⟨by rw [hn]; exact (List.getElem?_eq_some_iff.1 hx).1, by omega⟩
  generalize eg xs = E at *
  clear K1 K2 hb1 sn hP hv hn HSW
  go_enter Tryz.func32, Tryz.ntmps32
  go_upto_region 2 with fail
  generalize (w.alloc (.cells #[.string nm, .int .i64 dl, .slice a n c] 25)).alloc (.cells (madeCells #[.bool false] n) 4) = w2 at *
  clear hmk hc1
  generalize hN : w.heap.size = N at *
  have HM : Hid (∀ W, Keep (fun k => k = N + 1) w2 W → W.cell? ⟨N, 2, none⟩ = some (.slice a n c) ∧ RdP B W (a, n, c) xs ∧ Keep (fun _ => False) w W) := fun W k =>
    ⟨cell_blk (k.blk HB1.out (fun h => by simp at h)) 2 rfl, (HP.out.new KW.out).keep k (fun i hi => by omega), Keep.mix KW.out k (fun i hi => by omega)⟩
  clear HB1 HP KW
  go_wp2_with fail
  go_loopw [6] (fun mv wr => ∃ (m : Bool), mv = .bool m ∧ Hid (∃ f, SnAt wr (N + 1) n f ∧ Keep (fun k => k = N + 1) w2 wr ∧ (∀ j, f j = true → Waits E i0 j) ∧ (m = false → ∀ i, i < n → (i = i0 ∨ f i = true) → ∀ k ∈ E i, f k = true))) (fun mv wr => 2 * lowW wr (N + 1) n + (if isUp (some mv) then 1 else 0))
  case atStart => exact ⟨true, rfl, _, SN.out, Keep.refl _ _, (fun j h => by cases h), (fun h => by cases h)⟩
  case round =>
    clear SN
    obtain ⟨m0, rfl, HD⟩ := hrel
    obtain ⟨f0, hs0, hk0, hw0, hc0⟩ := HD.out
    have HS0 := hide hs0
    have HK0 := hide hk0
    have HW0 := hide hw0
    have HC0 := hide hc0
    have HL0 := hide hs0.low
    clear HD hs0 hk0 hw0 hc0
    cases m0
    · have KF := hide (HM.out wr HK0.out).2.2
      have HCC := hide (HC0.out rfl)
      clear HC0 HL0
      go_wp2_with fail
      go_ret
      exact ⟨N + 1, rfl, f0, HS0.out, fun j hj => ⟨HW0.out j, closed_waits HE.out HCC.out j⟩, KF.out⟩
    · clear HC0
      have HLW : Hid (lowW wr (N + 1) n = low f0 n) := HL0.out
      clear HL0
      generalize lowW wr (N + 1) n = lw at *
      go_wp2_with fail
      go_loopw [6, 7] (fun mv iv wr => ∃ (m : Bool) (i : Nat), mv = .bool m ∧ iv = .int .i64 (i : Nat) ∧ i ≤ n ∧ Hid (∃ f, SnAt wr (N + 1) n f ∧ Keep (fun k => k = N + 1) w2 wr ∧ (∀ j, f j = true → Waits E i0 j) ∧ low f n ≤ low f0 n ∧ (m = true → low f n < low f0 n) ∧ (m = false → ∀ i', i' < i → (i' = i0 ∨ f i' = true) → ∀ k ∈ E i', f k = true))) (fun _ iv _ => n - (intOf iv).toNat)
      case atStart => exact ⟨false, 0, rfl, rfl, Nat.zero_le _, f0, HS0.out, HK0.out, HW0.out, Nat.le_refl _, (fun h => by cases h), fun _ i' h => absurd h (Nat.not_lt_zero _)⟩
      case round =>
        obtain ⟨m, i, rfl, rfl, hi, HD⟩ := hrel
        clear HS0 HK0 HW0
        obtain ⟨f, hs, hk, hw, hl, hm, hc⟩ := HD.out
        have HF := hide hs
        have HK := hide hk
        have HW := hide hw
        have HL := hide hl
        have HMM := hide hm
        have HC := hide hc
        clear HD hs hk hw hl hm hc
        obtain ⟨c2, hp, _⟩ := HM.out wr HK.out
        have HPQ := hide hp
        clear hp
        by_cases hlt : i < n
        · have ci := (HF.out.at hlt).1
          have HLT := hide hlt
          go_upto_region 8 with fail
          go_cut [31] from 15 to 67 (fun v wx => v = .bool (!(decide (i = i0)) && !f i) ∧ wx = wr)
          case first =>
            by_cases hii : i = i0
            · have g3 : ((i : Int) != (i0 : Int)) = false := by simp; omega
              have HII := hide hii
              clear hii
              go_wp2_with fail
              go_meet
              case rel =>
                rw [decide_eq_true HII.out]
                exact ⟨rfl, rfl⟩
            · have g3 : ((i : Int) != (i0 : Int)) = true := by simp; omega
              have HII := hide hii
              clear hii
              generalize f i = fi at *
              go_wp2_with fail
              go_meet
              case rel =>
                rw [decide_eq_false HII.out]
                cases fi <;> exact ⟨rfl, rfl⟩
          case rest =>
            obtain ⟨rfl, rfl⟩ := hcut
            cases hb : (!(decide (i = i0)) && !f i) with
            | false =>
              have hgo : i = i0 ∨ f i = true := by
                by_cases e : i = i0
                · exact .inl e
                · refine .inr ?_
                  rw [decide_eq_false e] at hb
                  simpa using hb
              have HGO := hide hgo
              clear hgo hb ci
              go_wp2_with fail
              go_loopw [6, 8] (fun mv kv wr => ∃ (m : Bool) (k : Nat), mv = .bool m ∧ kv = .int .i64 (k : Nat) ∧ k ≤ n ∧ Hid (∃ f, SnAt wr (N + 1) n f ∧ Keep (fun k => k = N + 1) w2 wr ∧ (∀ j, f j = true → Waits E i0 j) ∧ low f n ≤ low f0 n ∧ (m = true → low f n < low f0 n) ∧ (i = i0 ∨ f i = true) ∧ (m = false → (∀ i', i' < i → (i' = i0 ∨ f i' = true) → ∀ k ∈ E i', f k = true) ∧ ∀ k', k' < k → k' ∈ E i → f k' = true))) (fun _ kv _ => n - (intOf kv).toNat)
              case atStart => exact ⟨m, 0, rfl, rfl, Nat.zero_le _, f, HF.out, HK.out, HW.out, HL.out, HMM.out, HGO.out, fun h => ⟨HC.out h, fun k' hk' => absurd hk' (Nat.not_lt_zero _)⟩⟩
              case round =>
                clear HF HK HW HL HMM HC HGO c2 HPQ
                obtain ⟨m, k, rfl, rfl, hkn, HD⟩ := hrel
                obtain ⟨f, hs, hk, hw, hl, hm, hg, hc⟩ := HD.out
                have HF := hide hs
                have HK := hide hk
                have HW := hide hw
                have HL := hide hl
                have HMM := hide hm
                have HG := hide hg
                have HC := hide hc
                clear HD hs hk hw hl hm hg hc
                obtain ⟨c2, hp, _⟩ := HM.out wr HK.out
                by_cases hlk : k < n
                · obtain ⟨g, off, x, ha, _, hx, hnd, hz1, hz2⟩ := hp.at (i := i) hlt
                  have ha : a = some ⟨g, off, none⟩ := ha
                  subst ha
                  have HX := hide (HV.out i x hx k)
                  obtain ⟨⟨nmx, la, bu, cl, be, ba, ca, ji, ⟨ne1, ne2, ne3⟩, ⟨af1, af2, af3⟩⟩, nl, al⟩ := x
                  obtain ⟨_, _, _, _, _, _, _, _, n8, n9⟩ := hnd.all
                  simp only at n8 n9 hz1 hz2 HX
                  have ck := (HF.out.at hlk).1
                  have cf := (HF.out.at hlk).2
                  have I1 := hide (refIn_any (ne1, ne2, ne3) nl (k : Int) B wr hz1)
                  have I2 := hide (refIn_any (af1, af2, af3) al (k : Int) B wr hz2)
                  clear hp hx hnd hz1 hz2
                  generalize nl.contains (k : Int) = q1 at *
                  generalize al.contains (k : Int) = q2 at *
                  have HNO : Hid ((q1 || q2) = false → ∀ k', k' < k + 1 → k' ∈ E i → (∀ k', k' < k → k' ∈ E i → f k' = true) → f k' = true) := fun h k' hk' he hh => by
                    by_cases e : k' = k
                    · subst e
                      have := HX.out.1 he
                      rw [h] at this
                      cases this
                    · exact hh k' (by omega) he
                  have HUP : Hid (f k = true → ∀ k', k' < k + 1 → k' ∈ E i → (∀ k', k' < k → k' ∈ E i → f k' = true) → f k' = true) := fun h k' hk' he hh => by
                    by_cases e : k' = k
                    · subst e; exact h
                    · exact hh k' (by omega) he
                  have HST : Hid ((q1 || q2) = true → f k = false → (∀ j, setF f k j = true → Waits E i0 j) ∧ low (setF f k) n < low f0 n ∧ (i = i0 ∨ setF f k i = true)) := fun h hfk => by
                    have he := HX.out.2 h
                    have hwk : Waits E i0 k := by
                      rcases HG.out with e | e
                      · subst e; exact Waits.edge he
                      · exact (HW.out i e).trans (Waits.edge he)
                    refine ⟨fun j hj => ?_, by have := low_set hlk hfk; have := HL.out; omega, ?_⟩
                    · unfold setF at hj
                      by_cases e : j = k
                      · subst e; exact hwk
                      · rw [if_neg e] at hj; exact HW.out j hj
                    · rcases HG.out with e | e
                      · exact .inl e
                      · refine .inr ?_
                        unfold setF
                        split
                        · rfl
                        · exact e
                  have HLK := hide hlk
                  clear hlk
                  go_upto_region 12 with fail
                  go_cut [9] from 32 to 67 (fun v wx => v = .bool (q1 || q2) ∧ wx = wr)
                  case first =>
                    clear HNO HUP HST HX HG HC HMM HL HW
                    cases q1
                    · go_wp2_with (go_at_call 54; first | (refine I1.out.mono ?_; rintro e w9 ⟨rfl, rfl⟩; clear I1) | (refine I2.out.mono ?_; rintro e w9 ⟨rfl, rfl⟩; clear I2))
                      go_meet
                      case rel => exact ⟨rfl, rfl⟩
                    · go_wp2_with (go_at_call 54; (refine I1.out.mono ?_; rintro e w9 ⟨rfl, rfl⟩; clear I1))
                      go_meet
                      case rel => exact ⟨rfl, rfl⟩
                  case rest =>
                    obtain ⟨rfl, rfl⟩ := hcut
                    clear I1 I2
                    cases hq : (q1 || q2) with
                    | false =>
                      clear HST HUP
                      have HNN := hide (HNO.out hq)
                      clear HNO hq
                      go_wp2_with fail
                      go_roundw
                      case rel =>
                        exact ⟨m, k + 1, rfl, rfl, by have := HLK.out; omega, f, HF.out, HK.out, HW.out, HL.out, HMM.out, HG.out, fun h => ⟨(HC.out h).1, fun k' hk' he => HNN.out k' hk' he (HC.out h).2⟩⟩
                      case measure =>
                        show n - ((k : Int) + 1).toNat < n - (k : Int).toNat
                        have := HLK.out; omega
                    | true =>
                      clear HNO
                      cases hfk : f k with
                      | true =>
                        rw [hfk] at ck
                        have HNN := hide (HUP.out hfk)
                        clear HST hq HUP hfk
                        go_wp2_with fail
                        go_roundw
                        case rel =>
                          exact ⟨m, k + 1, rfl, rfl, by have := HLK.out; omega, f, HF.out, HK.out, HW.out, HL.out, HMM.out, HG.out, fun h => ⟨(HC.out h).1, fun k' hk' he => HNN.out k' hk' he (HC.out h).2⟩⟩
                        case measure =>
                          show n - ((k : Int) + 1).toNat < n - (k : Int).toNat
                          have := HLK.out; omega
                      | false =>
                        rw [hfk] at ck
                        obtain ⟨t1, t2, t3⟩ := HST.out hq hfk
                        have T1 := hide t1
                        have T2 := hide t2
                        have T3 := hide t3
                        have S1 := hide (HF.out.set k)
                        have S2 := hide (HK.out.more (keep_cell _ (N + 1) k (.bool true)))
                        clear HST HUP t1 t2 t3 hq hfk
                        go_wp2_with fail
                        go_roundw
                        case rel =>
                          exact ⟨true, k + 1, rfl, rfl, by have := HLK.out; omega, setF f k, S1.out, S2.out, T1.out, Nat.le_of_lt T2.out, fun _ => T2.out, T3.out, fun h => by cases h⟩
                        case measure =>
                          show n - ((k : Int) + 1).toNat < n - (k : Int).toNat
                          have := HLK.out; omega
                · obtain rfl : k = n := by omega
                  clear hp
                  go_wp2_with fail
                  go_roundw
                  case rel =>
                    refine ⟨m, i + 1, rfl, rfl, by have := HLT.out; omega, f, HF.out, HK.out, HW.out, HL.out, HMM.out, fun h i' hi' hg k' hk' => ?_⟩
                    by_cases e : i' = i
                    · subst e; exact (HC.out h).2 k' (HE.out i' k' hk').2 hk'
                    · exact (HC.out h).1 i' (by omega) hg k' hk'
                  case measure =>
                    show k - ((i : Int) + 1).toNat < k - (i : Int).toNat
                    have := HLT.out; omega
            | true =>
              have hgo : ¬ (i = i0 ∨ f i = true) := by
                intro h
                rcases h with h | h
                · rw [decide_eq_true h] at hb; simp at hb
                · rw [h] at hb; simp at hb
              have HG := hide hgo
              clear hgo hb
              go_wp2_with fail
              go_roundw
              case rel =>
                refine ⟨m, i + 1, rfl, rfl, by have := HLT.out; omega, f, HF.out, HK.out, HW.out, HL.out, HMM.out, fun h i' hi' hg k hk => ?_⟩
                by_cases e : i' = i
                · subst e; exact absurd hg HG.out
                · exact HC.out h i' (by omega) hg k hk
              case measure =>
                show n - ((i : Int) + 1).toNat < n - (i : Int).toNat
                have := HLT.out; omega
        · obtain rfl : i = n := by omega
          have HFL := hide HF.out.low
          go_wp2_with fail
          go_roundw
          · refine ⟨m, rfl, f, HF.out, HK.out, HW.out, fun h i hi => HC.out h i hi⟩
          · show 2 * lowW wr (N + 1) i + (if isUp (some (.bool m)) then 1 else 0) < 2 * lw + (if isUp (some (.bool true)) then 1 else 0)
            rw [HFL.out, HLW.out]
            have h1 := HL.out
            cases m
            · show 2 * low f i + 0 < 2 * low f0 i + 1
              omega
            · have h2 := HMM.out rfl
              show 2 * low f i + 1 < 2 * low f0 i + 1
              omega
end Gr
end Go.Proofs.YtnhmmplheihojaaGreatDoor

/- The document's Check (escapementref10), whole. -/
namespace Go.Proofs.YtnhmmplheihojaaGreatDoor
namespace Gr
open Go.RowKit

theorem wrR {x : Int} (h1 : -9223372036854775808 ≤ x) (h2 : x ≤ 9223372036854775807) : IntKind.i64.wrap x = x := by
  rw [IntKind.wrap_i64]; omega
/-- cN, from a node on, by what the document's node says -/
theorem cN_step {xs : List No} {i : Nat} {x : No} (hx : xs[i]? = some x) (seen : List ByteArray) (hs : ∀ t, t ∈ seen ↔ ∃ y ∈ xs.take i, y.q.nm = t) :
    cN xs.length i seen (xs.drop i) = if nCode xs i x ≠ 0 then (i + 1, nCode xs i x) else cN xs.length (i + 1) (x.q.nm :: seen) (xs.drop (i + 1)) := by
  obtain ⟨hl, hx'⟩ := List.getElem?_eq_some_iff.1 hx
  rw [List.drop_eq_getElem_cons hl, hx', cN]
  have e : seen.any (fun t => decide (t = x.q.nm)) = (xs.take i).any (fun t => decide (t.q.nm = x.q.nm)) := by
    rw [Bool.eq_iff_iff]
    simp only [List.any_eq_true, decide_eq_true_eq]
    constructor
    · rintro ⟨t, ht, rfl⟩; exact (hs _).1 ht
    · rintro ⟨y, hy, e⟩; exact ⟨_, (hs _).2 ⟨y, hy, rfl⟩, e⟩
  rw [e]
  unfold nCode
  split
  · simp
  · split
    · simp
    · split <;> simp
theorem seen_step {xs : List No} {i : Nat} {x : No} (hx : xs[i]? = some x) {seen : List ByteArray} (hs : ∀ t, t ∈ seen ↔ ∃ y ∈ xs.take i, y.q.nm = t) : ∀ t, t ∈ x.q.nm :: seen ↔ ∃ y ∈ xs.take (i + 1), y.q.nm = t := by
  intro t
  rw [take_snoc xs i x hx, List.mem_cons, hs t]
  constructor
  · rintro (rfl | ⟨y, hy, e⟩)
    · exact ⟨x, by simp, rfl⟩
    · exact ⟨y, List.mem_append_left _ hy, e⟩
  · rintro ⟨y, hy, e⟩
    rcases List.mem_append.1 hy with h | h
    · exact .inr ⟨y, h, e⟩
    · exact .inl (by rw [List.mem_singleton.1 h] at e; exact e.symm)
theorem no_waits {xs : List No} {x b : Nat} (h : xs.length ≤ x) : ¬ Waits (eg xs) x b := by
  have he : eg xs x = [] := by unfold eg; rw [List.getElem?_eq_none h]
  intro k
  rcases k.cases with h | ⟨y, h, _⟩
  · rw [he] at h; cases h
  · rw [he] at h; cases h

set_option maxRecDepth 100000 in
set_option maxHeartbeats 20000000 in
theorem refCheck_any (nm : ByteArray) (dl : Int) (s : Option Addr × Nat × Nat) (xs : List No) (B : Nat) (w : World) (hP : RdP B w s xs) (hB : B ≤ w.heap.size) (hsz : Sz nm xs) :
    Calls Tryz.prog 15 #[.agg #[.string nm, .int .i64 dl, .slice s.1 s.2.1 s.2.2]] w fun e w' => e = .returned (.tuple #[.int .i64 ((chk nm dl xs).1 : Nat), .int .i64 ((chk nm dl xs).2 : Nat)]) ∧ Keep (fun _ => False) w w' := by
  obtain ⟨a, n, c⟩ := s
  have hn : n = xs.length := hP.1
  have hnb : n ≤ 1172812402926 := hP.2.1
  have HR : Hid (chk nm dl xs = if cW nm dl xs ≠ 0 then (0, cW nm dl xs) else if (cN xs.length 0 [] xs).2 ≠ 0 then cN xs.length 0 [] xs else if cyc xs ≠ 0 then (cyc xs, 106) else (0, 0)) := rfl
  have HCW : Hid (cW nm dl xs = if !isNm nm then 100 else if !wI dl 1 1099511627776 then 101 else if !wI n 1 64 || decide (256 < edges xs) then 102 else 0) := by show _ = _; unfold cW; rw [hn]
  generalize hres : chk nm dl xs = r at *
  have IS := hide (fun W => refIsName_any nm W hsz.1)
  have ND := hide (fun i x hx W h => refNode_any nm dl (a, n, c) xs B W h i x hx hsz.2)
  have WA := hide (fun hv i hi W h hb => refWaits_any nm dl (a, n, c) xs B W h hb hv i hi)
  have HN := hide hn
  have K1 := Keep.alloc (fun _ => False) w (.cells #[.string nm, .int .i64 dl, .slice a n c] 25)
  have hb1 := heap_alloc_new w (.cells #[.string nm, .int .i64 dl, .slice a n c] 25)
  have HB1 := hide hb1
  have HP := hide hP
  have KW := hide K1
  have HBB := hide hB
  clear hP hsz K1 hb1 hres hn hB
  go_enter Tryz.func15, Tryz.ntmps15
  go_upto_region 1 with fail
  generalize w.alloc (.cells #[.string nm, .int .i64 dl, .slice a n c] 25) = w2 at *
  generalize hN : w.heap.size = N at *
  have HM : Hid (∀ W, Keep (fun _ => False) w2 W → (W.cell? ⟨N, 0, none⟩ = some (.string nm) ∧ W.cell? ⟨N, 1, none⟩ = some (.int .i64 dl) ∧ W.cell? ⟨N, 2, none⟩ = some (.slice a n c)) ∧ RdP B W (a, n, c) xs ∧ B ≤ W.heap.size ∧ Keep (fun _ => False) w W) := fun W k =>
    ⟨⟨cell_blk (k.blk HB1.out (fun h => h)) 0 rfl, cell_blk (k.blk HB1.out (fun h => h)) 1 rfl, cell_blk (k.blk HB1.out (fun h => h)) 2 rfl⟩, HP.out.new (KW.out.more k), by have := HBB.out; have := (KW.out.more k).size; omega, KW.out.more k⟩
  clear HP KW HB1 HBB
  obtain ⟨⟨c0, c1, c2⟩, _⟩ := HM.out w2 (Keep.refl _ _)
  have KF := hide (HM.out w2 (Keep.refl _ _)).2.2.2
  go_wp2_with fail
  go_at_call 30
  refine (IS.out _).mono ?_
  rintro e w3 ⟨rfl, rfl⟩
  clear IS
  generalize isNm nm = q0 at *
  cases q0
  · obtain rfl : r = (0, 100) := by rw [HR.out, HCW.out]; rfl
    clear HR HCW
    go_wp2_with fail
    go_ret2
    exact ⟨rfl, KF.out⟩
  by_cases d1 : dl < 1
  · obtain rfl : r = (0, 101) := by
      have : wI dl 1 1099511627776 = false := by unfold wI; simp; omega
      rw [HR.out, HCW.out, this]; rfl
    clear HR HCW
    go_wp2_with fail
    go_ret2
    exact ⟨rfl, KF.out⟩
  by_cases d2 : 1099511627776 < dl
  · obtain rfl : r = (0, 101) := by
      have : wI dl 1 1099511627776 = false := by unfold wI; simp; omega
      rw [HR.out, HCW.out, this]; rfl
    clear HR HCW
    go_wp2_with fail
    go_ret2
    exact ⟨rfl, KF.out⟩
  have HD : Hid (wI dl 1 1099511627776 = true) := by show _ = _; unfold wI; simp; omega
  by_cases d3 : n < 1
  · obtain rfl : r = (0, 102) := by
      have : wI n 1 64 = false := by unfold wI; simp; omega
      rw [HR.out, HCW.out, HD.out, this]; rfl
    have d3' : (n : Int) < 1 := by omega
    clear HR HCW
    go_wp2_with fail
    go_ret2
    exact ⟨rfl, KF.out⟩
  have d3' : ¬ (n : Int) < 1 := by omega
  by_cases d4 : 64 < n
  · obtain rfl : r = (0, 102) := by
      have : wI n 1 64 = false := by unfold wI; simp; omega
      rw [HR.out, HCW.out, HD.out, this]; rfl
    have d4' : (64 : Int) < (n : Int) := by omega
    clear HR HCW
    go_wp2_with fail
    go_ret2
    exact ⟨rfl, KF.out⟩
  have d4' : ¬ (64 : Int) < (n : Int) := by omega
  have HCW2 : Hid (cW nm dl xs = if 256 < edges xs then 102 else 0) := by
    have h1 : wI n 1 64 = true := by unfold wI; simp; omega
    show cW nm dl xs = if 256 < edges xs then 102 else 0
    have := HCW.out
    rw [HD.out, h1] at this
    simpa using this
  clear HCW HD KF
  have hn64 : n ≤ 64 := by omega
  have hn1 : 1 ≤ n := by omega
  go_wp2_with fail
  clear d1 d2 d3 d4 d3' d4'
  go_loopw [4, 5] (fun cv iv wr => ∃ (m i : Nat), cv = .int .i64 (m : Nat) ∧ iv = .int .i64 (i : Nat) ∧ i ≤ n ∧ m ≤ i * 35184372088832 ∧ Hid (m = edges (xs.take i) ∧ Keep (fun _ => False) w3 wr)) (fun _ iv _ => n - (intOf iv).toNat)
  case atStart => exact ⟨0, 0, rfl, rfl, Nat.zero_le _, by omega, rfl, Keep.refl _ _⟩
  case round =>
    clear c0 c1 c2
    obtain ⟨m, i, rfl, rfl, hi, hm, HD⟩ := hrel
    obtain ⟨⟨c0, c1, c2⟩, hp, _⟩ := HM.out wr HD.out.2
    by_cases hlt : i < n
    · obtain ⟨g, off, x, ha, hg, hx, hNN, hz1, hz2⟩ := hp.at (i := i) hlt
      have ha : a = some ⟨g, off, none⟩ := ha
      subst ha
      have HX := hide hx
      have L1 : Hid (x.q.ne.2.1 = x.nl.length) := hz1.1
      have L2 : Hid (x.q.af.2.1 = x.al.length) := hz2.1
      have l1 : x.q.ne.2.1 ≤ 17592186044416 := hz1.2.1
      have l2 : x.q.af.2.1 ≤ 17592186044416 := hz2.2.1
      obtain ⟨⟨nmx, la, bu, cl, be, ba, ca, ji, ⟨ne1, ne2, ne3⟩, ⟨af1, af2, af3⟩⟩, nl, al⟩ := x
      obtain ⟨_, _, _, _, _, _, _, _, n8, n9⟩ := hNN.all
      clear hx hNN hz1 hz2 hp
      simp only at n8 n9 L1 L2 l1 l2
      have HLT := hide hlt
      have w1 : IntKind.i64.wrap ((m : Int) + (ne2 : Int)) = (m : Int) + (ne2 : Int) := wrR (by omega) (by omega)
      have w2' : IntKind.i64.wrap ((m : Int) + (ne2 : Int) + (af2 : Int)) = (m : Int) + (ne2 : Int) + (af2 : Int) := wrR (by omega) (by omega)
      haveI := behindNE wr
      have e2 := fun u : Behind wr => u.cell c2
      have e8 := fun u : Behind wr => u.cell n8
      have e9 := fun u : Behind wr => u.cell n9
      go_upto_region 11 with fail
      refine quiet_behind (by kernel_rfl) (by kernel_rfl) ?_
      repeat (go_big_quiet_step (fail))
      refine wpQuiet_nil ?_
      intro _ hw'
      obtain ⟨u, hw''⟩ := hw'
      subst hw''
      have KU := hide (HD.out.2.more u.keep)
      clear e2 e8 e9
      go_wp2
      go_roundw
      · refine ⟨m + (ne2 + af2), i + 1, by go_num, rfl, by omega, by omega, ?_, KU.out⟩
        rw [take_snoc _ _ _ HX.out, HD.out.1, L1.out, L2.out]
        simp [edges]
      · show n - ((i : Int) + 1).toNat < n - (i : Int).toNat
        omega
    · obtain rfl : i = n := by omega
      have HKR := hide HD.out.2
      have HME : Hid (m = edges xs) := by
        have := HD.out.1
        rw [HN.out, List.take_length] at this
        exact this
      clear HD hp hlt
      by_cases d5 : 256 < m
      · obtain rfl : r = (0, 102) := by
          rw [HR.out, HCW2.out, ← HME.out, if_pos d5]; rfl
        have d5' : (256 : Int) < (m : Int) := by omega
        have KF := hide (HM.out wr HKR.out).2.2.2
        clear HR HCW2
        go_wp2_with fail
        go_ret2
        exact ⟨rfl, KF.out⟩
      have d5' : ¬ (256 : Int) < (m : Int) := by omega
      have HR2 : Hid (r = if (cN xs.length 0 [] xs).2 ≠ 0 then cN xs.length 0 [] xs else if cyc xs ≠ 0 then (cyc xs, 106) else (0, 0)) := by
        have h0 : cW nm dl xs = 0 := by rw [HCW2.out, ← HME.out, if_neg d5]
        have := HR.out
        rw [h0, if_neg (by simp)] at this
        exact this
      clear HR HCW2 HME hm
      go_wp2_with fail
      go_loopw [6] (fun iv wr => ∃ (j : Nat), iv = .int .i64 (j : Nat) ∧ j ≤ i ∧ Hid (Keep (fun _ => False) w3 wr ∧ ∃ seen, (∀ t, t ∈ seen ↔ ∃ y ∈ xs.take j, y.q.nm = t) ∧ cN xs.length j seen (xs.drop j) = cN xs.length 0 [] xs)) (fun iv _ => i - (intOf iv).toNat)
      case atStart => exact ⟨0, rfl, Nat.zero_le _, HKR.out, [], fun t => by simp, rfl⟩
      case round =>
        clear c0 c1 c2 HKR
        obtain ⟨j, rfl, hj, HD⟩ := hrel
        obtain ⟨hK, seen, hs1, hs2⟩ := HD.out
        have HKR := hide hK
        have HS1 := hide hs1
        have HS2 := hide hs2
        clear HD hK hs1 hs2
        obtain ⟨⟨c0, c1, c2⟩, hp, hb, kf⟩ := HM.out wr HKR.out
        by_cases hlt : j < i
        · obtain ⟨g, off, x, ha, hg, hx, hNN, hz1, hz2⟩ := hp.at (i := j) hlt
          have ND1 := hide (ND.out j x hx wr hp)
          have HX := hide hx
          have HST := hide (cN_step hx seen HS1.out)
          clear hx hNN hz1 hz2 hp ha
          have HLT := hide hlt
          generalize nCode xs j x = nc at *
          go_wp2_with fail
          go_at_call 31
          refine ND1.out.mono ?_
          rintro e w4 ⟨rfl, k4⟩
          have K4 := hide (HKR.out.more k4)
          clear k4 ND1
          by_cases h0 : nc = 0
          · subst h0
            have HS3 : Hid (cN xs.length (j + 1) (x.q.nm :: seen) (xs.drop (j + 1)) = cN xs.length 0 [] xs) := by
              have := HST.out
              rw [if_neg (by simp)] at this
              exact this.symm.trans HS2.out
            have HS4 := hide (seen_step HX.out HS1.out)
            clear HST HS1 HS2
            go_wp2_with fail
            go_roundw
            · exact ⟨j + 1, rfl, by omega, K4.out, _, HS4.out, HS3.out⟩
            · show i - ((j : Int) + 1).toNat < i - (j : Int).toNat
              omega
          · obtain rfl : r = (j + 1, nc) := by
              have h1 := HST.out
              rw [if_pos h0] at h1
              have h2 := HS2.out
              rw [h1] at h2
              rw [HR2.out, ← h2, if_pos h0]
            have KF := hide (HM.out w4 K4.out).2.2.2
            have h0' : ((nc : Int) != 0) = true := by simp; omega
            clear HST HS1 HS2 HR2 h0
            go_wp2_with fail
            go_ret2
            exact ⟨by go_num, KF.out⟩
        · obtain rfl : j = i := by omega
          have HZ : Hid ((cN xs.length 0 [] xs).2 = 0) := by
            have := HS2.out
            rw [List.drop_eq_nil_of_le (by have := HN.out; omega)] at this
            rw [← this]; rfl
          have HV : Hid (Val xs) := cN_val (by have := HN.out; omega) HZ.out
          have HR3 : Hid (r = if cyc xs ≠ 0 then (cyc xs, 106) else (0, 0)) := by
            have := HR2.out
            rw [if_neg (by rw [HZ.out]; simp)] at this
            exact this
          clear HR2 HZ HS1 HS2 hp hlt ND
          go_wp2_with fail
          go_loopw [8] (fun iv wr => ∃ (k : Nat), iv = .int .i64 (k : Nat) ∧ k ≤ j ∧ Hid (Keep (fun _ => False) w3 wr ∧ ∀ t, t < k → ¬ Waits (eg xs) t t)) (fun iv _ => j - (intOf iv).toNat)
          case atStart => exact ⟨0, rfl, Nat.zero_le _, HKR.out, fun t h => absurd h (Nat.not_lt_zero _)⟩
          case round =>
            clear c0 c1 c2 HKR kf hb
            obtain ⟨k, rfl, hk, HD⟩ := hrel
            have HKR := hide HD.out.1
            have HNW := hide HD.out.2
            clear HD
            obtain ⟨⟨c0, c1, c2⟩, hp, hb, kf⟩ := HM.out wr HKR.out
            by_cases hlt : k < j
            · have WA1 := hide (WA.out HV.out k (by have := HN.out; omega) wr hp hb)
              have HLT := hide hlt
              clear hp
              go_wp2_with fail
              go_at_call 32
              refine WA1.out.mono ?_
              rintro e w4 ⟨M, rfl, f, hsn, hfw, k4⟩
              have K4 := hide (HKR.out.more k4)
              have hck := (hsn.at (j := k) (by have := HN.out; have := HLT.out; omega)).1
              have HFW := hide (hfw k (by have := HN.out; have := HLT.out; omega))
              have hxl : xs.length = j := HN.out.symm
              rw [hxl]
              clear WA1 k4 hsn hfw hxl
              cases hfk : f k with
              | true =>
                rw [hfk] at hck
                obtain rfl : r = (k + 1, 106) := by
                  have hw := HFW.out.1 hfk
                  have hcy : IsCyc (eg xs) (k + 1) := .inr ⟨k, rfl, hw, fun x hx => Nat.le_of_not_lt fun hl => HNW.out x hl hx⟩
                  rw [HR3.out, cyc_eq hcy, if_pos (by omega)]
                have KF := hide (HM.out w4 K4.out).2.2.2
                clear HR3 HFW HNW
                go_wp2_with fail
                go_ret2
                exact ⟨by go_num, KF.out⟩
              | false =>
                rw [hfk] at hck
                have HN2 : Hid (∀ t, t < k + 1 → ¬ Waits (eg xs) t t) := fun t ht hw => by
                  by_cases e : t = k
                  · subst e; rw [HFW.out.2 hw] at hfk; cases hfk
                  · exact HNW.out t (by omega) hw
                clear HFW HNW hfk
                go_wp2_with fail
                go_roundw
                · exact ⟨k + 1, rfl, by omega, K4.out, HN2.out⟩
                · show j - ((k : Int) + 1).toNat < j - (k : Int).toNat
                  omega
            · obtain rfl : k = j := by omega
              obtain rfl : r = (0, 0) := by
                have hcy : IsCyc (eg xs) 0 := .inl ⟨rfl, fun x hx => by
                  by_cases hl : x < k
                  · exact HNW.out x hl hx
                  · exact no_waits (by have := HN.out; omega) hx⟩
                rw [HR3.out, cyc_eq hcy, if_neg (by simp)]
              have KF := hide kf
              clear HR3 HNW hp kf
              go_wp2_with fail
              go_ret2
              exact ⟨rfl, KF.out⟩
end Gr
end Go.Proofs.YtnhmmplheihojaaGreatDoor
