/- The document's Check (escapementref10): its small functions. -/
import Derived.Test.YtfoahfgehmghcaaGreatDoorGEdg
import Derived.Deep.QuietTactic
import Derived.BigQuiet
namespace Go.Proofs.YtfoahfgehmghcaaGreatDoor
namespace Gr
open Go.RowKit

set_option maxHeartbeats 1000000 in
theorem refIn_any (s : Option Addr × Nat × Nat) (z : List Int) (v : Int) (B : Nat) (w : World) (hz : RdZ B w s z) :
    Calls Tryz.prog 63 #[.slice s.1 s.2.1 s.2.2, .int .i64 v] w fun e w' => e = .returned (.bool (z.contains v)) ∧ w' = w := by
  obtain ⟨a, n, c⟩ := s
  have HN : Hid (n = z.length) := hz.1
  have hn2 : n ≤ 17592186044416 := hz.2.1
  have HZ := hide hz
  clear hz
  generalize hr : z.contains v = r
  have HR := hide hr
  clear hr
  go_enter Tryz.func63, Tryz.ntmps63
  go_wp2_with fail
  go_loopw [5] (fun iv wr => ∃ (i : Nat), iv = .int .i64 (i : Nat) ∧ i ≤ n ∧ wr = w ∧ Hid ((z.drop i).contains v = r)) (fun iv _ => n - (intOf iv).toNat)
  case atStart => exact ⟨0, rfl, Nat.zero_le _, rfl, HR.out⟩
  case round =>
    obtain ⟨i, rfl, hi, rfl, HD⟩ := hrel
    by_cases hlt : i < n
    · obtain ⟨g, off, x, rfl, hg, hx, hc⟩ := HZ.out.at hlt
      have hd := drop_z z i x hx
      have HD2 : Hid ((x :: z.drop (i + 1)).contains v = r) := by have := HD.out; rwa [hd] at this
      clear hx hd HD HZ
      by_cases h1 : x = v
      · subst h1
        obtain rfl : r = true := by rw [← HD2.out]; simp
        go_wp2_with fail
        go_ret
        exact ⟨rfl, rfl⟩
      · have HD3 : Hid ((z.drop (i + 1)).contains v = r) := by
          have := HD2.out
          rw [List.contains_cons] at this
          have hne : (v == x) = false := by simp; exact fun h => h1 h.symm
          rwa [hne, Bool.false_or] at this
        clear HD2
        go_wp2_with fail
        go_roundw
        · exact ⟨i + 1, rfl, by omega, trivial, HD3.out⟩
        · show n - ((i : Int) + 1).toNat < n - (i : Int).toNat
          omega
    · obtain rfl : r = false := by rw [← HD.out, List.drop_eq_nil_of_le (by have := HN.out; omega)]; rfl
      go_wp2_with fail
      go_ret
      exact ⟨rfl, rfl⟩

/-- The worlds behind W: all older memory as it was. -/
def Behind (W : World) : Type := { x : World // Below W.heap.size W x }
theorem behindNE (W : World) : Nonempty (Behind W) := ⟨⟨W, Below.refl _ _⟩⟩
theorem quiet_behind {id : Nat} {Q : Exit → Act → World → Prop} {a : Act} {W : World} {l : List Oper} (hm : Tryz.prog.follows .mixedOrders = true) (hB : Region.lexB .any l.toArray = true)
    (h : wpQuiet Tryz.prog l.toArray (fun w' => ∃ u : Behind W, w' = u.1) (fun a' => ∀ w', (∃ u : Behind W, w' = u.1) → Q .normal a' w') l a) : (Code.region id l.toArray true).wp Tryz.prog Q a W :=
  wp_region_quiet (C := fun w' => ∃ u : Behind W, w' = u.1) hm hB ⟨⟨_, (⟨rfl, rfl, rfl, Nat.le_refl _, fun _ _ => rfl⟩ : Below W.heap.size W W.drew)⟩, rfl⟩ (by simpa using h)
theorem calls_behind' {f : FuncId} {args : Array Value} {W : World} (u : Behind W) {v : Value}
    (h : Calls Tryz.prog f args u.1 fun e w' => e = .returned v ∧ w' = u.1) : Calls Tryz.prog f args u.1 fun e w'' => e = .returned v ∧ ∃ u' : Behind W, w'' = u'.1 :=
  h.mono fun _ _ ⟨he, hb⟩ => ⟨he, u, hb⟩
theorem Behind.cell {W : World} (u : Behind W) {p : Addr} {v : Value} (h : W.cell? p = some v) : u.1.cell? p = some v := (u.2.cell (World.block_lt_of_cell? _ _ h)).trans h
theorem Behind.keep {W : World} (u : Behind W) : Keep (fun _ => False) W u.1 := Keep.ofBelow u.2 (Nat.le_refl _)

set_option maxHeartbeats 4000000 in
theorem refRising_any (s : Option Addr × Nat × Nat) (z : List Int) (own cnt : Int) (B : Nat) (w : World) (hz : RdZ B w s z) :
    Calls Tryz.prog 82 #[.slice s.1 s.2.1 s.2.2, .int .i64 own, .int .i64 cnt] w fun e w' => e = .returned (.bool (lOk (-1) z own cnt)) ∧ Keep (fun _ => False) w w' := by
  obtain ⟨a, n, c⟩ := s
  have HN : Hid (n = z.length) := hz.1
  have hn2 : n ≤ 17592186044416 := hz.2.1
  have HZ := hide hz
  clear hz
  generalize hr : lOk (-1) z own cnt = r
  have HR := hide hr
  clear hr
  go_enter Tryz.func82, Tryz.ntmps82
  go_wp2_with fail
  go_loopw [7] (fun iv wr => ∃ (i : Nat), iv = .int .i64 (i : Nat) ∧ i ≤ n ∧ Hid (Keep (fun _ => False) w wr ∧ ∃ ah : Int, lOk ah (z.drop i) own cnt = r ∧ -1 ≤ ah ∧ (i = 0 → ah = -1) ∧ (i ≠ 0 → z[i - 1]? = some ah))) (fun iv _ => n - (intOf iv).toNat)
  case atStart => exact ⟨0, rfl, Nat.zero_le _, Keep.refl _ _, -1, HR.out, by omega, fun _ => rfl, fun h => absurd rfl h⟩
  case round =>
    obtain ⟨i, rfl, hi, HD⟩ := hrel
    obtain ⟨hK, ah, hD, h1, h2, h3⟩ := HD.out
    have HK := hide hK
    clear HD hK HR
    by_cases hlt : i < n
    · obtain ⟨g, off, x, ha, hg, hx, hc⟩ := (HZ.out.new HK.out).at hlt
      have ha : a = some ⟨g, off, none⟩ := ha
      subst ha
      have HD2 : Hid ((!(decide (x ≤ ah) || decide (cnt ≤ x) || decide (x = own)) && lOk x (z.drop (i + 1)) own cnt) = r) := by
        have := hD; rw [drop_z z i x hx] at this; exact this
      have HX := hide hx
      have HP : Hid (i ≠ 0 → wr.cell? ⟨g, off + (i - 1), none⟩ = some (.int .i64 ah)) := fun hi0 => by
        obtain ⟨g', off', x', ha', _, hx', hc'⟩ := (HZ.out.new HK.out).at (i := i - 1) (by show i - 1 < n; omega)
        have ha' : some (⟨g, off, none⟩ : Addr) = some ⟨g', off', none⟩ := ha'
        injection ha' with ha'
        injection ha' with e1 e2
        subst e1
        subst e2
        rw [h3 hi0] at hx'
        rw [Option.some.inj hx']
        exact hc'
      have H0 := hide h2
      have HE := hide (fun u : Behind wr => u.cell hc)
      clear hx hD HZ h2 h3
      have e1 := HE.out
      haveI := behindNE wr
      by_cases c1 : x < 0
      · obtain rfl : r = false := by
          have hxa : x ≤ ah := by omega
          rw [← HD2.out]; simp [hxa]
        clear HP
        go_wp2_with fail
        refine quiet_behind (by kernel_rfl) (by kernel_rfl) ?_
        repeat (go_big_quiet_step (fail))
        refine wpQuiet_nil ?_
        intro _ hw'
        obtain ⟨u, hw''⟩ := hw'
        subst hw''
        have KU := hide (HK.out.more u.keep)
        clear e1 HE
        go_wp2
        go_ret
        exact ⟨rfl, KU.out⟩
      · have d1 : decide (x < 0) = false := decide_eq_false c1
        by_cases c2 : cnt ≤ x
        · obtain rfl : r = false := by rw [← HD2.out]; simp [c2]
          clear HP
          go_wp2_with fail
          refine quiet_behind (by kernel_rfl) (by kernel_rfl) ?_
          repeat (go_big_quiet_step (fail))
          refine wpQuiet_nil ?_
          intro _ hw'
          obtain ⟨u, hw''⟩ := hw'
          subst hw''
          have KU := hide (HK.out.more u.keep)
          clear e1 HE
          go_wp2
          go_ret
          exact ⟨rfl, KU.out⟩
        · have d2 : decide (cnt ≤ x) = false := decide_eq_false c2
          by_cases c3 : x = own
          · obtain rfl : r = false := by rw [← HD2.out]; simp [c3]
            clear HP HD2
            subst c3
            go_wp2_with fail
            refine quiet_behind (by kernel_rfl) (by kernel_rfl) ?_
            repeat (go_big_quiet_step (fail))
            refine wpQuiet_nil ?_
            intro _ hw'
            obtain ⟨u, hw''⟩ := hw'
            subst hw''
            have KU := hide (HK.out.more u.keep)
            clear e1 HE
            go_wp2
            go_ret
            exact ⟨rfl, KU.out⟩
          · have d3 : (x == own) = false := by simpa using c3
            by_cases c4 : i = 0
            · have ha0 : ah = -1 := H0.out c4
              have HD3 : Hid (lOk x (z.drop (i + 1)) own cnt = r) := by
                have := HD2.out
                have q1 : ¬ x ≤ ah := by omega
                simp only [q1, c2, c3, decide_false, Bool.or_self, Bool.not_false, Bool.true_and] at this
                exact this
              subst c4
              clear HD2 HP H0 ha0
              have e0 : ∀ u : Behind wr, u.1.cell? ⟨g, off, none⟩ = some (.int .i64 x) := e1
              go_wp2_with fail
              refine quiet_behind (by kernel_rfl) (by kernel_rfl) ?_
              repeat (go_big_quiet_step (fail))
              refine wpQuiet_nil ?_
              intro _ hw'
              obtain ⟨u, hw''⟩ := hw'
              subst hw''
              have KU := hide (HK.out.more u.keep)
              clear e0 e1 HE
              go_wp2
              go_roundw
              · exact ⟨1, rfl, by omega, KU.out, x, HD3.out, by omega, fun h => by omega, fun _ => HX.out⟩
              · show n - ((0 : Int) + 1).toNat < n - (0 : Int).toNat
                omega
            · obtain ⟨k, rfl⟩ : ∃ k, i = k + 1 := ⟨i - 1, by omega⟩
              have hcp := HP.out (by omega)
              rw [show k + 1 - 1 = k by omega] at hcp
              have e2 := fun u : Behind wr => u.cell hcp
              clear HP H0
              have d4 : decide ((0 : Int) < (k : Int) + 1) = true := decide_eq_true (by omega)
              by_cases c5 : x ≤ ah
              · obtain rfl : r = false := by rw [← HD2.out]; simp [c5]
                go_wp2_with fail
                refine quiet_behind (by kernel_rfl) (by kernel_rfl) ?_
                repeat (go_big_quiet_step (fail))
                refine wpQuiet_nil ?_
                intro _ hw'
                obtain ⟨u, hw''⟩ := hw'
                subst hw''
                have KU := hide (HK.out.more u.keep)
                clear e1 e2 HE
                go_wp2
                go_ret
                exact ⟨rfl, KU.out⟩
              · have d5 : decide (x ≤ ah) = false := decide_eq_false c5
                have HD3 : Hid (lOk x (z.drop (k + 1 + 1)) own cnt = r) := by
                  have := HD2.out
                  simp only [c5, c2, c3, decide_false, Bool.or_self, Bool.not_false, Bool.true_and] at this
                  exact this
                clear HD2
                go_wp2_with fail
                refine quiet_behind (by kernel_rfl) (by kernel_rfl) ?_
                repeat (go_big_quiet_step (fail))
                refine wpQuiet_nil ?_
                intro _ hw'
                obtain ⟨u, hw''⟩ := hw'
                subst hw''
                have KU := hide (HK.out.more u.keep)
                clear e1 e2 HE
                go_wp2
                go_roundw
                · exact ⟨k + 2, rfl, by omega, KU.out, x, HD3.out, by omega, fun h => by omega, fun _ => HX.out⟩
                · show n - ((k : Int) + 1 + 1).toNat < n - ((k : Int) + 1).toNat
                  omega
    · obtain rfl : r = true := by rw [← hD, List.drop_eq_nil_of_le (by have := HN.out; omega)]; rfl
      go_wp2_with fail
      go_ret
      exact ⟨rfl, HK.out⟩
end Gr
end Go.Proofs.YtfoahfgehmghcaaGreatDoor
