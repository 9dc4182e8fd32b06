/- Package source's laws: SourceFirst. -/
import Derived.Test.YtckbgbhidbbckaaGreatDoorUEnd
import Derived.Test.YtckbgbhidbbckaaGreatDoorUKno
namespace Go.Proofs.YtckbgbhidbbckaaGreatDoor
namespace U
open Go.RowKit

theorem endsR_len : ∀ (s : List UInt8) (k : Nat), (endsR k s).length ≤ s.length
  | [], _ => by simp [endsR]
  | b :: r, k => by
    have ih := endsR_len r (k + 1)
    unfold endsR
    split
    · simp; exact ih
    · split
      · simp
      · simp; omega
/-- the line and the error that Parse tells -/
noncomputable def tells (t : List UInt8) : Nat × Nat := match parse t with
  | .inl x => x
  | .inr _ => (0, 0)
theorem parse_gen (t : List UInt8) (ht : t.length ≤ 1000000000) (w : World) (hE : EnvA w) :
    Calls Tryz.prog 10 #[.string (ba t)] w fun e w' => ∃ nv dl va n vc, e = .returned (.tuple #[.agg #[.string nv, .int .i64 dl, .slice va n vc], .int .i64 ((tells t).1 : Nat), .int .i64 ((tells t).2 : Nat)]) ∧ Below w.heap.size w w' := by
  have P := parse_any (ba t) w (by rw [ba_size]; omega) hE
  rw [ba_data] at P
  refine P.mono ?_
  rintro e w' ⟨hb, ⟨p, c, h1, rfl⟩ | ⟨q, va, vc, h1, rfl, h2, h3⟩⟩
  · unfold tells; rw [h1]; exact ⟨_, _, _, _, _, rfl, hb⟩
  · unfold tells; rw [h1]; exact ⟨_, _, _, _, _, rfl, hb⟩
theorem ba_take (s : List UInt8) (m : Nat) : (ba s).extract 0 m = ba (s.take m) := by
  apply ByteArray.ext
  rw [ByteArray.data_extract]
  simp [ba]
theorem chk_not110 (nm : ByteArray) (dl : Int) (xs : List Gr.No) : (Gr.chk nm dl xs).2 ≠ 110 := by
  have cN : ∀ (n : Nat) (xs : List Gr.No) (i : Nat) (seen : List ByteArray), (Gr.cN n i seen xs).2 ≠ 110 := by
    intro n xs
    induction xs with
    | nil => intro i seen; simp [Gr.cN]
    | cons x xs ih =>
      intro i seen
      unfold Gr.cN
      split
      · simp
      · split
        · simp
        · split
          · simp
          · exact ih _ _
  unfold Gr.chk
  split
  · simp only
    unfold Gr.cW
    split
    · simp
    · split
      · simp
      · split <;> simp
  · split
    · exact cN _ _ _ _
    · split <;> simp
theorem parse_code {s : List UInt8} {p c : Nat} (h : parse s = .inl (p, c)) : c ≠ 0 ∧ (c = 110 → p = 0) := by
  unfold parse at h
  split at h
  · cases h; exact ⟨by decide, fun _ => rfl⟩
  · split at h
    · cases h; exact ⟨by decide, fun h => by cases h⟩
    · split at h
      · cases h; exact ⟨by decide, fun _ => rfl⟩
      · split at h
        · cases h; exact ⟨by decide, fun h => by cases h⟩
        · have hc := fun nm dl xs => chk_not110 nm dl xs
          unfold judge at h
          split at h
          · cases h
          · rename_i h0
            split at h
            · injection h with h; injection h with h1 h2; subst h2; exact ⟨h0, fun h => absurd h (hc _ _ _)⟩
            · injection h with h; injection h with h1 h2; subst h2; exact ⟨h0, fun h => absurd h (hc _ _ _)⟩
theorem first_cases (s : List UInt8) : ∃ p c, tells s = (p, c) ∧ (((c = 0 ∨ c = 110) ∧ p = 0) ∨ (c ≠ 0 ∧ c ≠ 110 ∧ p ≤ (endsR 0 s).length ∧ (c ≠ 111 ∨ p = 0)) ∨ (c = 111 ∧ p ≠ 0 ∧ p ≤ (endsR 0 s).length ∧ ∃ m, (endsR 0 s)[p - 1]? = some m ∧ m ≤ s.length ∧ tells (s.take m) = (p, 111) ∧
    ∃ m', (p = 1 → m' = 0) ∧ (p ≠ 1 → (endsR 0 s)[p - 2]? = some m') ∧ m' ≤ s.length ∧ ((tells (s.take m')).2 ≠ 111 ∨ (tells (s.take m')).1 = 0))) := by
  cases h : parse s with
  | inr q => exact ⟨0, 0, by unfold tells; rw [h], .inl ⟨.inl rfl, rfl⟩⟩
  | inl x =>
    obtain ⟨p, c⟩ := x
    refine ⟨p, c, by unfold tells; rw [h], ?_⟩
    obtain ⟨h1, h2⟩ := parse_code h
    have h3 := parse_line h
    by_cases c110 : c = 110
    · exact .inl ⟨.inr c110, h2 c110⟩
    · by_cases cc : c ≠ 111 ∨ p = 0
      · exact .inr (.inl ⟨h1, c110, h3, cc⟩)
      · have c1 : c = 111 := by omega
        have c2 : p ≠ 0 := by omega
        subst c1
        obtain ⟨m, g1, g2, g3, g4, g5⟩ := parse_first h c2
        refine .inr (.inr ⟨rfl, c2, h3, m, g1, g2, by unfold tells; rw [g3], ?_⟩)
        by_cases p1 : p = 1
        · obtain ⟨o, g4⟩ := g4 p1
          exact ⟨0, fun _ => rfl, fun h => absurd p1 h, Nat.zero_le _, .inr (by unfold tells; rw [g4])⟩
        · obtain ⟨m', k1, k2, k3⟩ := g5 p1
          refine ⟨m', fun h => absurd h p1, fun _ => k1, k2, ?_⟩
          rcases k3 with ⟨o, k3⟩ | ⟨a, c, k3, k4⟩ | ⟨q, k3⟩
          · exact .inr (by unfold tells; rw [k3])
          · exact .inl (by unfold tells; rw [k3]; exact k4)
          · exact .inr (by unfold tells; rw [k3])
set_option maxRecDepth 100000 in
set_option maxHeartbeats 4000000 in
theorem first_walk (s : List UInt8) (w : World) (hA : EnvA w) (hI : EnvI w) (hl : s.length ≤ 1048576) :
    Calls Tryz.prog 8 #[.string (ba s)] w fun e w' => e = .returned (.bool true) ∧ Below w.heap.size w w' := by
  obtain ⟨p, c, ht, hcs⟩ := first_cases s
  have PG := hide (fun t h w hE => parse_gen t h w hE)
  have P0 := hide (fun w hE => parse_gen s (by omega) w hE)
  rw [ht] at P0
  have EN := hide (fun w => ends_any s w hl)
  have KN := hide known_any
  have HA := hide hA
  have HI := hide hI
  have HC := hide hcs
  clear hA hI ht hcs
  go_enter Tryz.func8, Tryz.ntmps8
  go_wp2_with fail
  go_at_call 9
  refine (KN.out w HA.out HI.out).mono ?_
  rintro e w1 ⟨rfl, b1⟩
  have HB1 := hide b1
  clear b1 KN
  go_wp2_with fail
  go_at_call 10
  refine (P0.out w1 (HA.out.below HB1.out)).mono ?_
  rintro e w2 ⟨nv, dl, va, n, vc, rfl, b2⟩
  have HB2 := hide (HB1.out.trans (b2.mono HB1.out.size))
  clear b2 HB1 P0
  go_upto_region 5 with fail
  have HB3 := hide (HB2.out.alloc HB2.out.size (.cells #[.string nv, .int .i64 dl, .slice va n vc] 25))
  generalize w2.alloc (.cells #[.string nv, .int .i64 dl, .slice va n vc] 25) = w3 at *
  go_wp2_with fail
  go_at_call 20
  refine (EN.out w3).mono ?_
  rintro e w4 ⟨ea, ec, rfl, own4, b4⟩
  have HB4 := hide (HB3.out.trans (b4.mono HB3.out.size))
  have OW := hide own4
  clear b4 own4 EN HB3 HB2
  have hrb := Nat.le_trans (endsR_len s 0) hl
  generalize hR : endsR 0 s = R at *
  generalize hrl : R.length = rl at *
  have HRL := hide hrl
  clear hR hrl
  rcases HC.out with ⟨h1, h2⟩ | ⟨h1, h2, h3, h4⟩ | ⟨h1, h2, h3, m, h4, h5, h6, m', h7, h8, h9, h10⟩
  · clear HC
    subst h2
    rcases h1 with h1 | h1
    · subst h1
      go_wp2_with fail
      go_ret
      exact ⟨rfl, HB4.out⟩
    · subst h1
      go_wp2_with fail
      go_ret
      exact ⟨rfl, HB4.out⟩
  · clear HC
    have k1 : ((c : Int) == 0) = false := by simp; omega
    have k2 : ((c : Int) == 110) = false := by simp; omega
    have k4 : (rl : Int) < (p : Int) ↔ False := by constructor <;> intro h <;> first | omega | exact h.elim
    by_cases hc1 : c = 111
    · have hp0 : p = 0 := h4.resolve_left fun h => h hc1
      subst hc1
      subst hp0
      go_wp2_with fail
      go_ret
      exact ⟨rfl, HB4.out⟩
    · have k3 : ((c : Int) == 111) = false := by simp; omega
      have k5 : ((c : Int) != 111) = true := by simp; omega
      go_wp2_with fail
      go_ret
      exact ⟨rfl, HB4.out⟩
  · clear HC
    subst h1
    obtain ⟨k, rfl⟩ : ∃ k, p = k + 1 := ⟨p - 1, by omega⟩
    rw [show k + 1 - 1 = k by omega] at h4
    have how := OW.out
    obtain ⟨g, hg1, hg2⟩ := own_get how (j := k) (v := .int .i64 (m : Int)) (by simp [ivs, h4])
    subst hg1
    have hbs : (ba s).size = s.length := ba_size s
    have P1 := hide (PG.out (s.take m) (by rw [List.length_take]; omega) w4 (HA.out.below HB4.out))
    rw [h6, ← ba_take] at P1
    have P2 := hide (fun w hE => PG.out (s.take m') (by rw [List.length_take]; omega) w hE)
    rw [← ba_take] at P2
    generalize hT : tells (s.take m') = T at *
    obtain ⟨t1, t2⟩ := T
    simp only at h10
    have HCT : Hid (k ≠ 0 → w4.cell? ⟨g, k - 1, none⟩ = some (.int .i64 (m' : Int))) := fun hk => by
      obtain ⟨g', hg1, hg3⟩ := own_get how (j := k - 1) (v := .int .i64 (m' : Int)) (by have := h8 (by omega); rw [show k + 1 - 2 = k - 1 by omega] at this; simp [ivs, this])
      injection hg1 with hg1
      injection hg1 with hg1
      subst hg1
      exact hg3
    clear how h4 h6 h8 hT
    have k4 : ¬ (rl : Int) < (k : Int) + 1 := by omega
    go_wp2_with fail
    go_at_call 10
    refine P1.out.mono ?_
    rintro e w5 ⟨nv5, dl5, va5, n5, vc5, rfl, b5⟩
    have HB45 := hide b5
    clear b5 P1 PG
    go_upto_region 13 with fail
    have HB46 := hide (HB45.out.alloc HB45.out.size (.cells #[.string nv5, .int .i64 dl5, .slice va5 n5 vc5] 25))
    generalize w5.alloc (.cells #[.string nv5, .int .i64 dl5, .slice va5 n5 vc5] 25) = w6 at *
    have HB6 := hide (HB4.out.trans (HB46.out.mono HB4.out.size))
    have P3 := hide (P2.out w6 (HA.out.below HB6.out))
    clear P2 hg2 HB45
    have HH7 := hide h7
    have HH10 := hide h10
    have HCT6 : Hid (k ≠ 0 → w6.cell? ⟨g, k - 1, none⟩ = some (.int .i64 (m' : Int))) := fun hk => (HB46.out.cell (p := ⟨g, k - 1, none⟩) (World.block_lt_of_cell? _ _ (HCT.out hk))).trans (HCT.out hk)
    clear HCT h7 h10
    go_upto_if 65 with fail
    go_cut [11] from 66 (fun v wx => v = .int .i64 (m' : Int) ∧ wx = w6)
    case first =>
      by_cases hk : k = 0
      · have HM0 : Hid (m' = 0) := HH7.out (by omega)
        have hk2 : ¬ (1 : Int) < (k : Int) + 1 := by omega
        clear HH7 HCT6 hk
        go_wp2_with fail
        go_meet
        exact ⟨by rw [HM0.out]; rfl, rfl⟩
      · obtain ⟨k', rfl⟩ : ∃ k', k = k' + 1 := ⟨k - 1, by omega⟩
        have c1 := HCT6.out hk
        rw [show k' + 1 - 1 = k' by omega] at c1
        have hk3 : (1 : Int) < (k' : Int) + 1 + 1 := by omega
        clear HCT6 HH7 hk
        go_wp2_with fail
        go_meet
        exact ⟨rfl, rfl⟩
    case rest =>
    obtain ⟨rfl, hwc⟩ := hcut
    subst hwc
    clear HCT6 HH7
    go_wp2_with fail
    go_at_call 10
    refine P3.out.mono ?_
    rintro e w7 ⟨nv7, dl7, va7, n7, vc7, rfl, b7⟩
    have HB7 := hide (HB6.out.trans (b7.mono HB6.out.size))
    clear b7 P3
    go_upto_region 17 with fail
    have HB8 := hide (HB7.out.alloc HB7.out.size (.cells #[.string nv7, .int .i64 dl7, .slice va7 n7 vc7] 25))
    generalize w7.alloc (.cells #[.string nv7, .int .i64 dl7, .slice va7 n7 vc7] 25) = w8 at *
    by_cases ht2 : t2 = 111
    · have ht1 : t1 = 0 := HH10.out.resolve_left fun h => h ht2
      subst ht2
      subst ht1
      clear HH10
      go_wp2_with fail
      go_ret
      exact ⟨rfl, HB8.out⟩
    · have q1 : ((t2 : Int) != 111) = true := by simp; omega
      have q2 : ((t2 : Int) == 111) = false := by simp; omega
      clear HH10
      go_wp2_with fail
      go_ret
      exact ⟨rfl, HB8.out⟩
end U
end Go.Proofs.YtckbgbhidbbckaaGreatDoor
