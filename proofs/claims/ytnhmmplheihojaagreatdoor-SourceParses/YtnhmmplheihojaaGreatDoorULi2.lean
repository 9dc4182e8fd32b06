/- Package source: names and numbers off a line. -/
import Derived.Test.YtnhmmplheihojaaGreatDoorULin
import Derived.Test.YtnhmmplheihojaaGreatDoorShelf
namespace Go.Proofs.YtnhmmplheihojaaGreatDoor
namespace U
open Go.RowKit

theorem clone_any (s : ByteArray) (w : World) (h : s.size ≤ 281474976710656) :
    Calls Tryz.prog 107 #[.string s] w fun e w' => e = .returned (.string s) ∧ Below w.heap.size w w' := by
  go_enter Tryz.func107, Tryz.ntmps107
  go_wp2_with (go_at_call 131; refine (Tryz.stringslite_Clone s _ h).mono ?_; rintro e w1 ⟨rfl, hb⟩)
  go_ret
  exact ⟨rfl, hb⟩

theorem LineAt.cell {w : World} {L pl : Nat} {s : Ln} (h : LineAt w L pl s) : w.cell? ⟨L, 2, none⟩ = some (.bool s.2) ∧ w.frozen? ⟨L, 2, none⟩ = false := by
  obtain ⟨a, c, hb, _⟩ := h
  exact ⟨cell_blk hb 2 rfl, frozen_blk hb 2⟩

set_option maxHeartbeats 1000000 in
theorem name_any (L pl : Nat) (s : Ln) (w : World) (h : LineAt w L pl s) (hz : ∀ x ∈ s.1, x.length ≤ 65536) :
    Calls Tryz.prog 88 #[.pointer (some ⟨L, 0, none⟩)] w fun e w' => e = .returned (.string (ba (tkName s).1)) ∧ LineAt w' L pl (tkName s).2 ∧ Keep (fun k => k = L) w w' := by
  have HT := hide (take_any L pl s w h)
  have hsz : (ba (hd s.1)).size ≤ 281474976710656 := by
    rw [ba_size]
    cases hs : s.1 with
    | nil => simp [hd]
    | cons x r => have := hz x (by rw [hs]; simp); simp [hd]; omega
  have HI := hide (fun w => isName_any (ba (hd s.1)) w)
  have HC := hide (fun w => clone_any (ba (hd s.1)) w hsz)
  rw [ba_data] at HI
  have HE1 : Hid ((tkName s).1 = hd s.1) := rfl
  have HE2 : Hid ((tkName s).2 = (s.1.tail, s.2 || !nmL (hd s.1))) := rfl
  generalize (tkName s).1 = r1 at *
  generalize (tkName s).2 = r2 at *
  obtain rfl : r1 = hd s.1 := HE1.out
  obtain ⟨ws, wr⟩ := s
  simp only at *
  generalize hd ws = x at *
  generalize nmL x = b at *
  generalize ws.tail = tl at *
  clear h hsz HE1
  go_enter Tryz.func88, Tryz.ntmps88
  go_wp2_with fail
  go_at_call 45
  refine HT.out.mono ?_
  rintro e w1 ⟨rfl, hl1, k1⟩
  have HL1 := hide hl1
  have K1 := hide k1
  obtain ⟨c2, f2⟩ := hl1.cell
  clear k1 hl1 HT
  cases wr with
  | true =>
    go_wp2_with (first
      | (go_at_call 107; refine (HC.out _).mono ?_; rintro e w2 ⟨rfl, hb2⟩))
    go_ret
    have hm := HL1.out.mark true
    refine ⟨rfl, ?_, ?_⟩
    · rw [HE2.out]; exact hm.below hb2
    · exact (K1.out.more (keep_cell w1 L 2 (.bool true))).more (Keep.ofBelow hb2 (Nat.le_refl _))
  | false =>
    go_wp2_with (first
      | (go_at_call 92; refine (HI.out _).mono ?_; rintro e w2 ⟨rfl, hb2⟩
         have HB2 := hide hb2
         have HL2 := hide (HL1.out.below hb2)
         obtain ⟨d2, g2⟩ := HL2.out.cell
         clear hb2)
      | (go_at_call 107; refine (HC.out _).mono ?_; rintro e w3 ⟨rfl, hb3⟩))
    go_ret
    have hm := HL2.out.mark (!b)
    refine ⟨rfl, ?_, ?_⟩
    · rw [HE2.out]; exact hm.below hb3
    · exact ((K1.out.more (Keep.ofBelow HB2.out (Nat.le_refl _))).more (keep_cell w2 L 2 (.bool (!b)))).more (Keep.ofBelow hb3 (Nat.le_refl _))

theorem string_eq (a b : List UInt8) : ((ba a).toList == (ba b).toList) = decide (a = b) := by
  rw [Lib.toList_data, Lib.toList_data, ba_data, ba_data]
  rw [Bool.eq_iff_iff]
  simp
theorem string_lit (a l : List UInt8) : ((ba a).toList == l) = decide (a = l) := by
  rw [Lib.toList_data, ba_data]
  rw [Bool.eq_iff_iff]
  simp
set_option maxHeartbeats 1000000 in
theorem number_any (L pl : Nat) (kw : List UInt8) (s : Ln) (w : World) (h : LineAt w L pl s) :
    Calls Tryz.prog 89 #[.pointer (some ⟨L, 0, none⟩), .string (ba kw)] w fun e w' => e = .returned (.int .i64 (tkNum kw s).1) ∧ LineAt w' L pl (tkNum kw s).2 ∧ Keep (fun k => k = L) w w' := by
  have HT := hide (take_any L pl s w h)
  have HT2 := hide (fun w h => take_any L pl (s.1.tail, s.2) w h)
  have HN := hide (fun w => numberOf_any (ba (hd s.1.tail)) w)
  rw [ba_data] at HN
  unfold numEnd at HN
  have HE1 : Hid ((tkNum kw s).1 = (((num (hd s.1.tail)).getD 0 : Nat) : Int)) := rfl
  have HE2 : Hid ((tkNum kw s).2 = (s.1.tail.tail, s.2 || !decide (hd s.1 = kw) || (num (hd s.1.tail)).isNone)) := rfl
  have hnone : (num (hd s.1.tail)).isNone = !(num (hd s.1.tail)).isSome := by cases num (hd s.1.tail) <;> rfl
  rw [hnone] at HE2
  generalize (tkNum kw s).1 = r1 at *
  generalize (tkNum kw s).2 = r2 at *
  obtain rfl := HE1.out
  obtain ⟨ws, wr⟩ := s
  simp only at *
  have HQ := hide (string_eq (hd ws) kw)
  generalize hd ws = x at *
  generalize (num (hd ws.tail)).isSome = b at *
  generalize (num (hd ws.tail)).getD 0 = n at *
  generalize hd ws.tail = y at *
  generalize ws.tail.tail = tl2 at *
  generalize ws.tail = tl at *
  generalize hst : decide (x = kw) = st at *
  clear h HE1 hst hnone
  go_enter Tryz.func89, Tryz.ntmps89
  go_wp2_with fail
  go_at_call 45
  refine HT.out.mono ?_
  rintro e w1 ⟨rfl, hl1, k1⟩
  have K1 := hide k1
  have HL1 := hide hl1
  clear k1 hl1 HT
  have hq := HQ.out
  clear HQ
  go_wp2_with fail
  go_at_call 45
  refine (HT2.out _ HL1.out).mono ?_
  rintro e w2 ⟨rfl, hl2, k2⟩
  have K2 := hide (K1.out.more k2)
  have HL2 := hide hl2
  clear k2 hl2 HT2 HL1 K1
  go_wp2_with fail
  go_at_call 108
  refine (HN.out _).mono ?_
  rintro e w3 ⟨rfl, hb3⟩
  have K3 := hide (K2.out.more (Keep.ofBelow hb3 (Nat.le_refl _)))
  have HL3 := hide (HL2.out.below hb3)
  obtain ⟨c2, f2⟩ := HL3.out.cell
  clear hb3 HL2 K2
  have HM := hide (fun u => HL3.out.mark u)
  have HK := hide (fun u => K3.out.more (keep_cell w3 L 2 (.bool u)))
  cases wr <;> cases st <;> cases b
  all_goals go_wp2_with fail
  all_goals go_ret
  all_goals refine ⟨rfl, ?_, HK.out _⟩
  all_goals (rw [HE2.out]; exact HM.out _)
end U
end Go.Proofs.YtnhmmplheihojaaGreatDoor
