/- Package source: a line's words. -/
import Derived.Test.YtnhmmplheihojaaGreatDoorULi2
import Derived.Test.YtnhmmplheihojaaGreatDoorUCut
namespace Go.Proofs.YtnhmmplheihojaaGreatDoor
namespace U
open Go.RowKit

theorem isBlank_any (n : Nat) (w : World) :
    Calls Tryz.prog 75 #[.int .i32 (n : Int)] w fun e w' => e = .returned (.bool (blR n)) ∧ w' = w := by
  unfold blR
  go_enter Tryz.func75, Tryz.ntmps75
  go_wp2
  all_goals go_ret
  all_goals refine ⟨congrArg (fun b => Ending.returned (.bool b)) ?_, rfl⟩
  all_goals (rw [Bool.eq_iff_iff]; simp only [Bool.or_eq_true, decide_eq_true_eq, beq_iff_eq, true_iff]; omega)
theorem enter_blank : ∀ args w, (callFunc 75 args).run Tryz.prog w = .ok (.enter 75 args) w := by intro args w; simp [go_sem]
theorem isBlank_pred (w : World) : PredAtRunes Tryz.prog 75 #[] blR w := fun W x hx hb => by
  refine (isBlank_any x W).mono ?_
  rintro e w' ⟨rfl, rfl⟩
  exact ⟨rfl, 0, rfl⟩
theorem strs_ba (xs : List ByteArray) : xs = (xs.map (·.data.toList)).map ba := by
  rw [List.map_map]
  conv => lhs; rw [← List.map_id xs]
  exact List.map_congr_left fun x _ => (ba_of x).symm

set_option maxHeartbeats 1000000 in
theorem lineOf_any (s : ByteArray) (hs : s.size ≤ 65536) (pl : Nat) (w : World) :
    Calls Tryz.prog 44 #[.string s, .int .i64 (pl : Int)] w fun e w' => ∃ L, e = .returned (.pointer (some ⟨L, 0, none⟩)) ∧ w.heap.size ≤ L ∧ LineAt w' L pl (wordsOf s.data.toList, false) ∧ Below w.heap.size w w' := by
  have hlen : s.data.toList.length = s.size := by simp
  have ha := ahead_le 35 s.data.toList
  have HC := hide (fun w => cut_any s hs 35 w)
  have hF := hide (fun w => Tryz.strings_FieldsFunc_runes 75 #[] enter_blank blR (ba (ahead 35 s.data.toList)) w (by rw [ba_size]; omega) (isBlank_pred w))
  have HW := hide (fields_words (ba (ahead 35 s.data.toList)))
  rw [ba_data] at HW
  have HO : Hid (wordsOf s.data.toList = words (ahead 35 s.data.toList)) := rfl
  have HNE := hide (wordsOf_ne s.data.toList)
  have HLE := hide (wordsOf_len s.data.toList)
  generalize wordsOf s.data.toList = ws at *
  generalize Lib.goFieldsP blR (ba (ahead 35 s.data.toList)) = fs at *
  generalize words (ahead 35 s.data.toList) = ww at *
  obtain rfl := HO.out
  generalize ba (ahead 35 s.data.toList) = y at *
  go_enter Tryz.func44, Tryz.ntmps44
  go_wp2_with fail
  go_at_call 73
  refine (HC.out _).mono ?_
  rintro e w1 ⟨⟨y2, b2, rfl⟩, n1, rfl⟩
  have hbd : Below w.heap.size w (w.drewN n1) := ⟨rfl, rfl, rfl, Nat.le_refl _, fun _ _ => rfl⟩
  have hzd : (w.drewN n1).heap.size = w.heap.size := rfl
  have F1 := hide (hF.out (w.drewN n1))
  have HB1 := hide hbd
  have HZ1 := hide hzd
  generalize w.drewN n1 = w1 at *
  clear hbd hzd HC hF
  go_wp2_with fail
  go_at_call 74
  refine F1.out.mono ?_
  rintro e w2 ⟨A, rfl, hA, own, hb⟩
  have HO2 := hide own
  have HB2 := hide hb
  have HA := hide hA
  clear own hb hA F1
  go_wp2_with fail
  go_ret
  have hbl := heap_alloc_new w2 (.cells #[.int .i64 (pl : Int), .slice (some ⟨A, 0, none⟩) fs.length fs.length, .bool false] 105)
  have hbel : Below w2.heap.size w2 (w2.alloc (.cells #[.int .i64 (pl : Int), .slice (some ⟨A, 0, none⟩) fs.length fs.length, .bool false] 105)) := (Below.refl _ w2).alloc (Nat.le_refl _) _
  have hfl : fs.length = ws.length := by rw [← HW.out]; simp
  have hz1 := HZ1.out
  have hz2 := HB2.out.size
  refine ⟨w2.heap.size, rfl, by omega, ⟨some ⟨A, 0, none⟩, fs.length, ?_, by simp [hfl], by have := HLE.out; omega, .inr ⟨A, 0, rfl, ?_, fun j x hx => ?_⟩, HNE.out⟩, ?_⟩
  · rw [← hfl]; exact hbl
  · rcases HO2.out.2 with ⟨e, _⟩ | ⟨g, cap, cur, e, _, e3, _⟩
    · cases e
    · injection e with e
      injection e with e
      injection e with e
      subst e
      exact ⟨cur, (hbel.block A (Array.getElem?_eq_some_iff.1 e3).1).trans e3⟩
  · rw [Nat.zero_add]
    refine (hbel.cell (p := ⟨A, j, none⟩) ?_).trans ?_
    · have := (HO2.out.lt A rfl).2; exact this
    · have hj : j < ws.length := (List.getElem?_eq_some_iff.1 hx).1
      rw [World.ownsRow.cellAt HO2.out j (by omega)]
      simp only at hx
      have : fs[j]? = some (ba x) := by
        have h1 := strs_ba fs
        rw [HW.out] at h1
        rw [h1, List.getElem?_map, hx]; rfl
      simp [this]
  · exact HB1.out.trans ((HB2.out.trans (hbel.mono HB2.out.size)).mono (by omega))
end U
end Go.Proofs.YtnhmmplheihojaaGreatDoor
