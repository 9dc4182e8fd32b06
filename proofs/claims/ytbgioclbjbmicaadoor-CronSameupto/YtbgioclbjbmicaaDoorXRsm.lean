/- CronSame: the walk. -/
import Derived.Test.YtbgioclbjbmicaaDoorXAwa
import Derived.Test.YtbgioclbjbmicaaDoorXTxt
import Derived.Test.YtbgioclbjbmicaaDoorXRrd
import Derived.Test.YtbgioclbjbmicaaDoorXRf2
namespace Go.Proofs.YtbgioclbjbmicaaDoor
open Go.RowKit

theorem sameB_eq {S T : X.Sets} (hS : X.Good S) (hT : X.Good T) : sameB S T = sameR S T := by
  by_cases h : S = T
  · rw [(same_eq hS hT).2 h, h, sameB_self]
  · have h1 : sameR S T = false := by
      cases e : sameR S T
      · rfl
      · exact absurd ((same_eq hS hT).1 e) h
    rw [h1]
    cases e : sameB S T
    · rfl
    · refine absurd ?_ h
      refine (same_eq hS hT).1 (sameR_true fun f hf v hv => ?_)
      unfold sameB at e
      have := List.all_eq_true.1 (List.all_eq_true.1 e f (List.mem_range.2 hf)) v (List.mem_range.2 (by have := X.loF_le f; omega))
      simpa using this
theorem sameR_symm {S T : X.Sets} (hS : X.Good S) (hT : X.Good T) : sameR T S = sameR S T := by
  rw [Bool.eq_iff_iff, same_eq hT hS, same_eq hS hT]; exact eq_comm
set_option maxHeartbeats 400000 in
theorem same_nil (g : Nat) (w : World) :
    Calls Tryd.prog 18 #[.pointer (some ⟨g, 0, none⟩), .pointer none] w fun e w' => e = .returned (.bool false) ∧ Below w.heap.size w w' := by
  go_enter Tryd.func18, Tryd.ntmps18
  go_wp2_with fail
  go_region
  go_wp2_with fail
  go_ret
  exact ⟨rfl, ⟨rfl, rfl, rfl, Nat.le_refl _, fun _ _ => rfl⟩⟩
theorem text_eq {S T : X.Sets} (hS : X.Good S) (hT : X.Good T) : ((⟨(X.text S).toArray⟩ : ByteArray).toList == (⟨(X.text T).toArray⟩ : ByteArray).toList) = sameR S T := by
  rw [Lib.toList_data, Lib.toList_data]
  by_cases h : S = T
  · subst h; rw [(same_eq hS hS).2 rfl]; simp
  · have h1 : sameR S T = false := by
      cases e : sameR S T
      · rfl
      · exact absurd ((same_eq hS hT).1 e) h
    rw [h1]
    simp only [beq_eq_false_iff_ne, ne_eq]
    intro e
    apply h
    have e' : X.text S = X.text T := by simpa using e
    have := X.parse_text hS
    rw [e', X.parse_text hT] at this
    injection this with this
    exact this.symm
/-- Both are refused, or one: what the law asks then. -/
theorem same_no (s o : ByteArray) (w : World) (hs : s.size ≤ 1048576) (ho : o.size ≤ 1048576) (hE : Env w) (hno : (∃ n, X.parse s.data.toList = .inl n) ∨ ∃ n, X.parse o.data.toList = .inl n) :
    Calls Tryd.prog 6 #[.string s, .string o] w fun e w' => e = .returned (.bool true) ∧ Below w.heap.size w w' := by
  go_enter Tryd.func6, Tryd.ntmps6
  go_wp2_with fail
  go_at_call 7
  refine (awake_any w hE).mono ?_
  rintro e w1 ⟨rfl, hb1⟩
  have hE1 := hE.keep hb1
  go_wp2_with fail
  go_at_call 8
  refine (read_any s hs w1 hE1).mono ?_
  rintro e w2 ⟨hr, hb2⟩
  have hE2 := hE1.keep hb2
  have hB2 := hb1.trans (hb2.mono hb1.size)
  clear hb1 hb2 hE1 hE
  cases hp : X.parse s.data.toList with
  | inl n =>
    rw [hp] at hr
    have hr' : e = .returned (.tuple #[.pointer none, none5, .bool false]) := hr
    subst hr'
    have HP := hide hp
    clear hr hp
    unfold none5
    go_wp2_with fail
    have hb3 : Below w2.heap.size w2 (w2.alloc (.cells #[.slice none 0 0, .slice none 0 0, .slice none 0 0, .slice none 0 0, .slice none 0 0] 26)) := Below.put (Below.refl _ _) _
    generalize w2.alloc (.cells #[.slice none 0 0, .slice none 0 0, .slice none 0 0, .slice none 0 0, .slice none 0 0] 26) = W3 at *
    have hE3 := hE2.keep hb3
    have hB3 := hB2.trans (hb3.mono hB2.size)
    clear hB2 hE2 hb3
    go_at_call 8
    refine (read_any o ho W3 hE3).mono ?_
    rintro e w4 ⟨hr, hb4⟩
    have hE4 := hE3.keep hb4
    have hB4 := hB3.trans (hb4.mono hB3.size)
    clear hb4 hE3 hB3
    cases hq : X.parse o.data.toList with
    | inl m =>
      rw [hq] at hr
      have hr' : e = .returned (.tuple #[.pointer none, none5, .bool false]) := hr
      subst hr'
      have HQ := hide hq
      clear hr hq
      unfold none5
      go_upto_region 7 with fail
      have hb5 : Below w4.heap.size w4 (w4.alloc (.cells #[.slice none 0 0, .slice none 0 0, .slice none 0 0, .slice none 0 0, .slice none 0 0] 26)) := Below.put (Below.refl _ _) _
      generalize w4.alloc (.cells #[.slice none 0 0, .slice none 0 0, .slice none 0 0, .slice none 0 0, .slice none 0 0] 26) = W5 at *
      have hE5 := hE4.keep hb5
      have hB5 := hB4.trans (hb5.mono hB4.size)
      clear hB4 hE4 hb5
      go_wp2_with (first
        | (go_at_call 9; refine (refused_any o ho m HQ.out w6 hE6).mono ?_; rintro e w7 ⟨rfl, hb7⟩)
        | (go_at_call 9; refine (refused_any s hs n HP.out _ hE5).mono ?_; rintro e w6 ⟨rfl, hb6⟩
           have hE6 := hE5.keep hb6))
      go_ret
      have h6 := hB5.trans (hb6.mono hB5.size)
      exact ⟨rfl, h6.trans (hb7.mono h6.size)⟩
    | inr T =>
      rw [hq] at hr
      obtain ⟨g, G, rfl, hX, hG⟩ := hr
      clear hq
      unfold rex
      go_upto_region 7 with fail
      generalize hWW : w4.alloc (.cells #[.slice (some ⟨G 0, 0, none⟩) 60 60, .slice (some ⟨G 1, 0, none⟩) 24 24, .slice (some ⟨G 2, 0, none⟩) 32 32, .slice (some ⟨G 3, 0, none⟩) 13 13, .slice (some ⟨G 4, 0, none⟩) 7 7] 26) = W5
      have hb5 : Below w4.heap.size w4 W5 := by rw [← hWW]; exact Below.put (Below.refl _ _) _
      have hE5 := hE4.keep hb5
      have hB5 := hB4.trans (hb5.mono hB4.size)
      clear hB4 hE4 hb5 hWW hX hG
      go_wp2_with ((go_at_call 9; refine (refused_any s hs n HP.out _ hE5).mono ?_; rintro e w6 ⟨rfl, hb6⟩))
      go_ret
      exact ⟨rfl, hB5.trans (hb6.mono hB5.size)⟩
  | inr S =>
    rw [hp] at hr
    obtain ⟨g, G, rfl, hX, hG⟩ := hr
    have hno' : ∃ n, X.parse o.data.toList = .inl n := by
      rcases hno with ⟨n, h⟩ | h
      · rw [hp] at h; cases h
      · exact h
    obtain ⟨m, hq⟩ := hno'
    have HQ := hide hq
    clear hno hq hp
    unfold rex
    go_wp2_with fail
    generalize hWW : w2.alloc (.cells #[.slice (some ⟨G 0, 0, none⟩) 60 60, .slice (some ⟨G 1, 0, none⟩) 24 24, .slice (some ⟨G 2, 0, none⟩) 32 32, .slice (some ⟨G 3, 0, none⟩) 13 13, .slice (some ⟨G 4, 0, none⟩) 7 7] 26) = W3
    have hb3 : Below w2.heap.size w2 W3 := by rw [← hWW]; exact Below.put (Below.refl _ _) _
    have hE3 := hE2.keep hb3
    have hB3 := hB2.trans (hb3.mono hB2.size)
    clear hB2 hE2 hb3 hWW hX hG
    go_at_call 8
    refine (read_any o ho W3 hE3).mono ?_
    rintro e w4 ⟨hr, hb4⟩
    rw [HQ.out] at hr
    have hr' : e = .returned (.tuple #[.pointer none, none5, .bool false]) := hr
    subst hr'
    have hE4 := hE3.keep hb4
    have hB4 := hB3.trans (hb4.mono hB3.size)
    clear hb4 hE3 hB3 hr
    unfold none5
    go_upto_region 7 with fail
    have hb5 : Below w4.heap.size w4 (w4.alloc (.cells #[.slice none 0 0, .slice none 0 0, .slice none 0 0, .slice none 0 0, .slice none 0 0] 26)) := Below.put (Below.refl _ _) _
    generalize w4.alloc (.cells #[.slice none 0 0, .slice none 0 0, .slice none 0 0, .slice none 0 0, .slice none 0 0] 26) = W5 at *
    have hE5 := hE4.keep hb5
    have hB5 := hB4.trans (hb5.mono hB4.size)
    clear hB4 hE4 hb5
    go_wp2_with ((go_at_call 9; refine (refused_any o ho m HQ.out _ hE5).mono ?_; rintro e w6 ⟨rfl, hb6⟩))
    go_ret
    exact ⟨rfl, hB5.trans (hb6.mono hB5.size)⟩
end Go.Proofs.YtbgioclbjbmicaaDoor
