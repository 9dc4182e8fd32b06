/- The document's expressions: words. -/
import Derived.Test.YtbgioclbjbmicaaDoorXRs2
namespace Go.Proofs.YtbgioclbjbmicaaDoor
open Go.RowKit

theorem words_blank {s : ByteArray} {begin pos : Nat} {ws : List ByteArray} (hp : pos < s.size) (hb : begin ≤ pos) (hbl : X.isBl (s[pos]'hp) = true) (h : ws.map (·.data.toList) ++ X.wordsA (seg s begin pos) (s.data.toList.drop pos) = X.words s.data.toList) :
    ws.map (·.data.toList) ++ ((if begin < pos then [seg s begin pos] else []) ++ X.wordsA (seg s (pos + 1) (pos + 1)) (s.data.toList.drop (pos + 1))) = X.words s.data.toList := by
  rw [← h, drop_at s pos hp, X.wordsA_blank _ _ _ hbl, seg_empty s begin pos (by omega), show seg s (pos + 1) (pos + 1) = [] by unfold seg; simp]
  by_cases k : begin < pos
  · rw [if_pos k, if_neg (by simp; omega)]
  · rw [if_neg k, if_pos (by simp; omega)]
theorem words_end {s : ByteArray} {begin : Nat} {ws : List ByteArray} (h : ws.map (·.data.toList) ++ X.wordsA (seg s begin s.size) (s.data.toList.drop s.size) = X.words s.data.toList) :
    ws.map (·.data.toList) ++ (if begin < s.size then [seg s begin s.size] else []) = X.words s.data.toList := by
  rw [← h, drop_end s s.size (by omega), X.wordsA, seg_empty s begin s.size (by omega)]
  by_cases k : begin < s.size
  · rw [if_pos k, if_neg (by simp; omega)]
  · rw [if_neg k, if_pos (by simp; omega)]
theorem words_more {s : ByteArray} {begin pos : Nat} {ws : List ByteArray} (hp : pos < s.size) (hb : begin ≤ pos) (hbl : X.isBl (s[pos]'hp) = false) (h : ws.map (·.data.toList) ++ X.wordsA (seg s begin pos) (s.data.toList.drop pos) = X.words s.data.toList) :
    ws.map (·.data.toList) ++ X.wordsA (seg s begin (pos + 1)) (s.data.toList.drop (pos + 1)) = X.words s.data.toList := by
  rw [← h, drop_seg s pos (pos + 1) (by omega), X.wordsA_skip _ _ _ (fun b hb' => by
    obtain ⟨j, h1, h2, rfl⟩ := seg_mem s _ _ b hb' (by omega)
    obtain rfl : j = pos := by omega
    rw [get_b s j hp]; exact hbl), seg_more s begin pos (pos + 1) hb (by omega) (by omega)]
/-- What stands between two steps. -/
def WdM (s : ByteArray) (begin pos : Nat) (ws : List ByteArray) : Prop :=
  (pos ≤ s.size ∧ ws.map (·.data.toList) ++ X.wordsA (seg s begin pos) (s.data.toList.drop pos) = X.words s.data.toList) ∨ (pos = s.size + 1 ∧ ws.map (·.data.toList) = X.words s.data.toList)
set_option maxRecDepth 100000 in
set_option maxHeartbeats 1000000 in
theorem refWords_any (s : ByteArray) (hs : s.size ≤ 1048576) (w : World) :
    Calls Tryd.prog 39 #[.string s] w fun e w' => StrEnd (X.words s.data.toList) s.size w e w' ∧ Below w.heap.size w w' := by
  obtain ⟨i0, hi, hz0, hz1, hz2⟩ := info_parts info_string
  go_enter Tryd.func39, Tryd.ntmps39
  go_wp2_with fail
  go_loopw [3, 4, 5] (fun v x y wr => ∃ (pos begin : Nat) (ws : List ByteArray), x = .int .i64 begin ∧ y = .int .i64 pos ∧ wr.ownsRow w.heap.size 9 1 v ws.length (strs ws) ∧ Below w.heap.size w wr ∧ Hid (WdM s begin pos ws) ∧ Hid (∀ x ∈ ws, x.size ≤ s.size) ∧ begin ≤ pos ∧ pos ≤ s.size + 1 ∧ ws.length ≤ begin) (fun _ _ y _ => s.size + 1 - (intOf y).toNat)
  case atStart => exact ⟨0, 0, [], rfl, rfl, World.ownsRow_nil _ _ _ _, Below.refl _ _, .inl ⟨by omega, by simp [seg, X.words]⟩, (fun x hx => by cases hx), by omega, by omega, by simp⟩
  case round =>
    obtain ⟨pos, begin, ws, rfl, rfl, hown, hbw, HS, HZ, hb0, hps, hwl⟩ := hrel
    have hBs := hbw.size
    by_cases hp : pos < s.size
    · have hcb : ((s[pos]'hp).toNat : Int) < 256 := by have := (s[pos]'hp).toNat_lt; omega
      have h1 : ((pos : Int) == s.size) = false := by simp; omega
      have hS : ws.map (·.data.toList) ++ X.wordsA (seg s begin pos) (s.data.toList.drop pos) = X.words s.data.toList := by
        rcases HS.out with h | h
        · exact h.2
        · omega
      cases hbl : X.isBl (s[pos]'hp)
      · have HM := hide (words_more hp hb0 hbl hS)
        clear hS
        go_wp2_with (go_at_call 56; refine (blank_any (s[pos]'hp) _).mono ?_; rintro e w2 ⟨rfl, rfl⟩; rw [hbl])
        exact ⟨⟨pos + 1, begin, ws, rfl, by go_num, hown, hbw, .inl ⟨by omega, HM.out⟩, HZ, by omega, by omega, by omega⟩, by simp [intOf]; omega⟩
      · have hB := words_blank hp hb0 hbl hS
        clear hS
        by_cases hbp : begin < pos
        · rw [if_pos hbp] at hB
          have HB := hide hB
          clear hB
          have j1 : (begin : Int) < pos := by omega
          have j2 : (pos : Int) ≤ s.size := by omega
          have j3 : (0 : Int) ≤ begin := by omega
          have j5 : (begin : Int) ≤ pos := by omega
          go_wp2_with (first
            | (go_at_call 56; refine (blank_any (s[pos]'hp) _).mono ?_; rintro e w2 ⟨rfl, rfl⟩; rw [hbl])
            | (at_builtin; refine wpList_append_own _ rfl _ _ 63 rfl w.heap.size 9 i0 (.string ByteArray.empty) 1 16 Tryd.underlying63 hi hz0 hz1 hz2 rfl (by decide) _ _ _ rfl (hown.alloc _) ⟨w2.heap.size, 0, none⟩ 1 1 [.string (s.extract begin pos)] rfl rfl (fun j u hj => by
                 match j, hj with
                 | 0, hj => simp at hj; subst hj; simp [Addr.add]
                 | j + 1, hj => simp at hj) (fun x hx => by simp at hx; subst hx; rfl) (by unfold maxLen; omega) (by omega) (by simp; omega) ?_; intro v' w3 hown' hgrow3 hnil3
               have hbw3 : Below w.heap.size w w3 := Below.grown (hbw.alloc hbw.size _) hgrow3 (by have := hbw.size; simp; omega) (fun j hj => by have := (hown.lt _ hj).1; omega)
               have HA3 : Aside (w3.ownsRow w.heap.size 9 1 v' (ws.length + 1) (strs ws ++ [.string (s.extract begin pos)]) ∧ Below w.heap.size w w3) := ⟨hown', hbw3⟩
               clear hown' hgrow3 hnil3 hbw3))
          refine ⟨⟨pos + 1, pos + 1, ws ++ [s.extract begin pos], by go_num, by go_num, by simpa [strs] using HA3.out.1, HA3.out.2, .inl ⟨by omega, ?_⟩, ?_, by omega, by omega, by simp; omega⟩, by simp [intOf]; omega⟩
          · rw [← HB.out, List.map_append, List.append_assoc, List.map_cons, List.map_nil, extract_seg]
          · intro x hx
            rcases List.mem_append.1 hx with h | h
            · exact HZ.out x h
            · simp at h; subst h; simp; omega
        · rw [if_neg hbp] at hB
          have HB := hide hB
          clear hB
          have j1 : ¬ (begin : Int) < pos := by omega
          go_wp2_with (go_at_call 56; refine (blank_any (s[pos]'hp) _).mono ?_; rintro e w2 ⟨rfl, rfl⟩; rw [hbl])
          exact ⟨⟨pos + 1, pos + 1, ws, by go_num, by go_num, hown, hbw, .inl ⟨by omega, by rw [← HB.out]; simp⟩, HZ, by omega, by omega, by omega⟩, by simp [intOf]; omega⟩
    · by_cases hpe : pos = s.size
      · have h1 : ((pos : Int) == s.size) = true := by simp; omega
        have hS : ws.map (·.data.toList) ++ X.wordsA (seg s begin pos) (s.data.toList.drop pos) = X.words s.data.toList := by
          rcases HS.out with h | h
          · exact h.2
          · omega
        subst hpe
        have hB := words_end hS
        clear hS
        by_cases hbp : begin < s.size
        · rw [if_pos hbp] at hB
          have HB := hide hB
          clear hB
          have j1 : (begin : Int) < s.size := by omega
          have j3 : (0 : Int) ≤ begin := by omega
          have j5 : (begin : Int) ≤ s.size := by omega
          go_wp2_with (first
            | (at_builtin; refine wpList_append_own _ rfl _ _ 63 rfl w.heap.size 9 i0 (.string ByteArray.empty) 1 16 Tryd.underlying63 hi hz0 hz1 hz2 rfl (by decide) _ _ _ rfl (hown.alloc _) ⟨wr.heap.size, 0, none⟩ 1 1 [.string (s.extract begin s.size)] rfl rfl (fun j u hj => by
                 match j, hj with
                 | 0, hj => simp at hj; subst hj; simp [Addr.add]
                 | j + 1, hj => simp at hj) (fun x hx => by simp at hx; subst hx; rfl) (by unfold maxLen; omega) (by omega) (by simp; omega) ?_; intro v' w3 hown' hgrow3 hnil3
               have hbw3 : Below w.heap.size w w3 := Below.grown (hbw.alloc hbw.size _) hgrow3 (by have := hbw.size; simp; omega) (fun j hj => by have := (hown.lt _ hj).1; omega)
               have HA3 : Aside (w3.ownsRow w.heap.size 9 1 v' (ws.length + 1) (strs ws ++ [.string (s.extract begin s.size)]) ∧ Below w.heap.size w w3) := ⟨hown', hbw3⟩
               clear hown' hgrow3 hnil3 hbw3))
          refine ⟨⟨s.size + 1, s.size + 1, ws ++ [s.extract begin s.size], by go_num, by go_num, by simpa [strs] using HA3.out.1, HA3.out.2, .inr ⟨rfl, ?_⟩, ?_, by omega, by omega, by simp; omega⟩, by simp [intOf]⟩
          · rw [← HB.out, List.map_append, List.map_cons, List.map_nil, extract_seg]
          · intro x hx
            rcases List.mem_append.1 hx with h | h
            · exact HZ.out x h
            · simp at h; subst h; simp
        · rw [if_neg hbp] at hB
          have HB := hide hB
          clear hB
          have j1 : ¬ (begin : Int) < s.size := by omega
          go_wp2_with fail
          exact ⟨⟨s.size + 1, s.size + 1, ws, by go_num, by go_num, hown, hbw, .inr ⟨rfl, by rw [← HB.out]; simp⟩, HZ, by omega, by omega, by omega⟩, by simp [intOf]⟩
      · have hfin : ws.map (·.data.toList) = X.words s.data.toList := by
          rcases HS.out with h | h
          · omega
          · exact h.2
        have HF := hide hfin
        clear hfin
        have j0 : ¬ (pos : Int) ≤ s.size := by omega
        go_wp2_with fail
        go_ret
        exact ⟨⟨_, ws, rfl, HF.out, HZ.out, hown⟩, hbw⟩
end Go.Proofs.YtbgioclbjbmicaaDoor
