/- Package cron: the words of a text. -/
import Derived.Test.YtbgioclbjbmicaaDoorXNum
import Derived.Laws.AppendOwn
import Derived.Laws.OwnMore
import Derived.OwnWalk
import Derived.Deep.OwnRows
namespace Go.Proofs.YtbgioclbjbmicaaDoor
open Go.RowKit

theorem info_string : (Tryd.prog.info? 9).map (fun i => (i.zero, i.size, i.bytes)) = some (some (.string ByteArray.empty), 1, 16) := by kernel_rfl
theorem ownsRow_iterAt {w : World} {base : Nat} {e : TypeId} {size : Nat} {v : Value} {n : Nat} {xs : List Value} (h : w.ownsRow base e size v n xs) {k : Nat} (hk : k < base) (s : ByteArray) (p : Nat) : (w.iterAt k s p).ownsRow base e size v n xs := by
  obtain ⟨h1, h2⟩ := h
  refine ⟨h1, ?_⟩
  rcases h2 with h2 | ⟨g, cap, cur, a, b, c, d⟩
  · exact .inl h2
  · exact .inr ⟨g, cap, cur, a, b, by rw [Lib.iterAt_other _ _ _ _ _ (by omega)]; exact c, d⟩
/-- Strings as cells. -/
def strs (l : List ByteArray) : List Value := l.map Value.string
theorem get_b (s : ByteArray) (p : Nat) (h : p < s.size) : s.get! p = s[p]'h := by
  simp [ByteArray.get!, getElem!_pos, h]
  rfl
/-- A continuation's bytes are no blanks. -/
theorem decode_tail (s : ByteArray) (pos : Nat) : ∀ j, 1 ≤ j → j < (Utf8.decode s pos).2 → pos + j < s.size ∧ 128 ≤ (s.get! (pos + j)).toNat := by
  intro j h1 h2
  have key : ∀ k, (decide (pos + k < s.size) && ((s.get! (pos + k)).toNat / 64 == 2)) = true → pos + k < s.size ∧ 128 ≤ (s.get! (pos + k)).toNat := by
    intro k hk
    simp only [Bool.and_eq_true, decide_eq_true_eq, beq_iff_eq] at hk
    exact ⟨hk.1, by omega⟩
  simp only [Utf8.decode] at h2
  repeat' split at h2
  all_goals first
    | (exfalso; omega)
    | (obtain rfl : j = 1 := by omega
       rename_i hc _
       simp only [Bool.and_eq_true] at hc
       exact key 1 (by simpa using hc.2))
    | (have hj : j = 1 ∨ j = 2 := by omega
       rename_i hc _
       simp only [Bool.and_eq_true] at hc
       rcases hj with rfl | rfl
       · exact key 1 (by simpa using hc.1.2)
       · exact key 2 (by simpa using hc.2))
    | (have hj : j = 1 ∨ j = 2 ∨ j = 3 := by omega
       rename_i hc _
       simp only [Bool.and_eq_true] at hc
       rcases hj with rfl | rfl | rfl
       · exact key 1 (by simpa using hc.1.1.2)
       · exact key 2 (by simpa using hc.1.2)
       · exact key 3 (by simpa using hc.2))
theorem decode_wide (s : ByteArray) (pos : Nat) (h : pos < s.size) : pos + (Utf8.decode s pos).2 ≤ s.size ∧ 1 ≤ (Utf8.decode s pos).2 := by
  have h1 : 1 ≤ (Utf8.decode s pos).2 := by
    by_cases ha : (s[pos]'h).toNat < 128
    · rw [decode_ascii s pos h ha]; exact Nat.le_refl _
    · exact (decode_high s pos h (by omega)).2
  refine ⟨?_, h1⟩
  rcases Nat.lt_or_ge 1 (Utf8.decode s pos).2 with k | k
  · have := (decode_tail s pos ((Utf8.decode s pos).2 - 1) (by omega) (by omega)).1
    omega
  · omega

namespace X
theorem wordsA_skip : ∀ (mid cur rest : List UInt8), (∀ b ∈ mid, isBl b = false) → wordsA cur (mid ++ rest) = wordsA (cur ++ mid) rest
  | [], cur, rest, _ => by simp
  | b :: mid, cur, rest, h => by
    rw [List.cons_append, wordsA, if_neg (by rw [h b (by simp)]; simp), wordsA_skip mid (cur ++ [b]) rest (fun x hx => h x (by simp [hx]))]
    simp
theorem wordsA_blank (b : UInt8) (cur rest : List UInt8) (hb : isBl b = true) : wordsA cur (b :: rest) = (if cur.isEmpty then [] else [cur]) ++ wordsA [] rest := by
  rw [wordsA, if_pos hb]
  cases cur <;> simp
end X
/-- The bytes of a text from one place to another. -/
def seg (s : ByteArray) (a b : Nat) : List UInt8 := (s.data.toList.take b).drop a
theorem seg_len (s : ByteArray) (a b : Nat) (h : b ≤ s.size) : (seg s a b).length = b - a := by
  have : s.data.toList.length = s.size := by simp
  unfold seg; simp; omega
theorem seg_empty (s : ByteArray) (a b : Nat) (h : b ≤ s.size) : (seg s a b).isEmpty = decide (b ≤ a) := by
  have := seg_len s a b h
  rw [Bool.eq_iff_iff]
  simp only [List.isEmpty_iff, decide_eq_true_eq]
  constructor
  · intro e; rw [e] at this; simp at this; omega
  · intro e; exact List.eq_nil_of_length_eq_zero (by omega)
theorem seg_more (s : ByteArray) (a b c : Nat) (h1 : a ≤ b) (h2 : b ≤ c) (h3 : c ≤ s.size) : seg s a b ++ seg s b c = seg s a c := by
  unfold seg
  have e : s.data.toList.take c = s.data.toList.take b ++ (s.data.toList.take c).drop b := by
    have := (List.take_append_drop b (s.data.toList.take c)).symm
    rwa [List.take_take, Nat.min_eq_left h2] at this
  have hl : s.data.toList.length = s.size := by simp
  conv => rhs; rw [e]
  rw [List.drop_append_of_le_length (by simp; omega)]
theorem seg_mem (s : ByteArray) (a b : Nat) (x : UInt8) (h : x ∈ seg s a b) (hb : b ≤ s.size) : ∃ j, a ≤ j ∧ j < b ∧ s.get! j = x := by
  unfold seg at h
  obtain ⟨i, hi, rfl⟩ := List.mem_iff_getElem.1 h
  simp at hi
  refine ⟨a + i, by omega, by omega, ?_⟩
  rw [get_b s (a + i) (by omega)]
  simp
  rfl
theorem extract_seg (s : ByteArray) (a b : Nat) : (s.extract a b).data.toList = seg s a b := by
  rw [Lib.extract_data]
  unfold seg
  rw [List.drop_take]
def SplitEnd (s : ByteArray) (w : World) (e : Ending) (w' : World) : Prop := ∃ (v : Value) (ws : List ByteArray), e = .returned v ∧ ws.map (·.data.toList) = X.words s.data.toList ∧ ws.length ≤ 1024 ∧ (∀ x ∈ ws, x.size ≤ 1024) ∧ w'.ownsRow (w.heap.size + 1) 9 1 v ws.length (strs ws)
set_option maxRecDepth 100000 in
set_option maxHeartbeats 1000000 in
theorem split_words (s : ByteArray) (hs : s.size ≤ 1024) (w : World) :
    Calls Tryd.prog 37 #[.string s] w fun e w' => SplitEnd s w e w' ∧ Below w.heap.size w w' := by
  obtain ⟨i0, hi, hz0, hz1, hz2⟩ := info_parts info_string
  have hlen : s.data.toList.length = s.size := by simp
  go_enter Tryd.func37, Tryd.ntmps37
  go_wp2_with fail
  go_loopw [3, 4] (fun v x wr => ∃ (pos begin : Nat) (ws : List ByteArray), x = .int .i64 begin ∧ wr.heap[w.heap.size]? = some (.stringIter s pos) ∧ wr.ownsRow (w.heap.size + 1) 9 1 v ws.length (strs ws) ∧ Below w.heap.size w wr ∧ Hid (ws.map (·.data.toList) ++ X.wordsA (seg s begin pos) (s.data.toList.drop pos) = X.words s.data.toList) ∧ Hid (∀ x ∈ ws, x.size ≤ 1024) ∧ begin ≤ pos ∧ pos ≤ s.size ∧ ws.length ≤ begin) (fun _ _ wr => s.size - wr.iterPos w.heap.size)
  case atStart => exact ⟨0, 0, [], rfl, World.iter_heap w s 0, World.ownsRow_nil _ _ _ _, Below.put (Below.refl _ _) _, (by show _ = _; simp [seg, X.words]), (fun x hx => by cases hx), by omega, by omega, by simp⟩
  case round =>
    obtain ⟨pos, begin, ws, rfl, hit, hown, hbw, HS, HZ, hb0, hps, hwl⟩ := hrel
    have hpos0 := iterPos_of hit
    by_cases hp : pos < s.size
    · obtain ⟨hd1, hd2⟩ := decode_wide s pos hp
      have hit2 := Lib.iterAt_heap wr w.heap.size s pos (pos + (Utf8.decode s pos).2) hit
      have hbw2 := Lib.below_iterAt hbw (k := w.heap.size) (Nat.le_refl _) s (pos + (Utf8.decode s pos).2)
      have hown2 := ownsRow_iterAt hown (k := w.heap.size) (by omega) s (pos + (Utf8.decode s pos).2)
      have hnx : ∀ ty, (Instr.next (.pointer (some ⟨w.heap.size, 0, none⟩)) true ty).run Tryd.prog wr = _ := fun ty => Lib.run_next_any_at wr w.heap.size s pos ty hit hp
      obtain ⟨W1, hW1⟩ : ∃ W1, W1 = wr.iterAt w.heap.size s (pos + (Utf8.decode s pos).2) := ⟨_, rfl⟩
      rw [← hW1] at hnx hit2 hbw2 hown2
      have hBlt : w.heap.size < W1.heap.size := (Array.getElem?_eq_some_iff.1 hit2).1
      clear hW1 hit hown hbw
      have hdp := drop_at s pos hp
      by_cases hbl : X.isBl (s[pos]'hp) = true
      · have hcase : (s[pos]'hp).toNat = 32 ∨ (s[pos]'hp).toNat = 9 := by
          unfold X.isBl at hbl
          simp only [Bool.or_eq_true, beq_iff_eq] at hbl
          rcases hbl with h | h <;> rw [h] <;> simp
        have hdec := decode_ascii s pos hp (by omega)
        rw [hdec] at hnx hit2
        simp only at hnx hit2
        have hnew : ws.map (·.data.toList) ++ ((if begin < pos then [seg s begin pos] else []) ++ X.wordsA (seg s (pos + 1) (pos + 1)) (s.data.toList.drop (pos + 1))) = X.words s.data.toList := by
          rw [← HS.out, hdp, X.wordsA_blank _ _ _ hbl, seg_empty s begin pos hps, show seg s (pos + 1) (pos + 1) = [] by unfold seg; simp]
          by_cases h : begin < pos
          · rw [if_pos h, if_neg (by simp; omega)]
          · rw [if_neg h, if_pos (by simp; omega)]
        have HNw := hide hnew
        clear hnew hdec hdp hbl hd1 hd2
        generalize (s[pos]'hp).toNat = c at *
        by_cases hbp : begin < pos
        · have j1 : (begin : Int) < pos := by omega
          have j2 : (pos : Int) ≤ s.size := by omega
          have j3 : (0 : Int) ≤ begin := by omega
          have j4 : begin ≤ pos := by omega
          have j5 : (begin : Int) ≤ pos := by omega
          have hw1 := HNw.out
          rw [if_pos hbp] at hw1
          have HW1 := hide hw1
          clear hw1 HNw
          rcases hcase with rfl | rfl
          all_goals
            go_wp2_with (first
              | (at_builtin; refine wpList_append_own _ rfl _ _ 63 rfl (w.heap.size + 1) 9 i0 (.string ByteArray.empty) 1 16 Tryd.underlying63 hi hz0 hz1 hz2 rfl (by decide) _ _ _ rfl (hown2.alloc _) ⟨W1.heap.size, 0, none⟩ 1 1 [.string (s.extract begin pos)] rfl rfl (fun j u hj => by
                   match j, hj with
                   | 0, hj => simp at hj; subst hj; simp [Addr.add]
                   | j + 1, hj => simp at hj) (fun x hx => by simp at hx; subst hx; rfl) (by unfold maxLen; omega) (by omega) (by simp; omega) ?_; intro v' w3 hown' hgrow3 hnil3
                 have hit3 : w3.heap[w.heap.size]? = some (.stringIter s (pos + 1)) := by
                   rw [hgrow3.block w.heap.size (by simp; omega) (fun h => by have := (hown2.lt _ h.symm).1; omega), Below.heap_alloc _ _ _ hBlt]; exact hit2
                 have hbw3 : Below w.heap.size w w3 := Below.grown (hbw2.alloc (by omega) _) hgrow3 (by simp; omega) (fun j hj => by have := (hown2.lt _ hj).1; omega)
                 have HA3 : Aside (w3.ownsRow (w.heap.size + 1) 9 1 v' (ws.length + 1) (strs ws ++ [.string (s.extract begin pos)]) ∧ w3.heap[w.heap.size]? = some (.stringIter s (pos + 1)) ∧ Below w.heap.size w w3) := ⟨hown', hit3, hbw3⟩
                 clear hown' hgrow3 hnil3 hit3 hbw3))
          all_goals
            refine ⟨⟨pos + 1, pos + 1, ws ++ [s.extract begin pos], by go_num, HA3.out.2.1, by simpa [strs] using HA3.out.1, HA3.out.2.2, ?_, ?_, by omega, by omega, by simp; omega⟩, by rw [iterPos_of HA3.out.2.1, hpos0]; omega⟩
            · show _ = _
              rw [← HW1.out, List.map_append, List.append_assoc, List.map_cons, List.map_nil, extract_seg]
            · intro x hx
              rcases List.mem_append.1 hx with h | h
              · exact HZ.out x h
              · simp at h; subst h; simp; omega
        · have hbe : begin = pos := by omega
          have hw1 := HNw.out
          rw [if_neg hbp] at hw1
          have HW1 := hide hw1
          clear hw1 HNw
          have j1 : ¬ (begin : Int) < pos := by omega
          rcases hcase with rfl | rfl
          all_goals
            go_wp2_with fail
            exact ⟨⟨pos + 1, pos + 1, ws, by go_num, hit2, hown2, hbw2, (by show _ = _; rw [← HW1.out]; simp), HZ, by omega, by omega, by omega⟩, by rw [iterPos_of hit2, hpos0]; omega⟩
      · have hr : (Utf8.decode s pos).1 ≠ 32 ∧ (Utf8.decode s pos).1 ≠ 9 := by
          by_cases ha : (s[pos]'hp).toNat < 128
          · rw [decode_ascii s pos hp ha]
            refine ⟨fun e => hbl ?_, fun e => hbl ?_⟩
            · unfold X.isBl; simp only [Bool.or_eq_true, beq_iff_eq]; left; exact UInt8.toNat_inj.1 e
            · unfold X.isBl; simp only [Bool.or_eq_true, beq_iff_eq]; right; exact UInt8.toNat_inj.1 e
          · have := (decode_high s pos hp (by omega)).1; omega
        have hmid : ∀ b ∈ seg s pos (pos + (Utf8.decode s pos).2), X.isBl b = false := by
          intro b hb
          obtain ⟨j, h1, h2, rfl⟩ := seg_mem s _ _ b hb hd1
          by_cases e : j = pos
          · subst e; rw [get_b s j hp]; simpa using hbl
          · have := (decode_tail s pos (j - pos) (by omega) (by omega)).2
            rw [show pos + (j - pos) = j by omega] at this
            unfold X.isBl
            simp only [Bool.or_eq_false_iff, beq_eq_false_iff_ne]
            refine ⟨fun e => ?_, fun e => ?_⟩ <;> rw [e] at this <;> simp at this
        have hnew : ws.map (·.data.toList) ++ X.wordsA (seg s begin (pos + (Utf8.decode s pos).2)) (s.data.toList.drop (pos + (Utf8.decode s pos).2)) = X.words s.data.toList := by
          rw [← HS.out]
          have e : s.data.toList.drop pos = seg s pos (pos + (Utf8.decode s pos).2) ++ s.data.toList.drop (pos + (Utf8.decode s pos).2) := by
            have := (List.take_append_drop (Utf8.decode s pos).2 (s.data.toList.drop pos)).symm
            rw [List.drop_drop] at this
            rw [this]
            unfold seg
            rw [List.drop_take, show pos + (Utf8.decode s pos).2 - pos = (Utf8.decode s pos).2 by omega]
          rw [e, X.wordsA_skip _ _ _ hmid, seg_more s begin pos _ hb0 (by omega) hd1]
        have HNw := hide hnew
        have r1 : (((Utf8.decode s pos).1 : Int) != 32) = true := by have := hr.1; simp; omega
        have r2 : (((Utf8.decode s pos).1 : Int) != 9) = true := by have := hr.2; simp; omega
        clear hnew hmid hbl hdp
        generalize (Utf8.decode s pos).1 = c at *
        generalize (Utf8.decode s pos).2 = d at *
        go_wp2_with fail
        exact ⟨⟨pos + d, begin, ws, rfl, hit2, hown2, hbw2, HNw, HZ, by omega, by omega, by omega⟩, by rw [iterPos_of hit2, hpos0]; omega⟩
    · have hnx : ∀ ty, (Instr.next (.pointer (some ⟨w.heap.size, 0, none⟩)) true ty).run Tryd.prog wr = _ := fun ty => Lib.run_next_end_at wr w.heap.size s pos ty hit hp
      obtain rfl : pos = s.size := by omega
      have hBlt : w.heap.size < wr.heap.size := (Array.getElem?_eq_some_iff.1 hit).1
      have hfin : ws.map (·.data.toList) ++ (if begin < s.size then [seg s begin s.size] else []) = X.words s.data.toList := by
        rw [← HS.out, drop_end s s.size (by omega), X.wordsA, seg_empty s begin s.size (by omega)]
        by_cases h : begin < s.size
        · rw [if_pos h, if_neg (by simp; omega)]
        · rw [if_neg h, if_pos (by simp; omega)]
      have HF := hide hfin
      clear hfin
      by_cases hbs : begin < s.size
      · have j1 : (begin : Int) < s.size := by omega
        have j3 : (0 : Int) ≤ begin := by omega
        have j5 : (begin : Int) ≤ s.size := by omega
        have hw1 := HF.out
        rw [if_pos hbs] at hw1
        have HW1 := hide hw1
        clear hw1 HF
        go_wp2_with (first
          | (at_builtin; refine wpList_append_own _ rfl _ _ 63 rfl (w.heap.size + 1) 9 i0 (.string ByteArray.empty) 1 16 Tryd.underlying63 hi hz0 hz1 hz2 rfl (by decide) _ _ _ rfl (hown.alloc _) ⟨wr.heap.size, 0, none⟩ 1 1 [.string (s.extract begin s.size)] rfl rfl (fun j u hj => by
               match j, hj with
               | 0, hj => simp at hj; subst hj; simp [Addr.add]
               | j + 1, hj => simp at hj) (fun x hx => by simp at hx; subst hx; rfl) (by unfold maxLen; omega) (by omega) (by simp; omega) ?_; intro v' w3 hown' hgrow3 hnil3
             have hbw3 : Below w.heap.size w w3 := Below.grown (hbw.alloc (by omega) _) hgrow3 (by simp; omega) (fun j hj => by have := (hown.lt _ hj).1; omega)
             have HA3 : Aside (w3.ownsRow (w.heap.size + 1) 9 1 v' (ws.length + 1) (strs ws ++ [.string (s.extract begin s.size)]) ∧ Below w.heap.size w w3) := ⟨hown', hbw3⟩
             clear hown' hgrow3 hnil3 hbw3))
        go_ret
        refine ⟨⟨v', ws ++ [s.extract begin s.size], rfl, ?_, ?_, ?_, by simpa [strs] using HA3.out.1⟩, HA3.out.2⟩
        · rw [← HW1.out, List.map_append, List.map_cons, List.map_nil, extract_seg]
        · simp; omega
        · intro x hx
          rcases List.mem_append.1 hx with h | h
          · exact HZ.out x h
          · simp at h; subst h; simp; omega
      · have j1 : ¬ (begin : Int) < s.size := by omega
        have hw1 := HF.out
        rw [if_neg hbs] at hw1
        have HW1 := hide hw1
        clear hw1 HF
        go_wp2_with fail
        go_ret
        exact ⟨⟨_, ws, rfl, by rw [← HW1.out]; simp, by omega, HZ.out, hown⟩, hbw⟩
end Go.Proofs.YtbgioclbjbmicaaDoor
