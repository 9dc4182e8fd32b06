/- The document's expressions: split, words. -/
import Derived.Test.YtbgioclbjbmicaaDoorXRs1
namespace Go.Proofs.YtbgioclbjbmicaaDoor
open Go.RowKit

/-- A row of strings of the call's own, whose bytes are the parts. -/
def StrEnd (L : List (List UInt8)) (M : Nat) (w : World) (e : Ending) (w' : World) : Prop := ∃ (v : Value) (ws : List ByteArray), e = .returned v ∧ ws.map (·.data.toList) = L ∧ (∀ x ∈ ws, x.size ≤ M) ∧ w'.ownsRow w.heap.size 9 1 v ws.length (strs ws)
theorem seg_none {s : ByteArray} {a b : Nat} {c : UInt8} (h : c ∉ seg s a b) (hb : b < s.size) (hab : a ≤ b) (hc : s[b]'hb ≠ c) : c ∉ seg s a (b + 1) := by
  rw [← seg_more s a b (b + 1) hab (by omega) (by omega)]
  intro hm
  rcases List.mem_append.1 hm with k | k
  · exact h k
  · obtain ⟨j, h1, h2, h3⟩ := seg_mem s b (b + 1) c k (by omega)
    obtain rfl : j = b := by omega
    rw [get_b s j hb] at h3
    exact hc h3
theorem drop_seg (s : ByteArray) (a b : Nat) (h : a ≤ b) : s.data.toList.drop a = seg s a b ++ s.data.toList.drop b := by
  unfold seg
  have := (List.take_append_drop (b - a) (s.data.toList.drop a)).symm
  rw [List.drop_drop, show a + (b - a) = b by omega] at this
  rw [List.drop_take]; exact this
set_option maxRecDepth 100000 in
set_option maxHeartbeats 1000000 in
theorem refSplit_any (s : ByteArray) (hs : s.size ≤ 1048576) (c : UInt8) (w : World) :
    Calls Tryd.prog 58 #[.string s, .int .u8 (c.toNat : Int)] w fun e w' => StrEnd (X.splitOn c s.data.toList) s.size w e w' ∧ Below w.heap.size w w' := by
  obtain ⟨i0, hi, hz0, hz1, hz2⟩ := info_parts info_string
  have hlen : s.data.toList.length = s.size := by simp
  have hc256 := c.toNat_lt
  go_enter Tryd.func58, Tryd.ntmps58
  go_wp2_with fail
  go_loopw [5, 6, 7] (fun v x y wr => ∃ (pos begin : Nat) (ws : List ByteArray), x = .int .i64 begin ∧ y = .int .i64 pos ∧ wr.ownsRow w.heap.size 9 1 v ws.length (strs ws) ∧ Below w.heap.size w wr ∧ Hid (ws.map (·.data.toList) ++ X.splitOn c (s.data.toList.drop begin) = X.splitOn c s.data.toList) ∧ Hid (c ∉ seg s begin pos) ∧ Hid (∀ x ∈ ws, x.size ≤ s.size) ∧ begin ≤ pos ∧ pos ≤ s.size ∧ ws.length ≤ begin) (fun _ _ y _ => s.size - (intOf y).toNat)
  case atStart => exact ⟨0, 0, [], rfl, rfl, World.ownsRow_nil _ _ _ _, Below.refl _ _, (by show _ = _; simp), (by show _ ∉ _; simp [seg]), (fun x hx => by cases hx), by omega, by omega, by simp⟩
  case round =>
    obtain ⟨pos, begin, ws, rfl, rfl, hown, hbw, HS, HN, HZ, hb0, hps, hwl⟩ := hrel
    have hBs := hbw.size
    by_cases hp : pos < s.size
    · have hcb : ((s[pos]'hp).toNat : Int) < 256 := by have := (s[pos]'hp).toNat_lt; omega
      by_cases hit : s[pos]'hp = c
      · have hnew : ws.map (·.data.toList) ++ (seg s begin pos :: X.splitOn c (s.data.toList.drop (pos + 1))) = X.splitOn c s.data.toList := by
          rw [← HS.out, drop_seg s begin pos hb0, drop_at s pos hp, hit, X.splitOn_hit _ HN.out]
        have HNw := hide hnew
        have e1 : ((s[pos]'hp).toNat : Int) = (c.toNat : Int) := by rw [hit]
        have j2 : (pos : Int) ≤ s.size := by omega
        have j3 : (0 : Int) ≤ begin := by omega
        have j4 : begin ≤ pos := by omega
        have j5 : (begin : Int) ≤ pos := by omega
        clear hnew hit
        generalize hcc : (s[pos]'hp).toNat = cc at *
        obtain rfl : cc = c.toNat := by omega
        clear e1
        go_wp2_with (first
          | (at_builtin; refine wpList_append_own _ rfl _ _ 63 rfl w.heap.size 9 i0 (.string ByteArray.empty) 1 16 Tryd.underlying63 hi hz0 hz1 hz2 rfl (by decide) _ _ _ rfl (hown.alloc _) ⟨wr.heap.size, 0, none⟩ 1 1 [.string (s.extract begin pos)] rfl rfl (fun j u hj => by
               match j, hj with
               | 0, hj => simp at hj; subst hj; simp [Addr.add]
               | j + 1, hj => simp at hj) (fun x hx => by simp at hx; subst hx; rfl) (by unfold maxLen; omega) (by omega) (by simp; omega) ?_; intro v' w3 hown' hgrow3 hnil3
             have hbw3 : Below w.heap.size w w3 := Below.grown (hbw.alloc hbw.size _) hgrow3 (by have := hbw.size; simp; omega) (fun j hj => by have := (hown.lt _ hj).1; omega)
             have HA3 : Aside (w3.ownsRow w.heap.size 9 1 v' (ws.length + 1) (strs ws ++ [.string (s.extract begin pos)]) ∧ Below w.heap.size w w3) := ⟨hown', hbw3⟩
             clear hown' hgrow3 hnil3 hbw3))
        refine ⟨⟨pos + 1, pos + 1, ws ++ [s.extract begin pos], by go_num, by go_num, by simpa [strs] using HA3.out.1, HA3.out.2, ?_, ?_, ?_, by omega, by omega, by simp; omega⟩, by simp [intOf]; omega⟩
        · show _ = _
          rw [← HNw.out, List.map_append, List.append_assoc, List.map_cons, List.map_nil, extract_seg]; rfl
        · show _ ∉ _
          simp [seg]
        · intro x hx
          rcases List.mem_append.1 hx with h | h
          · exact HZ.out x h
          · simp at h; subst h; simp; omega
      · have HN2 := hide (seg_none HN.out hp hb0 hit)
        have e1 : (((s[pos]'hp).toNat : Int) == (c.toNat : Int)) = false := by
          simp only [beq_eq_false_iff_ne, ne_eq]
          intro k
          exact hit (UInt8.toNat_inj.1 (by omega))
        clear hit
        generalize hcc : (s[pos]'hp).toNat = cc at *
        go_wp2_with fail
        exact ⟨⟨pos + 1, begin, ws, rfl, by go_num, hown, hbw, HS, HN2, HZ, by omega, by omega, by omega⟩, by simp [intOf]; omega⟩
    · obtain rfl : pos = s.size := by omega
      have hfin : ws.map (·.data.toList) ++ [seg s begin s.size] = X.splitOn c s.data.toList := by
        rw [← HS.out, drop_seg s begin s.size hb0, drop_end s s.size (by omega), List.append_nil, X.splitOn_none HN.out]
      have HF := hide hfin
      clear hfin
      have j3 : (0 : Int) ≤ begin := by omega
      have j5 : (begin : Int) ≤ s.size := by omega
      go_wp2_with (first
        | (at_builtin; refine wpList_append_own _ rfl _ _ 63 rfl w.heap.size 9 i0 (.string ByteArray.empty) 1 16 Tryd.underlying63 hi hz0 hz1 hz2 rfl (by decide) _ _ _ rfl (hown.alloc _) ⟨wr.heap.size, 0, none⟩ 1 1 [.string (s.extract begin s.size)] rfl rfl (fun j u hj => by
             match j, hj with
             | 0, hj => simp at hj; subst hj; simp [Addr.add]
             | j + 1, hj => simp at hj) (fun x hx => by simp at hx; subst hx; rfl) (by unfold maxLen; omega) (by omega) (by simp; omega) ?_; intro v' w3 hown' hgrow3 hnil3
           have hbw3 : Below w.heap.size w w3 := Below.grown (hbw.alloc hbw.size _) hgrow3 (by have := hbw.size; simp; omega) (fun j hj => by have := (hown.lt _ hj).1; omega)
           have HA3 : Aside (w3.ownsRow w.heap.size 9 1 v' (ws.length + 1) (strs ws ++ [.string (s.extract begin s.size)]) ∧ Below w.heap.size w w3) := ⟨hown', hbw3⟩
           clear hown' hgrow3 hnil3 hbw3))
      go_ret
      refine ⟨⟨v', ws ++ [s.extract begin s.size], rfl, ?_, ?_, by simpa [strs] using HA3.out.1⟩, HA3.out.2⟩
      · rw [← HF.out, List.map_append, List.map_cons, List.map_nil, extract_seg]
      · intro x hx
        rcases List.mem_append.1 hx with h | h
        · exact HZ.out x h
        · simp at h; subst h; simp
end Go.Proofs.YtbgioclbjbmicaaDoor
