/- Package cron: numbers. -/
import Derived.Test.YtbgioclbjbmicaaDoorXBase
import Derived.Deep.LoopGhost
import Derived.Lib.OthersKept
import Derived.BigQuiet
import Derived.Deep.QuietTactic
import Derived.WalkSpells
import Derived.Lib.Strings
namespace Go.Proofs.YtbgioclbjbmicaaDoor
open Go.RowKit

theorem iterPos_of {w : World} {k : Nat} {s : ByteArray} {p : Nat} (h : w.heap[k]? = some (.stringIter s p)) : w.iterPos k = p := by simp [World.iterPos, h]
theorem drop_at (s : ByteArray) (p : Nat) (h : p < s.size) : s.data.toList.drop p = s[p]'h :: s.data.toList.drop (p + 1) := by
  have hl : p < s.data.toList.length := by simpa using h
  rw [List.drop_eq_getElem_cons hl]
  rfl
theorem drop_end (s : ByteArray) (p : Nat) (h : ¬ p < s.size) : s.data.toList.drop p = [] := List.drop_eq_nil_of_le (by simpa using h)
theorem toList_nil (s : ByteArray) : s.data.toList = [] ↔ s.size = 0 := by
  constructor
  · intro h
    have : s.data.toList.length = 0 := by rw [h]; rfl
    simpa using this
  · intro h; exact List.eq_nil_of_length_eq_zero (by simpa using h)

def NumIs (s : ByteArray) (lo hi n : Nat) (b : Bool) : Prop := if b then X.num s.data.toList lo hi = some n else X.num s.data.toList lo hi = none
theorem NumIs.no {s : ByteArray} {lo hi n : Nat} (h : X.num s.data.toList lo hi = none) : NumIs s lo hi n false := h
theorem NumIs.yes {s : ByteArray} {lo hi n : Nat} (h : X.num s.data.toList lo hi = some n) : NumIs s lo hi n true := h
def NumEnd (s : ByteArray) (lo hi : Nat) (e : Ending) : Prop := ∃ (n : Nat) (b : Bool), e = .returned (.tuple #[.int .i64 n, .bool b]) ∧ n ≤ hi ∧ NumIs s lo hi n b
theorem bytes_empty (s : ByteArray) : s.toList.isEmpty = decide (s.size = 0) := by
  rw [Lib.toList_data]
  have := toList_nil s
  cases h : s.data.toList with
  | nil => simp [this.1 h]
  | cons a l =>
    have : ¬ s.size = 0 := fun k => by rw [this.2 k] at h; cases h
    simp [this]
set_option maxHeartbeats 1000000 in
theorem number_any (s : ByteArray) (hs : s.size ≤ 1024) (lo hi : Nat) (hh : hi ≤ 59) (w : World) :
    Calls Tryd.prog 69 #[.string s, .agg #[.int .i64 lo, .int .i64 hi]] w fun e w' => NumEnd s lo hi e ∧ Below w.heap.size w w' := by
  go_enter Tryd.func69, Tryd.ntmps69
  go_wp2_with fail
  go_loopw [6] (fun v wr => ∃ (pos n : Nat), wr.heap[w.heap.size + 1]? = some (.stringIter s pos) ∧ v = .int .i64 n ∧ n ≤ hi ∧ wr.cell? ⟨w.heap.size, 0, none⟩ = some (.int .i64 lo) ∧ wr.cell? ⟨w.heap.size, 1, none⟩ = some (.int .i64 hi) ∧ Hid (X.numL hi (decide (pos = 0)) n (s.data.toList.drop pos) = X.numL hi true 0 s.data.toList) ∧ Below w.heap.size w wr ∧ pos ≤ s.size) (fun _ wr => s.size - wr.iterPos (w.heap.size + 1))
  case atStart =>
    refine ⟨0, 0, ?_, rfl, by omega, ?_, ?_, rfl, Below.put (Below.put (Below.refl _ _) _) _, by omega⟩
    · have := heap_alloc2_new w (.cells #[.int .i64 lo, .int .i64 hi] 54) (.stringIter s 0)
      exact this
    · simp only [World.iter]; rw [World.cell?_alloc_old _ _ _ (by simp), cell_of_row _ _ _ _ 54 (0, 0) (heap_alloc_new w _)]; rfl
    · simp only [World.iter]; rw [World.cell?_alloc_old _ _ _ (by simp), cell_of_row _ _ _ _ 54 (0, 0) (heap_alloc_new w _)]; rfl
  case round =>
    obtain ⟨pos, n, hit, rfl, hn, hc0, hc1, HS, hbw, hps⟩ := hrel
    have hpos0 := iterPos_of hit
    by_cases hp : pos < s.size
    · have hit2 := Lib.iterAt_heap wr (w.heap.size + 1) s pos (pos + (Utf8.decode s pos).2) hit
      have hbw2 := Lib.below_iterAt hbw (k := w.heap.size + 1) (by omega) s (pos + (Utf8.decode s pos).2)
      have hd := drop_at s pos hp
      have hk0 : (wr.iterAt (w.heap.size + 1) s (pos + (Utf8.decode s pos).2)).cell? ⟨w.heap.size, 0, none⟩ = some (.int .i64 lo) := by
        rw [World.cell?_of_block (w := wr) (Lib.iterAt_other _ _ _ _ _ (show w.heap.size ≠ w.heap.size + 1 by omega))]; exact hc0
      have hk1 : (wr.iterAt (w.heap.size + 1) s (pos + (Utf8.decode s pos).2)).cell? ⟨w.heap.size, 1, none⟩ = some (.int .i64 hi) := by
        rw [World.cell?_of_block (w := wr) (Lib.iterAt_other _ _ _ _ _ (show w.heap.size ≠ w.heap.size + 1 by omega))]; exact hc1
      have hnx : ∀ ty, (Instr.next (.pointer (some ⟨w.heap.size + 1, 0, none⟩)) true ty).run Tryd.prog wr = _ := fun ty => Lib.run_next_any_at wr (w.heap.size + 1) s pos ty hit hp
      obtain ⟨W1, hW1⟩ : ∃ W1, W1 = wr.iterAt (w.heap.size + 1) s (pos + (Utf8.decode s pos).2) := ⟨_, rfl⟩
      rw [← hW1] at hnx hit2 hbw2 hk0 hk1
      clear hW1 hit hbw hc0 hc1
      by_cases ha : (s[pos]'hp).toNat < 128
      · have hdec := decode_ascii s pos hp ha
        rw [hdec] at hnx hit2
        simp only at hnx hit2
        have hstep : X.numL hi (decide (pos = 0)) n (s.data.toList.drop pos) = if X.digB (s[pos]'hp) = true ∧ (decide (pos = 0) = true ∨ n ≠ 0) ∧ n * 10 + ((s[pos]'hp).toNat - 48) ≤ hi then X.numL hi false (n * 10 + ((s[pos]'hp).toNat - 48)) (s.data.toList.drop (pos + 1)) else none := by
          rw [hd]; rfl
        have hdig : X.digB (s[pos]'hp) = (decide (48 ≤ (s[pos]'hp).toNat) && decide ((s[pos]'hp).toNat ≤ 57)) := rfl
        generalize s[pos]'hp = cb at *
        generalize cb.toNat = c at *
        have HSt := hide hstep
        have HDg := hide hdig
        clear hstep hdig hd hdec
        by_cases hc1 : 48 ≤ c ∧ c ≤ 57
        · by_cases hc2 : pos = 0 ∨ n ≠ 0
          · by_cases hc3 : n * 10 + (c - 48) ≤ hi
            · have hnext := HSt.out
              rw [if_pos ⟨by rw [HDg.out]; simp; omega, by simpa using hc2, hc3⟩] at hnext
              have HNx := hide hnext
              clear hnext HSt HDg
              have hg : ((pos : Int) > 0 → ((n : Int) == 0) = false) := by intro _; simp; omega
              obtain ⟨m, hm⟩ : ∃ m : Nat, n * 10 + (c - 48) = m := ⟨_, rfl⟩
              have hm' : (n : Int) * 10 + ((c : Int) - 48) = m := by omega
              by_cases hpp : ¬ (0 : Int) < pos
              · go_wp2_with fail
                exact ⟨⟨pos + 1, m, hit2, rfl, by omega, hk0, hk1, (by show _ = _; rw [← HS.out, HNx.out, hm]; rfl), hbw2, by omega⟩, by rw [iterPos_of hit2, hpos0]; omega⟩
              · have hpp : (0 : Int) < pos := by omega
                have hn0 := hg hpp
                go_wp2_with fail
                exact ⟨⟨pos + 1, m, hit2, rfl, by omega, hk0, hk1, (by show _ = _; rw [← HS.out, HNx.out, hm]; rfl), hbw2, by omega⟩, by rw [iterPos_of hit2, hpos0]; omega⟩
            · have hnone : X.num s.data.toList lo hi = none := by
                unfold X.num
                rw [← HS.out, HSt.out, if_neg (fun h => hc3 h.2.2)]
              have HZ := hide hnone
              clear hnone HSt HDg
              have hg : ((pos : Int) > 0 → ((n : Int) == 0) = false) := by intro _; simp; omega
              by_cases hpp : ¬ (0 : Int) < pos
              · go_wp2_with fail
                go_ret2
                exact ⟨⟨0, false, rfl, by omega, .no HZ.out⟩, hbw2⟩
              · have hpp : (0 : Int) < pos := by omega
                have hn0 := hg hpp
                go_wp2_with fail
                go_ret2
                exact ⟨⟨0, false, rfl, by omega, .no HZ.out⟩, hbw2⟩
          · have hnone : X.num s.data.toList lo hi = none := by
              unfold X.num
              rw [← HS.out, HSt.out, if_neg (fun h => hc2 (by simpa using h.2.1))]
            have HZ := hide hnone
            clear hnone HSt HDg
            have hpp : (0 : Int) < pos := by omega
            obtain rfl : n = 0 := by omega
            go_wp2_with fail
            go_ret2
            exact ⟨⟨0, false, rfl, by omega, .no HZ.out⟩, hbw2⟩
        · have hnone : X.num s.data.toList lo hi = none := by
            unfold X.num
            rw [← HS.out, HSt.out, if_neg (fun h => hc1 (by have := h.1; rw [HDg.out] at this; simpa using this))]
          have HZ := hide hnone
          clear hnone HSt HDg
          by_cases hlow : (c : Int) < 48
          · by_cases hpp : ¬ (0 : Int) < pos
            · go_wp2_with fail
              go_ret2
              exact ⟨⟨0, false, rfl, by omega, .no HZ.out⟩, hbw2⟩
            · have hpp : (0 : Int) < pos := by omega
              go_wp2_with fail
              go_ret2
              exact ⟨⟨0, false, rfl, by omega, .no HZ.out⟩, hbw2⟩
          · have hup : (57 : Int) < c := by omega
            by_cases hpp : ¬ (0 : Int) < pos
            · go_wp2_with fail
              go_ret2
              exact ⟨⟨0, false, rfl, by omega, .no HZ.out⟩, hbw2⟩
            · have hpp : (0 : Int) < pos := by omega
              go_wp2_with fail
              go_ret2
              exact ⟨⟨0, false, rfl, by omega, .no HZ.out⟩, hbw2⟩
      · have hhigh := (decode_high s pos hp (by omega)).1
        have hle := decode_le s pos
        have hnone : X.num s.data.toList lo hi = none := by
          unfold X.num
          rw [← HS.out, hd]
          have : X.digB (s[pos]'hp) = false := by unfold X.digB; simp; omega
          simp [X.numL, this]
        have HZ := hide hnone
        clear hnone hd
        generalize (Utf8.decode s pos).1 = c at *
        have hup : (57 : Int) < c := by omega
        have hlow : ¬ (c : Int) < 48 := by omega
        by_cases hpp : ¬ (0 : Int) < pos
        · go_wp2_with fail
          go_ret2
          exact ⟨⟨0, false, rfl, by omega, .no HZ.out⟩, hbw2⟩
        · have hpp : (0 : Int) < pos := by omega
          go_wp2_with fail
          go_ret2
          exact ⟨⟨0, false, rfl, by omega, .no HZ.out⟩, hbw2⟩
    · have hnx : ∀ ty, (Instr.next (.pointer (some ⟨w.heap.size + 1, 0, none⟩)) true ty).run Tryd.prog wr = _ := fun ty => Lib.run_next_end_at wr (w.heap.size + 1) s pos ty hit hp
      have hfin : X.numL hi true 0 s.data.toList = some n := by rw [← HS.out, drop_end s pos hp]; rfl
      have HF := hide hfin
      have hnl := toList_nil s
      have hdr : ∀ k, Below w.heap.size w (wr.drewN k) := fun k => hbw.trans ⟨rfl, rfl, rfl, Nat.le_refl _, fun _ _ => rfl⟩
      have hem := bytes_empty s
      by_cases h0 : s.size = 0
      · have he : s.toList.isEmpty = true := by rw [hem]; simp [h0]
        clear hem
        go_wp2_with fail
        go_quiet (fail)
        go_wp2_with fail
        go_ret2
        refine ⟨⟨n, false, rfl, hn, .no ?_⟩, hdr _⟩
        unfold X.num; rw [HF.out]; simp [hnl.2 h0]
      · have he : s.toList.isEmpty = false := by rw [hem]; simp [h0]
        clear hem
        by_cases hlo : lo ≤ n
        · have hlo' : (lo : Int) ≤ n := by omega
          go_wp2_with fail
          go_quiet (fail)
          go_wp2_with fail
          go_ret2
          refine ⟨⟨n, true, rfl, hn, .yes ?_⟩, hdr _⟩
          unfold X.num; rw [HF.out]; simp only; rw [if_pos ⟨fun h => h0 (hnl.1 h), hlo⟩]
        · have hlo' : ¬ (lo : Int) ≤ n := by omega
          go_wp2_with fail
          go_quiet (fail)
          go_wp2_with fail
          go_ret2
          refine ⟨⟨n, false, rfl, hn, .no ?_⟩, hdr _⟩
          unfold X.num; rw [HF.out]; simp [hlo]
end Go.Proofs.YtbgioclbjbmicaaDoor
