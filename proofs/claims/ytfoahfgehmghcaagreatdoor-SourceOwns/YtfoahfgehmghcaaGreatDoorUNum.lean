/- Package source: names, numbers. -/
import Derived.Test.YtfoahfgehmghcaaGreatDoorUMod
import Derived.Deep.LoopGhost
import Derived.Lib.OthersKept
import Derived.BigQuiet
import Derived.Deep.QuietTactic
import Derived.WalkSpells
import Derived.Lib.Strings
namespace Go.Proofs.YtfoahfgehmghcaaGreatDoor
namespace U
open Go.RowKit

theorem iterPos_of {w : World} {k : Nat} {s : ByteArray} {p : Nat} (h : w.heap[k]? = some (.stringIter s p)) : w.iterPos k = p := by simp [World.iterPos, h]
theorem drop_at (s : ByteArray) (p : Nat) (h : p < s.size) : s.data.toList.drop p = s[p]'h :: s.data.toList.drop (p + 1) := by
  have hl : p < s.data.toList.length := by simpa using h
  rw [List.drop_eq_getElem_cons hl]
  rfl
theorem drop_end (s : ByteArray) (p : Nat) (h : ¬ p < s.size) : s.data.toList.drop p = [] := List.drop_eq_nil_of_le (by simpa using h)
theorem toList_nil (s : ByteArray) : s.data.toList = [] ↔ s.size = 0 := by
  constructor
  · intro h
    have : s.data.toList.length = 0 := by rw [h]; rfl
    simpa using this
  · intro h; exact List.eq_nil_of_length_eq_zero (by simpa using h)
theorem bytes_empty (s : ByteArray) : s.toList.isEmpty = decide (s.size = 0) := by
  rw [Lib.toList_data]
  have := toList_nil s
  cases h : s.data.toList with
  | nil => simp [this.1 h]
  | cons a l =>
    have : ¬ s.size = 0 := fun k => by rw [this.2 k] at h; cases h
    simp [this]

/-- a letter of names -/
def inR (n : Nat) : Bool := decide (97 ≤ n) && decide (n ≤ 122) || decide (48 ≤ n) && decide (n ≤ 57) || decide (n = 45) || decide (n = 95) || decide (n = 46)
theorem inR_byte (b : UInt8) : inR b.toNat = Gr.inNm b := rfl
theorem inR_high {n : Nat} (h : 128 ≤ n) : inR n = false := by unfold inR; simp; omega
theorem inName_any (n : Nat) (w : World) :
    Calls Tryz.prog 122 #[.int .i32 (n : Int)] w fun e w' => e = .returned (.bool (inR n)) ∧ w' = w := by
  unfold inR
  go_enter Tryz.func122, Tryz.ntmps122
  go_wp2
  all_goals go_ret
  all_goals refine ⟨congrArg (fun b => Ending.returned (.bool b)) ?_, rfl⟩
  all_goals (rw [Bool.eq_iff_iff]; simp only [Bool.or_eq_true, Bool.and_eq_true, decide_eq_true_eq, beq_iff_eq, true_iff]; omega)

set_option maxHeartbeats 1000000 in
theorem isName_any (s : ByteArray) (w : World) :
    Calls Tryz.prog 106 #[.string s] w fun e w' => e = .returned (.bool (nmL s.data.toList)) ∧ Below w.heap.size w w' := by
  have hlen : s.data.toList.length = s.size := by simp
  generalize hr : nmL s.data.toList = r
  have HR : Hid ((decide (1 ≤ s.size) && decide (s.size ≤ 40) && s.data.toList.all Gr.inNm) = r) := by
    show _ = _
    rw [← hr, nmL, hlen]
  clear hr
  go_enter Tryz.func106, Tryz.ntmps106
  go_wp2_with fail
  go_loopw [] (fun wr => ∃ (pos : Nat), wr.heap[w.heap.size]? = some (.stringIter s pos) ∧ Hid ((s.data.toList.drop pos).all Gr.inNm = s.data.toList.all Gr.inNm) ∧ Below w.heap.size w wr ∧ pos ≤ s.size) (fun wr => s.size - wr.iterPos w.heap.size)
  case atStart => exact ⟨0, World.iter_heap w s 0, rfl, (Below.refl _ w).alloc (Nat.le_refl _) _, by omega⟩
  case round =>
    obtain ⟨pos, hit, HS, hbw, hps⟩ := hrel
    have hpos0 := iterPos_of hit
    by_cases hp : pos < s.size
    · have hit2 := Lib.iterAt_heap wr w.heap.size s pos (pos + (Utf8.decode s pos).2) hit
      have hbw2 := Lib.below_iterAt hbw (k := w.heap.size) (Nat.le_refl _) s (pos + (Utf8.decode s pos).2)
      have hd := drop_at s pos hp
      have hnx : ∀ ty, (Instr.next (.pointer (some ⟨w.heap.size, 0, none⟩)) true ty).run Tryz.prog wr = _ := fun ty => Lib.run_next_any_at wr w.heap.size s pos ty hit hp
      obtain ⟨W1, hW1⟩ : ∃ W1, W1 = wr.iterAt w.heap.size s (pos + (Utf8.decode s pos).2) := ⟨_, rfl⟩
      rw [← hW1] at hnx hit2 hbw2
      clear hW1 hit hbw
      by_cases ha : (s[pos]'hp).toNat < 128
      · have hdec := decode_ascii s pos hp ha
        rw [hdec] at hnx hit2
        simp only at hnx hit2
        have hin := inR_byte (s[pos]'hp)
        cases hb : Gr.inNm (s[pos]'hp)
        · obtain rfl : r = false := by rw [← HR.out, ← HS.out, hd, List.all_cons, hb]; simp
          have hf := hin.trans hb
          generalize (s[pos]'hp).toNat = c at *
          clear hd hdec hin hb HS
          go_wp2_with (go_at_call 122; refine (inName_any c _).mono ?_; rintro e w2 ⟨rfl, rfl⟩; rw [hf])
          go_ret
          exact ⟨rfl, hbw2⟩
        · have HS2 : Hid ((s.data.toList.drop (pos + 1)).all Gr.inNm = s.data.toList.all Gr.inNm) := by
            show _ = _
            rw [← HS.out, hd, List.all_cons, hb]; simp
          have hf := hin.trans hb
          generalize (s[pos]'hp).toNat = c at *
          clear hd hdec hin hb HS
          go_wp2_with (go_at_call 122; refine (inName_any c _).mono ?_; rintro e w2 ⟨rfl, rfl⟩; rw [hf])
          exact ⟨⟨pos + 1, hit2, HS2, hbw2, by omega⟩, by rw [iterPos_of hit2, hpos0]; omega⟩
      · have hhigh := (decode_high s pos hp (by omega)).1
        have hf := inR_high hhigh
        obtain rfl : r = false := by
          rw [← HR.out, ← HS.out, hd, List.all_cons, show Gr.inNm (s[pos]'hp) = false from (inR_byte _).symm.trans (inR_high (by omega))]; simp
        generalize (Utf8.decode s pos).1 = c at *
        clear hd HS
        go_wp2_with (go_at_call 122; refine (inName_any c _).mono ?_; rintro e w2 ⟨rfl, rfl⟩; rw [hf])
        go_ret
        exact ⟨rfl, hbw2⟩
    · have hnx : ∀ ty, (Instr.next (.pointer (some ⟨w.heap.size, 0, none⟩)) true ty).run Tryz.prog wr = _ := fun ty => Lib.run_next_end_at wr w.heap.size s pos ty hit hp
      have hall : s.data.toList.all Gr.inNm = true := by rw [← HS.out, drop_end s pos hp]; rfl
      have hr := HR.out
      rw [hall, Bool.and_true] at hr
      have HR2 := hide hr
      have hdr : ∀ k, Below w.heap.size w (wr.drewN k) := fun k => hbw.trans ⟨rfl, rfl, rfl, Nat.le_refl _, fun _ _ => rfl⟩
      have hem := bytes_empty s
      clear hr HR HS hall
      by_cases h0 : s.size = 0
      · have he : s.toList.isEmpty = true := by rw [hem]; simp [h0]
        obtain rfl : r = false := by rw [← HR2.out, h0]; rfl
        clear hem
        go_wp2_with fail
        go_ret
        exact ⟨rfl, hbw⟩
      · have he : s.toList.isEmpty = false := by rw [hem]; simp [h0]
        clear hem
        by_cases h4 : s.size ≤ 40
        · obtain rfl : r = true := by rw [← HR2.out]; simp; omega
          have h4' : (s.size : Int) ≤ 40 := by omega
          go_wp2_with fail
          go_ret
          exact ⟨rfl, hbw⟩
        · obtain rfl : r = false := by rw [← HR2.out]; simp; omega
          have h4' : ¬ (s.size : Int) ≤ 40 := by omega
          go_wp2_with fail
          go_ret
          exact ⟨rfl, hbw⟩

/-- what numberOf answers -/
def numEnd (l : List UInt8) : Ending := .returned (.tuple #[.int .i64 (((num l).getD 0 : Nat) : Int), .bool (num l).isSome])
theorem numEnd_no {l : List UInt8} (h : num l = none) : numEnd l = .returned (.tuple #[.int .i64 0, .bool false]) := by unfold numEnd; rw [h]; rfl
theorem numEnd_yes {l : List UInt8} {n : Nat} (h : num l = some n) : numEnd l = .returned (.tuple #[.int .i64 (n : Int), .bool true]) := by unfold numEnd; rw [h]; rfl
set_option maxHeartbeats 1000000 in
theorem numberOf_any (s : ByteArray) (w : World) :
    Calls Tryz.prog 121 #[.string s] w fun e w' => e = numEnd s.data.toList ∧ Below w.heap.size w w' := by
  generalize hE : numEnd s.data.toList = E
  have HE := hide hE
  clear hE
  go_enter Tryz.func121, Tryz.ntmps121
  go_wp2_with fail
  go_loopw [4] (fun v wr => ∃ (pos n : Nat), wr.heap[w.heap.size]? = some (.stringIter s pos) ∧ v = .int .i64 n ∧ n ≤ 4611686018427387903 ∧ Hid (numL (decide (pos = 0)) n (s.data.toList.drop pos) = numL true 0 s.data.toList) ∧ Below w.heap.size w wr ∧ pos ≤ s.size ∧ (pos = 0 → n = 0)) (fun _ wr => s.size - wr.iterPos w.heap.size)
  case atStart => exact ⟨0, 0, World.iter_heap w s 0, rfl, by omega, rfl, (Below.refl _ w).alloc (Nat.le_refl _) _, by omega, fun _ => rfl⟩
  case round =>
    obtain ⟨pos, n, hit, rfl, hn, HS, hbw, hps, hp0⟩ := hrel
    have hpos0 := iterPos_of hit
    have hne : 0 < s.size → s.data.toList ≠ [] := fun h e => by have := (toList_nil s).1 e; omega
    by_cases hp : pos < s.size
    · have hit2 := Lib.iterAt_heap wr w.heap.size s pos (pos + (Utf8.decode s pos).2) hit
      have hbw2 := Lib.below_iterAt hbw (k := w.heap.size) (Nat.le_refl _) s (pos + (Utf8.decode s pos).2)
      have hd := drop_at s pos hp
      have hnx : ∀ ty, (Instr.next (.pointer (some ⟨w.heap.size, 0, none⟩)) true ty).run Tryz.prog wr = _ := fun ty => Lib.run_next_any_at wr w.heap.size s pos ty hit hp
      obtain ⟨W1, hW1⟩ : ∃ W1, W1 = wr.iterAt w.heap.size s (pos + (Utf8.decode s pos).2) := ⟨_, rfl⟩
      rw [← hW1] at hnx hit2 hbw2
      clear hW1 hit hbw
      have hnum : num s.data.toList = numL true 0 s.data.toList := by unfold num; rw [if_neg (hne (by omega))]
      by_cases ha : (s[pos]'hp).toNat < 128
      · have hdec := decode_ascii s pos hp ha
        rw [hdec] at hnx hit2
        simp only at hnx hit2
        have hstep : numL (decide (pos = 0)) n (s.data.toList.drop pos) = if digB (s[pos]'hp) = true ∧ (decide (pos = 0) = true ∨ n ≠ 0) ∧ n * 10 + ((s[pos]'hp).toNat - 48) ≤ 4611686018427387903 then numL false (n * 10 + ((s[pos]'hp).toNat - 48)) (s.data.toList.drop (pos + 1)) else none := by
          rw [hd]; rfl
        have hdig : digB (s[pos]'hp) = (decide (48 ≤ (s[pos]'hp).toNat) && decide ((s[pos]'hp).toNat ≤ 57)) := rfl
        generalize s[pos]'hp = cb at *
        generalize cb.toNat = c at *
        have HSt := hide hstep
        have HDg := hide hdig
        have HNm := hide hnum
        clear hstep hdig hd hdec hnum hne
        have hno : ¬ (digB cb = true ∧ (decide (pos = 0) = true ∨ n ≠ 0) ∧ n * 10 + (c - 48) ≤ 4611686018427387903) → Hid (E = .returned (.tuple #[.int .i64 0, .bool false])) := by
          intro h
          show _ = _
          rw [← HE.out]
          exact numEnd_no (by rw [HNm.out, ← HS.out, HSt.out, if_neg h])
        have HNo := hide hno
        clear hno
        by_cases hc1 : 48 ≤ c ∧ c ≤ 57
        · by_cases hc2 : pos = 0 ∨ n ≠ 0
          · have hz : ¬ ((0 : Int) < pos) ∨ ((n : Int) == 0) = false := by
              rcases hc2 with h | h
              · left; omega
              · right; simp; omega
            obtain ⟨g, hg⟩ : ∃ g : Int, (c : Int) - 48 = g := ⟨_, rfl⟩
            have hgc : g = ((c - 48 : Nat) : Int) := by omega
            have hd0 : (0 : Int) ≤ g ∧ g ≤ 9 := by omega
            have ew : IntKind.i32.wrap ((c : Int) - 48) = g := by rw [IntKind.wrap_i32, hg]; omega
            by_cases hc3 : n * 10 + (c - 48) ≤ 4611686018427387903
            · have hnext := HSt.out
              rw [if_pos ⟨by rw [HDg.out]; simp; omega, by simpa using hc2, hc3⟩] at hnext
              have HNx := hide hnext
              clear hnext HSt HDg HNo
              obtain ⟨m, hm⟩ : ∃ m : Nat, n * 10 + (c - 48) = m := ⟨_, rfl⟩
              have hm' : (n : Int) * 10 + ((c : Int) - 48) = m := by omega
              have hq : ¬ ((4611686018427387903 - ((c : Int) - 48)).tdiv 10 < (n : Int)) := by rw [Int.tdiv_eq_ediv_of_nonneg (by omega)]; omega
              clear hg hgc hd0 ew
              rcases hz with hz | hz
              · go_wp2_with fail
                exact ⟨⟨pos + 1, m, hit2, rfl, by omega, (by show _ = _; rw [← HS.out, HNx.out, hm]; rfl), hbw2, by omega, by omega⟩, by rw [iterPos_of hit2, hpos0]; omega⟩
              · by_cases hpp : ¬ (0 : Int) < pos
                · go_wp2_with fail
                  exact ⟨⟨pos + 1, m, hit2, rfl, by omega, (by show _ = _; rw [← HS.out, HNx.out, hm]; rfl), hbw2, by omega, by omega⟩, by rw [iterPos_of hit2, hpos0]; omega⟩
                · have hpp : (0 : Int) < pos := by omega
                  go_wp2_with fail
                  exact ⟨⟨pos + 1, m, hit2, rfl, by omega, (by show _ = _; rw [← HS.out, HNx.out, hm]; rfl), hbw2, by omega, by omega⟩, by rw [iterPos_of hit2, hpos0]; omega⟩
            · have hE := (HNo.out (fun h => hc3 h.2.2)).out
              subst hE
              have hq : (4611686018427387903 - ((c : Int) - 48)).tdiv 10 < (n : Int) := by rw [Int.tdiv_eq_ediv_of_nonneg (by omega)]; omega
              clear hg hgc hd0 ew HSt HDg HNo
              rcases hz with hz | hz
              · exfalso; have := hp0 (by omega); omega
              · by_cases hpp : ¬ (0 : Int) < pos
                · exfalso; have := hp0 (by omega); omega
                · have hpp : (0 : Int) < pos := by omega
                  go_wp2_with fail
                  go_ret2
                  exact ⟨rfl, hbw2⟩
          · have hE := (HNo.out (fun h => hc2 (by simpa using h.2.1))).out
            subst hE
            clear HSt HDg HNo
            have hpp : (0 : Int) < pos := by omega
            obtain rfl : n = 0 := by omega
            go_wp2_with fail
            go_ret2
            exact ⟨rfl, hbw2⟩
        · have hE := (HNo.out (fun h => hc1 (by have := h.1; rw [HDg.out] at this; simpa using this))).out
          subst hE
          clear HSt HDg HNo
          by_cases hlow : (c : Int) < 48
          · by_cases hpp : ¬ (0 : Int) < pos
            · go_wp2_with fail
              go_ret2
              exact ⟨rfl, hbw2⟩
            · have hpp : (0 : Int) < pos := by omega
              go_wp2_with fail
              go_ret2
              exact ⟨rfl, hbw2⟩
          · have hup : (57 : Int) < c := by omega
            by_cases hpp : ¬ (0 : Int) < pos
            · go_wp2_with fail
              go_ret2
              exact ⟨rfl, hbw2⟩
            · have hpp : (0 : Int) < pos := by omega
              go_wp2_with fail
              go_ret2
              exact ⟨rfl, hbw2⟩
      · have hhigh := (decode_high s pos hp (by omega)).1
        have hE : E = .returned (.tuple #[.int .i64 0, .bool false]) := by
          rw [← HE.out]
          refine numEnd_no ?_
          rw [hnum, ← HS.out, hd]
          have : digB (s[pos]'hp) = false := by unfold digB; simp; omega
          simp [numL, this]
        subst hE
        clear hd hnum hne
        generalize (Utf8.decode s pos).1 = c at *
        have hup : (57 : Int) < c := by omega
        have hlow : ¬ (c : Int) < 48 := by omega
        by_cases hpp : ¬ (0 : Int) < pos
        · go_wp2_with fail
          go_ret2
          exact ⟨rfl, hbw2⟩
        · have hpp : (0 : Int) < pos := by omega
          go_wp2_with fail
          go_ret2
          exact ⟨rfl, hbw2⟩
    · have hnx : ∀ ty, (Instr.next (.pointer (some ⟨w.heap.size, 0, none⟩)) true ty).run Tryz.prog wr = _ := fun ty => Lib.run_next_end_at wr w.heap.size s pos ty hit hp
      have hfin : numL true 0 s.data.toList = some n := by rw [← HS.out, drop_end s pos hp]; rfl
      have HF := hide hfin
      have hnl := toList_nil s
      have hem := bytes_empty s
      by_cases h0 : s.size = 0
      · have he : s.toList.isEmpty = true := by rw [hem]; simp [h0]
        obtain rfl : n = 0 := hp0 (by omega)
        have hE : E = .returned (.tuple #[.int .i64 0, .bool false]) := by
          rw [← HE.out]; exact numEnd_no (by unfold num; rw [if_pos (hnl.2 h0)])
        subst hE
        clear hem hnl hne
        go_wp2_with fail
        go_ret2
        exact ⟨rfl, hbw⟩
      · have he : s.toList.isEmpty = false := by rw [hem]; simp [h0]
        have hE : E = .returned (.tuple #[.int .i64 (n : Int), .bool true]) := by
          rw [← HE.out]; exact numEnd_yes (by unfold num; rw [if_neg (hne (by omega)), HF.out])
        subst hE
        clear hem hnl hne
        go_wp2_with fail
        go_ret2
        exact ⟨rfl, hbw⟩
end U
end Go.Proofs.YtfoahfgehmghcaaGreatDoor
