import Derived.Test.YtfoahfgehmghcaaGreatDoorUNum
import Derived.Test.YtfoahfgehmghcaaGreatDoorGBase
/- Package source: a line whose words are taken one by one. -/
namespace Go.Proofs.YtfoahfgehmghcaaGreatDoor
namespace U
open Go.RowKit

/-- a block of strings -/
def StrB (w : World) (g : Nat) : Prop := ∃ cs, w.heap[g]? = some (.cells cs 9 (0, 0))
theorem not_strB {w : World} {g : Nat} {cs : Array Value} {t : TypeId} {fz : Nat × Nat} (h : w.heap[g]? = some (.cells cs t fz)) (ht : t ≠ 9) : ¬ StrB w g := by
  rintro ⟨cs', h'⟩
  rw [h] at h'
  injection h' with h'
  injection h' with _ h'
  exact ht h'
/-- words in memory -/
def RdS (w : World) (a : Option Addr) (ws : List (List UInt8)) : Prop :=
  ws = [] ∨ ∃ g off, a = some ⟨g, off, none⟩ ∧ StrB w g ∧ ∀ j x, ws[j]? = some x → w.cell? ⟨g, off + j, none⟩ = some (.string (ba x))
theorem RdS.keep {w w' : World} {a : Option Addr} {ws : List (List UInt8)} {S : Nat → Prop} (h : RdS w a ws) (k : Keep S w w') (hS : ∀ g, S g → ¬ StrB w g) : RdS w' a ws := by
  rcases h with h | ⟨g, off, e, hg, h⟩
  · exact .inl h
  · have hn : ¬ S g := fun s => hS g s hg
    obtain ⟨cs, hc⟩ := hg
    exact .inr ⟨g, off, e, ⟨cs, k.blk hc hn⟩, fun j x hj => k.cell (h j x hj) hn⟩
theorem RdS.below {w w' : World} {a : Option Addr} {ws : List (List UInt8)} (h : RdS w a ws) (k : Below w.heap.size w w') : RdS w' a ws :=
  h.keep (Keep.ofBelow (S := fun _ => False) k (Nat.le_refl _)) (fun _ f => f.elim)
/-- a line in memory -/
def LineAt (w : World) (L : Nat) (pl : Nat) (s : Ln) : Prop :=
  ∃ a c, w.heap[L]? = some (.cells #[.int .i64 (pl : Int), .slice a s.1.length c, .bool s.2] 128 (0, 0)) ∧ s.1.length ≤ c ∧ c ≤ 9223372036854775807 ∧ RdS w a s.1 ∧ ∀ x ∈ s.1, x ≠ []
theorem LineAt.lt {w : World} {L pl : Nat} {s : Ln} (h : LineAt w L pl s) : L < w.heap.size := by
  obtain ⟨a, c, hb, _⟩ := h
  exact (Array.getElem?_eq_some_iff.1 hb).1
theorem LineAt.keep {w w' : World} {L pl : Nat} {s : Ln} (h : LineAt w L pl s) {S : Nat → Prop} (k : Keep S w w') (hL : ¬ S L) (hS : ∀ g, S g → ¬ StrB w g) : LineAt w' L pl s := by
  obtain ⟨a, c, hb, h1, h2, h3, h4⟩ := h
  exact ⟨a, c, k.blk hb hL, h1, h2, h3.keep k hS, h4⟩
theorem LineAt.below {w w' : World} {L pl : Nat} {s : Ln} (h : LineAt w L pl s) (k : Below w.heap.size w w') : LineAt w' L pl s :=
  h.keep (Keep.ofBelow (S := fun _ => False) k (Nat.le_refl _)) (fun f => f) (fun _ f => f.elim)
/-- another mark -/
theorem LineAt.mark {w : World} {L pl : Nat} {s : Ln} (h : LineAt w L pl s) (b : Bool) : LineAt (w.setCell ⟨L, 2, none⟩ (.bool b)) L pl (s.1, b) := by
  obtain ⟨a, c, hb, h1, h2, h3, h4⟩ := h
  refine ⟨a, c, (set_blk hb 2 (.bool b)).trans rfl, h1, h2, h3.keep (keep_cell w L 2 (.bool b)) ?_, h4⟩
  rintro g rfl
  exact not_strB hb (by decide)
theorem ba_empty (x : List UInt8) : (ba x).toList.isEmpty = x.isEmpty := by
  rw [bytes_empty, ba_size]
  cases x <;> simp
theorem slice_one (g off n c : Nat) (h : n + 1 ≤ c) : ∃ a', (∀ wx, (Instr.slice 58 (.slice (some ⟨g, off, none⟩) (n + 1) c) (some (.int .i64 1)) none none).run Tryz.prog wx = .ok (.slice a' n (c - 1)) wx) ∧ (n ≠ 0 → a' = some ⟨g, off + 1, none⟩) := by
  by_cases hc : c = 1
  · refine ⟨some ⟨g, off, none⟩, fun wx => ?_, fun hn => absurd hn (by omega)⟩
    have hn : n = 0 := by omega
    subst hc; subst hn
    go_simp
  · refine ⟨some ⟨g, off + 1, none⟩, fun wx => ?_, fun _ => rfl⟩
    have h1 : (1 : Int) ≤ (n : Int) + 1 := by omega
    have h2 : (n : Int) + 1 ≤ (c : Int) := by omega
    go_simp

set_option maxHeartbeats 1000000 in
theorem next_any (L pl : Nat) (s : Ln) (w : World) (h : LineAt w L pl s) :
    Calls Tryz.prog 92 #[.pointer (some ⟨L, 0, none⟩)] w fun e w' => e = .returned (.string (ba (hd s.1))) ∧ w' = w := by
  obtain ⟨a, c, hb, h1, h2, h3, h4⟩ := h
  obtain ⟨ws, wr⟩ := s
  have c1 := cell_blk hb 1 (v := .slice a ws.length c) rfl
  clear hb
  cases ws with
  | nil =>
    simp only [List.length_nil] at c1
    go_enter Tryz.func92, Tryz.ntmps92
    go_wp2
    go_ret
    exact ⟨rfl, rfl⟩
  | cons x r =>
    simp only [List.length_cons] at c1 h1
    obtain ⟨g, off, rfl, hg, hc⟩ := h3.resolve_left (by simp)
    have c0 : w.cell? ⟨g, off, none⟩ = some (.string (ba x)) := hc 0 x rfl
    have HP : Hid (ba (hd (x :: r)) = ba x) := rfl
    generalize ba (hd (x :: r)) = y at *
    generalize ba x = z at *
    obtain rfl : y = z := HP.out
    have i0 : (0 : Int) < (r.length : Int) + 1 := by omega
    have i1 : ((r.length : Int) + 1 == 0) = false := by simp; omega
    clear hc h4
    go_enter Tryz.func92, Tryz.ntmps92
    go_wp2
    go_ret
    exact ⟨rfl, rfl⟩

set_option maxHeartbeats 1000000 in
theorem take_any (L pl : Nat) (s : Ln) (w : World) (h : LineAt w L pl s) :
    Calls Tryz.prog 67 #[.pointer (some ⟨L, 0, none⟩)] w fun e w' => e = .returned (.string (ba (hd s.1))) ∧ LineAt w' L pl (s.1.tail, s.2) ∧ Keep (fun k => k = L) w w' := by
  have HL := hide h
  have HN := hide (next_any L pl s w h)
  obtain ⟨a, c, hb, h1, h2, h3, h4⟩ := h
  obtain ⟨ws, wr⟩ := s
  have c1 := cell_blk hb 1 (v := .slice a ws.length c) rfl
  have f1 := frozen_blk hb 1
  cases ws with
  | nil =>
    have he := ba_empty (hd [])
    rw [show (hd ([] : List (List UInt8))).isEmpty = true from rfl] at he
    generalize ba (hd []) = y at *
    clear hb c1 f1
    go_enter Tryz.func67, Tryz.ntmps67
    go_wp2_with (go_at_call 92; refine HN.out.mono ?_; rintro e w1 ⟨rfl, rfl⟩)
    go_ret
    exact ⟨rfl, HL.out, Keep.refl _ _⟩
  | cons x r =>
    simp only [List.length_cons] at c1 h1
    obtain ⟨g, off, rfl, hg, hc⟩ := h3.resolve_left (by simp)
    have he := ba_empty (hd (x :: r))
    rw [show (hd (x :: r)).isEmpty = false by have := h4 x (by simp); simp [hd, this]] at he
    generalize ba (hd (x :: r)) = y at *
    obtain ⟨a', hs, ha⟩ := slice_one g off r.length c h1
    have HB := hide hb
    have HC := hide hc
    have HG := hide hg
    have H4 := hide h4
    have HA := hide ha
    clear hb hc h4 ha h3 hg
    go_enter Tryz.func67, Tryz.ntmps67
    go_wp2_with (go_at_call 92; refine HN.out.mono ?_; rintro e w1 ⟨rfl, rfl⟩)
    go_ret
    refine ⟨rfl, ⟨a', c - 1, (set_blk HB.out 1 (.slice a' r.length (c - 1))).trans rfl, by simp; omega, by omega, ?_, fun y hy => H4.out y (by simp at hy; simp [hy])⟩, keep_cell _ L 1 _⟩
    cases r with
    | nil => exact .inl rfl
    | cons y r' =>
      have hgL : g ≠ L := fun e => not_strB HB.out (by decide) (e ▸ HG.out)
      obtain ⟨cs, hcs⟩ := HG.out
      refine .inr ⟨g, off + 1, HA.out (by simp), ⟨cs, (keep_cell _ L 1 _).blk hcs hgL⟩, fun j z hz => ?_⟩
      refine (keep_cell _ L 1 _).cell ?_ hgL
      rw [Nat.add_assoc, Nat.add_comm 1 j]; exact HC.out (j + 1) z (by simpa using hz)

set_option maxHeartbeats 1000000 in
theorem fits_any (L pl : Nat) (s : Ln) (w : World) (h : LineAt w L pl s) :
    Calls Tryz.prog 104 #[.pointer (some ⟨L, 0, none⟩)] w fun e w' => e = .returned (.bool (fits s)) ∧ w' = w := by
  obtain ⟨a, c, hb, h1, h2, h3, h4⟩ := h
  obtain ⟨ws, wr⟩ := s
  have c1 := cell_blk hb 1 (v := .slice a ws.length c) rfl
  have c2 := cell_blk hb 2 (v := .bool wr) rfl
  have hf : Hid (fits (ws, wr) = (!wr && ws.isEmpty)) := rfl
  generalize fits (ws, wr) = r at *
  clear hb h4 h3
  cases wr with
  | true =>
    obtain rfl : r = false := hf.out
    go_enter Tryz.func104, Tryz.ntmps104
    go_wp2
    go_ret
    exact ⟨rfl, rfl⟩
  | false =>
    cases ws with
    | nil =>
      obtain rfl : r = true := hf.out
      simp only [List.length_nil] at c1
      go_enter Tryz.func104, Tryz.ntmps104
      go_wp2
      go_ret
      exact ⟨rfl, rfl⟩
    | cons x r' =>
      obtain rfl : r = false := hf.out
      simp only [List.length_cons] at c1
      go_enter Tryz.func104, Tryz.ntmps104
      go_wp2
      go_ret
      exact ⟨by simp; omega, rfl⟩
end U
end Go.Proofs.YtfoahfgehmghcaaGreatDoor

/- Package source: names and numbers off a line. -/
namespace Go.Proofs.YtfoahfgehmghcaaGreatDoor
namespace U
open Go.RowKit

theorem clone_any (s : ByteArray) (w : World) (h : s.size ≤ 281474976710656) :
    Calls Tryz.prog 120 #[.string s] w fun e w' => e = .returned (.string s) ∧ Below w.heap.size w w' := by
  go_enter Tryz.func120, Tryz.ntmps120
  go_wp2_with (go_at_call 140; refine (Tryz.stringslite_Clone s _ h).mono ?_; rintro e w1 ⟨rfl, hb⟩)
  go_ret
  exact ⟨rfl, hb⟩

theorem LineAt.cell {w : World} {L pl : Nat} {s : Ln} (h : LineAt w L pl s) : w.cell? ⟨L, 2, none⟩ = some (.bool s.2) ∧ w.frozen? ⟨L, 2, none⟩ = false := by
  obtain ⟨a, c, hb, _⟩ := h
  exact ⟨cell_blk hb 2 rfl, frozen_blk hb 2⟩

set_option maxHeartbeats 1000000 in
theorem name_any (L pl : Nat) (s : Ln) (w : World) (h : LineAt w L pl s) (hz : ∀ x ∈ s.1, x.length ≤ 65536) :
    Calls Tryz.prog 102 #[.pointer (some ⟨L, 0, none⟩)] w fun e w' => e = .returned (.string (ba (tkName s).1)) ∧ LineAt w' L pl (tkName s).2 ∧ Keep (fun k => k = L) w w' := by
  have HT := hide (take_any L pl s w h)
  have hsz : (ba (hd s.1)).size ≤ 281474976710656 := by
    rw [ba_size]
    cases hs : s.1 with
    | nil => simp [hd]
    | cons x r => have := hz x (by rw [hs]; simp); simp [hd]; omega
  have HI := hide (fun w => isName_any (ba (hd s.1)) w)
  have HC := hide (fun w => clone_any (ba (hd s.1)) w hsz)
  rw [ba_data] at HI
  have HE1 : Hid ((tkName s).1 = hd s.1) := rfl
  have HE2 : Hid ((tkName s).2 = (s.1.tail, s.2 || !nmL (hd s.1))) := rfl
  generalize (tkName s).1 = r1 at *
  generalize (tkName s).2 = r2 at *
  obtain rfl : r1 = hd s.1 := HE1.out
  obtain ⟨ws, wr⟩ := s
  simp only at *
  generalize hd ws = x at *
  generalize nmL x = b at *
  generalize ws.tail = tl at *
  clear h hsz HE1
  go_enter Tryz.func102, Tryz.ntmps102
  go_wp2_with fail
  go_at_call 67
  refine HT.out.mono ?_
  rintro e w1 ⟨rfl, hl1, k1⟩
  have HL1 := hide hl1
  have K1 := hide k1
  obtain ⟨c2, f2⟩ := hl1.cell
  clear k1 hl1 HT
  cases wr with
  | true =>
    go_wp2_with (first
      | (go_at_call 120; refine (HC.out _).mono ?_; rintro e w2 ⟨rfl, hb2⟩))
    go_ret
    have hm := HL1.out.mark true
    refine ⟨rfl, ?_, ?_⟩
    · rw [HE2.out]; exact hm.below hb2
    · exact (K1.out.more (keep_cell w1 L 2 (.bool true))).more (Keep.ofBelow hb2 (Nat.le_refl _))
  | false =>
    go_wp2_with (first
      | (go_at_call 106; refine (HI.out _).mono ?_; rintro e w2 ⟨rfl, hb2⟩
         have HB2 := hide hb2
         have HL2 := hide (HL1.out.below hb2)
         obtain ⟨d2, g2⟩ := HL2.out.cell
         clear hb2)
      | (go_at_call 120; refine (HC.out _).mono ?_; rintro e w3 ⟨rfl, hb3⟩))
    go_ret
    have hm := HL2.out.mark (!b)
    refine ⟨rfl, ?_, ?_⟩
    · rw [HE2.out]; exact hm.below hb3
    · exact ((K1.out.more (Keep.ofBelow HB2.out (Nat.le_refl _))).more (keep_cell w2 L 2 (.bool (!b)))).more (Keep.ofBelow hb3 (Nat.le_refl _))

theorem string_eq (a b : List UInt8) : ((ba a).toList == (ba b).toList) = decide (a = b) := by
  rw [Lib.toList_data, Lib.toList_data, ba_data, ba_data]
  rw [Bool.eq_iff_iff]
  simp
theorem string_lit (a l : List UInt8) : ((ba a).toList == l) = decide (a = l) := by
  rw [Lib.toList_data, ba_data]
  rw [Bool.eq_iff_iff]
  simp
set_option maxHeartbeats 1000000 in
theorem number_any (L pl : Nat) (kw : List UInt8) (s : Ln) (w : World) (h : LineAt w L pl s) :
    Calls Tryz.prog 103 #[.pointer (some ⟨L, 0, none⟩), .string (ba kw)] w fun e w' => e = .returned (.int .i64 (tkNum kw s).1) ∧ LineAt w' L pl (tkNum kw s).2 ∧ Keep (fun k => k = L) w w' := by
  have HT := hide (take_any L pl s w h)
  have HT2 := hide (fun w h => take_any L pl (s.1.tail, s.2) w h)
  have HN := hide (fun w => numberOf_any (ba (hd s.1.tail)) w)
  rw [ba_data] at HN
  unfold numEnd at HN
  have HE1 : Hid ((tkNum kw s).1 = (((num (hd s.1.tail)).getD 0 : Nat) : Int)) := rfl
  have HE2 : Hid ((tkNum kw s).2 = (s.1.tail.tail, s.2 || !decide (hd s.1 = kw) || (num (hd s.1.tail)).isNone)) := rfl
  have hnone : (num (hd s.1.tail)).isNone = !(num (hd s.1.tail)).isSome := by cases num (hd s.1.tail) <;> rfl
  rw [hnone] at HE2
  generalize (tkNum kw s).1 = r1 at *
  generalize (tkNum kw s).2 = r2 at *
  obtain rfl := HE1.out
  obtain ⟨ws, wr⟩ := s
  simp only at *
  have HQ := hide (string_eq (hd ws) kw)
  generalize hd ws = x at *
  generalize (num (hd ws.tail)).isSome = b at *
  generalize (num (hd ws.tail)).getD 0 = n at *
  generalize hd ws.tail = y at *
  generalize ws.tail.tail = tl2 at *
  generalize ws.tail = tl at *
  generalize hst : decide (x = kw) = st at *
  clear h HE1 hst hnone
  go_enter Tryz.func103, Tryz.ntmps103
  go_wp2_with fail
  go_at_call 67
  refine HT.out.mono ?_
  rintro e w1 ⟨rfl, hl1, k1⟩
  have K1 := hide k1
  have HL1 := hide hl1
  clear k1 hl1 HT
  have hq := HQ.out
  clear HQ
  go_wp2_with fail
  go_at_call 67
  refine (HT2.out _ HL1.out).mono ?_
  rintro e w2 ⟨rfl, hl2, k2⟩
  have K2 := hide (K1.out.more k2)
  have HL2 := hide hl2
  clear k2 hl2 HT2 HL1 K1
  go_wp2_with fail
  go_at_call 121
  refine (HN.out _).mono ?_
  rintro e w3 ⟨rfl, hb3⟩
  have K3 := hide (K2.out.more (Keep.ofBelow hb3 (Nat.le_refl _)))
  have HL3 := hide (HL2.out.below hb3)
  obtain ⟨c2, f2⟩ := HL3.out.cell
  clear hb3 HL2 K2
  have HM := hide (fun u => HL3.out.mark u)
  have HK := hide (fun u => K3.out.more (keep_cell w3 L 2 (.bool u)))
  cases wr <;> cases st <;> cases b
  all_goals go_wp2_with fail
  all_goals go_ret
  all_goals refine ⟨rfl, ?_, HK.out _⟩
  all_goals (rw [HE2.out]; exact HM.out _)
end U
end Go.Proofs.YtfoahfgehmghcaaGreatDoor
