/- The document's reader: Blob, Text, what they give behind a fault, too (out of PRfZ). -/
import Derived.Test.YteaokgolnhdloaaPOkR
import Derived.Test.YteaokgolnhdloaaPTkB
namespace Go.Proofs.Yteaokgolnhdloaa
namespace Wm
open Go.RowKit Go.Deep

theorem tb_zero {most : Int} {l : List Nat} {a : Nat} (h : (tb most l a).2.2 ≠ 0) : (tb most l a).1 = [] := by
  unfold tb at h ⊢
  cases hp : cnt most (l.drop a) with
  | error e => rfl
  | ok r => rw [hp] at h; exact absurd rfl h
set_option maxRecDepth 10000 in
set_option maxHeartbeats 1000000 in
theorem RBlobY (q : Nat) (most : Int) (s : K.RS) (w : World) (h : Qr w q s) :
    Calls Try.prog 13 #[.pointer (some ⟨q, 0, none⟩), .int .i64 most] w fun en w' => ∃ (a : Option Addr) (n c : Nat), en = .returned (.slice a n c) ∧ Rd w' a n (okR (rowR most) s (rowV most s) []) ∧ Qr w' q (takeR (rowR most) s) ∧ Keep (fun k => k = q) w w' ∧ ∀ b off, a = some ⟨b, off, none⟩ → w.heap.size ≤ b := by
  obtain ⟨a, c, hb, hr, h0, hc, _⟩ := h.ex
  have c0 := cell0 hb
  have c1 := cell1 hb
  have c2 := cell2 hb
  have HH := hide h
  have HR := hide hr
  have htk := h.tak
  have htp := h.top
  have H0 := hide h0
  have HC := hide hc
  clear h hb hr h0 hc
  by_cases hz : s.fault = 0
  · have c2' : w.cell? ⟨q, 2, none⟩ = some (.int .i64 0) := by rw [c2, hz]; rfl
    have TB : Hid (∀ W, Below w.heap.size w W → Calls Try.prog 55 #[.slice a s.data.length c, .int .i64 (s.taken : Nat), .int .i64 most] W fun en w' => ∃ a' c', en = .returned (.tuple #[.slice a' (tb most s.data s.taken).1.length c', .int .i64 ((tb most s.data s.taken).2.1 : Nat), .int .i64 ((tb most s.data s.taken).2.2 : Nat)]) ∧ Rd w' a' (tb most s.data s.taken).1.length (tb most s.data s.taken).1 ∧ (∀ b off, a' = some ⟨b, off, none⟩ → W.heap.size ≤ b) ∧ Below W.heap.size W w') :=
      fun W k => TakeBlob_any a s.data.length c s.data s.taken most W (HR.out.keep k) H0.out HC.out htk htp
    obtain ⟨ts, tv, tl⟩ := tb_row most HH.out hz
    have HTS : Hid (takeR (rowR most) s = { s with taken := (tb most s.data s.taken).2.1, fault := (tb most s.data s.taken).2.2 }) := by show _ = _; unfold takeR; rw [if_pos hz]; exact ts
    have HTV : Hid ((takeR (rowR most) s).fault = 0 → (tb most s.data s.taken).1 = rowV most s) := by show _ → _; unfold takeR; rw [if_pos hz]; exact tv
    have HTX : Hid ((tb most s.data s.taken).1 = okR (rowR most) s (rowV most s) []) := by
      show _ = _
      by_cases hf : (takeR (rowR most) s).fault = 0
      · rw [okR_yes hf, HTV.out hf]
      · rw [okR_no hf, tb_zero (by rw [HTS.out] at hf; exact hf)]
    have HTL := hide tl
    have HS : Hid (∀ W, Below w.heap.size w W → W.cell? ⟨q, 0, none⟩ = some (.slice a s.data.length c) ∧ W.cell? ⟨q, 1, none⟩ = some (.int .i64 (s.taken : Nat)) ∧ Below w.heap.size w W) := fun W k => ⟨(k.cell (p := ⟨q, 0, none⟩) (World.block_lt_of_cell? _ _ c0)).trans c0, (k.cell (p := ⟨q, 1, none⟩) (World.block_lt_of_cell? _ _ c1)).trans c1, k⟩
    clear hz c2 ts tv tl
    generalize tb most s.data s.taken = t at *
    obtain ⟨t1, t2, t3⟩ := t
    simp only at TB HTS HTV HTL HTX
    generalize hn1 : t1.length = n1 at *
    go_enter Try.func13, Try.ntmps13
    go_wp2_with fail
    go_region_held3 (fun W => W.cell? ⟨q, 0, none⟩ = some (.slice a s.data.length c) ∧ W.cell? ⟨q, 1, none⟩ = some (.int .i64 (s.taken : Nat)) ∧ Below w.heap.size w W) (first | (exact HS.out _ (Below.refl _ _)) | (exact HS.out _ (Below.refl _ _).drew) | (exact HS.out _ HK9.out) | go_keep) (first
      | (go_at_call 55; have hh8 := (‹_ ∧ _ ∧ Below w.heap.size w _›).2.2; refine (TB.out _ hh8).mono ?_; rintro e w9 ⟨a', c', rfl, r9, n9, b9⟩; have HK9 : Hid (Below w.heap.size w w9) := hh8.trans (b9.mono hh8.size); have HR9 := hide r9; have HN9 : Hid (∀ b off, a' = some ⟨b, off, none⟩ → w.heap.size ≤ b) := (fun b off e => Nat.le_trans hh8.size (n9 b off e)); clear hh8 b9 r9 n9))
    have HK := hide HK9.out
    clear HK9 c0 c1 c2' HS TB
    go_wp2_with fail
    refine (went_any q s t2 t3 HTL.out _ (HH.out.below HK.out)).mono ?_
    rintro e w1 ⟨rfl, hq, hk⟩
    have HQ := hide hq
    have HK1 := hide hk
    clear hq hk
    go_wp2
    go_ret
    refine ⟨a', n1, c', rfl, ?_, ?_, (Keep.ofBelow (S := fun k => k = q) HK.out (Nat.le_refl _)).more HK1.out, HN9.out⟩
    · rw [← HTX.out]
      exact HR9.out.stay HK1.out (fun b off e hb => by have h1 := HN9.out b off e; have h2 := HH.out.lt; omega)
    · rw [HTS.out]; exact HQ.out
  · have hzz : (((s.fault : Nat) : Int) == 0) = false := by simpa using hz
    have hzn : (((s.fault : Nat) : Int) != 0) = true := by simpa using hz
    have HZ := hide hz
    clear hz
    go_enter Try.func13, Try.ntmps13
    go_wp2
    go_ret
    refine ⟨none, 0, 0, rfl, by rw [okR_no (by unfold takeR; rw [if_neg HZ.out]; exact HZ.out)]; exact rd_nil _, ?_, Keep.refl _ _, fun b off e => by cases e⟩
    unfold takeR; rw [if_neg HZ.out]; exact HH.out
theorem RBlobZ (q : Nat) (most : Int) (s : K.RS) (w : World) (h : Qr w q s) :
    Calls Try.prog 13 #[.pointer (some ⟨q, 0, none⟩), .int .i64 most] w fun en w' => ∃ (a : Option Addr) (n c : Nat), en = .returned (.slice a n c) ∧ Rd w' a n (okR (rowR most) s (rowV most s) []) ∧ Qr w' q (takeR (rowR most) s) ∧ Keep (fun k => k = q) w w' :=
  (RBlobY q most s w h).mono fun _ _ ⟨a, n, c, h1, h2, h3, h4, _⟩ => ⟨a, n, c, h1, h2, h3, h4⟩
theorem RTextZ (q : Nat) (most : Int) (s : K.RS) (w : World) (h : Qr w q s) :
    Calls Try.prog 29 #[.pointer (some ⟨q, 0, none⟩), .int .i64 most] w fun en w' => en = .returned (.string (str (okR (rowR most) s (rowV most s) []))) ∧ Qr w' q (takeR (rowR most) s) ∧ Keep (fun k => k = q) w w' := by
  have RB := hide (RBlobZ q most s w h)
  clear h
  go_enter Try.func29, Try.ntmps29
  go_wp2_with fail
  refine RB.out.mono ?_
  rintro e w1 ⟨a, n, c, rfl, hr, hq, hk⟩
  have hcv := conv_rd hr c
  have HQ := hide hq
  have HK := hide hk
  clear hr hq hk
  go_wp2
  go_ret
  exact ⟨rfl, HQ.out, HK.out⟩
end Wm
end Go.Proofs.Yteaokgolnhdloaa
