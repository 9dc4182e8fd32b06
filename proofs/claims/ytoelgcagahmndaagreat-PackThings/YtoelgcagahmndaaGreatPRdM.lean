import Derived.Test.YtoelgcagahmndaaGreatPTo2
import Derived.Test.YtoelgcagahmndaaGreatPTkB
import Derived.Test.YtoelgcagahmndaaGreatPOneM
/- The document's reader: what it gives behind a fault, too (written by rfz_gen.py). -/
namespace Go.Proofs.YtoelgcagahmndaaGreat
namespace Wm
open Go.RowKit Go.Deep

theorem tn_zero {least most : Int} {l : List Nat} {a : Nat} (h : (tn least most l a).2.2 ≠ 0) : (tn least most l a).1 = 0 := by
  unfold tn at h ⊢
  cases hp : K.pk (l.drop a) with
  | error e => rfl
  | ok r =>
    rw [hp] at h
    simp only at h ⊢
    split
    · rfl
    · rename_i h2; rw [if_neg h2] at h; exact absurd rfl h
theorem tw_zero {l : List Nat} {a : Nat} (h : (tw l a).2.2 ≠ 0) : (tw l a).1 = 0 := by
  unfold tw at h ⊢
  split
  · rfl
  · rename_i h2; rw [if_neg h2] at h; exact absurd rfl h
theorem tf_zero {l : List Nat} {a : Nat} (h : (tf l a).2.2 ≠ 0) : (tf l a).1 = false := by
  unfold tf at h ⊢
  split
  · rfl
  · rename_i h2
    rw [if_neg h2] at h
    split
    · rfl
    · rename_i h3; rw [if_neg h3] at h; exact absurd rfl h
theorem tb_zero {most : Int} {l : List Nat} {a : Nat} (h : (tb most l a).2.2 ≠ 0) : (tb most l a).1 = [] := by
  unfold tb at h ⊢
  cases hp : cnt most (l.drop a) with
  | error e => rfl
  | ok r => rw [hp] at h; exact absurd rfl h
theorem RTakeZ (q : Nat) (least most : Int) (s : K.RS) (w : World) (h : Qr w q s) :
    Calls Tryz.prog 70 #[.pointer (some ⟨q, 0, none⟩), .int .i64 least, .int .i64 most] w fun en w' => en = .returned (.int .i64 (okR (numR least most) s ((numV s : Nat) : Int) 0)) ∧ Qr w' q (takeR (numR least most) s) ∧ Keep (fun k => k = q) w w' := by
  obtain ⟨a, c, hb, hr, h0, hc, _⟩ := h.ex
  have c0 := cell0 hb
  have c1 := cell1 hb
  have c2 := cell2 hb
  have HH := hide h
  have HR := hide hr
  have htk := h.tak
  have htp := h.top
  have HTK := hide htk
  clear h hb hr h0
  by_cases hz : s.fault = 0
  · have c2' : w.cell? ⟨q, 2, none⟩ = some (.int .i64 0) := by rw [c2, hz]; rfl
    have HZ := hide hz
    have HTN : Hid (∀ k, Calls Tryz.prog 127 #[.slice a s.data.length c, .int .i64 (s.taken : Nat), .int .i64 least, .int .i64 most] (w.drewN k) fun en w' => en = .returned (.tuple #[.int .i64 ((tn least most s.data s.taken).1 : Nat), .int .i64 ((tn least most s.data s.taken).2.1 : Nat), .int .i64 ((tn least most s.data s.taken).2.2 : Nat)]) ∧ w' = w.drewN k) :=
      fun k => TakeNumber_any a s.data.length c s.data s.taken least most (w.drewN k) (HR.out.keep ⟨rfl, rfl, rfl, Nat.le_refl _, fun _ _ => rfl⟩) htk htp
    obtain ⟨ts, tv, tl⟩ := tn_num (least := least) (most := most) HH.out hz
    have HTS : Hid (takeR (numR least most) s = { s with taken := (tn least most s.data s.taken).2.1, fault := (tn least most s.data s.taken).2.2 }) := by show _ = _; unfold takeR; rw [if_pos hz]; exact ts
    have HTV : Hid ((takeR (numR least most) s).fault = 0 → (tn least most s.data s.taken).1 = numV s) := by show _ → _; unfold takeR; rw [if_pos hz]; exact tv
    have HTX : Hid ((((tn least most s.data s.taken).1 : Nat) : Int) = okR (numR least most) s ((numV s : Nat) : Int) 0) := by
      show _ = _
      by_cases hf : (takeR (numR least most) s).fault = 0
      · rw [okR_yes hf, HTV.out hf]
      · rw [okR_no hf, tn_zero (by rw [HTS.out] at hf; exact hf)]; rfl
    have HTL := hide tl
    clear hz c2 ts tv tl
    go_enter Tryz.func70, Tryz.ntmps70
    go_wp2
    go_quiet ((go_at_call 127; exact (HTN.out _).mono (fun _ _ h => ⟨h.1, ⟨_, h.2⟩⟩)))
    generalize tn least most s.data s.taken = t at *
    go_wp2_with fail
    refine (went_any q s t.2.1 t.2.2 HTL.out (w.drewN nq) (HH.out.below ⟨rfl, rfl, rfl, Nat.le_refl _, fun _ _ => rfl⟩)).mono ?_
    rintro e w1 ⟨rfl, hq, hk⟩
    have HQ := hide hq
    have HK := hide hk
    clear hq hk
    go_wp2
    go_ret
    refine ⟨by rw [← HTX.out]; rfl, ?_, ?_⟩
    · rw [HTS.out]; exact HQ.out
    · exact (Keep.ofBelow (S := fun k => k = q) (a := w) (b := w.drewN nq) (B := w.heap.size) ⟨rfl, rfl, rfl, Nat.le_refl _, fun _ _ => rfl⟩ (Nat.le_refl _)).more HK.out
  · have hzz : (((s.fault : Nat) : Int) == 0) = false := by simpa using hz
    have HZ := hide hz
    clear hz
    go_enter Tryz.func70, Tryz.ntmps70
    go_wp2
    go_ret
    refine ⟨by rw [okR_no (by unfold takeR; rw [if_neg HZ.out]; exact HZ.out)]; rfl, ?_, Keep.refl _ _⟩
    unfold takeR; rw [if_neg HZ.out]; exact HH.out

theorem RTakeWordZ (q : Nat) (s : K.RS) (w : World) (h : Qr w q s) :
    Calls Tryz.prog 97 #[.pointer (some ⟨q, 0, none⟩)] w fun en w' => en = .returned (.int .u64 ((okR wordR s (wordV s) 0 : Nat) : Int)) ∧ Qr w' q (takeR wordR s) ∧ Keep (fun k => k = q) w w' := by
  obtain ⟨a, c, hb, hr, h0, hc, _⟩ := h.ex
  have c0 := cell0 hb
  have c1 := cell1 hb
  have c2 := cell2 hb
  have HH := hide h
  have HR := hide hr
  have htk := h.tak
  have htp := h.top
  have HTK := hide htk
  clear h hb hr h0
  by_cases hz : s.fault = 0
  · have c2' : w.cell? ⟨q, 2, none⟩ = some (.int .i64 0) := by rw [c2, hz]; rfl
    have HZ := hide hz
    have HTN : Hid (∀ k, Calls Tryz.prog 170 #[.slice a s.data.length c, .int .i64 (s.taken : Nat)] (w.drewN k) fun en w' => en = .returned (.tuple #[.int .u64 ((tw s.data s.taken).1 : Nat), .int .i64 ((tw s.data s.taken).2.1 : Nat), .int .i64 ((tw s.data s.taken).2.2 : Nat)]) ∧ w' = w.drewN k) :=
      fun k => TakeWord_any a s.data.length c s.data s.taken (w.drewN k) (HR.out.keep ⟨rfl, rfl, rfl, Nat.le_refl _, fun _ _ => rfl⟩) htk htp
    obtain ⟨ts, tv, tl⟩ := tw_word HH.out hz
    have HTS : Hid (takeR wordR s = { s with taken := (tw s.data s.taken).2.1, fault := (tw s.data s.taken).2.2 }) := by show _ = _; unfold takeR; rw [if_pos hz]; exact ts
    have HTV : Hid ((takeR wordR s).fault = 0 → (tw s.data s.taken).1 = wordV s) := by show _ → _; unfold takeR; rw [if_pos hz]; exact tv
    have HTX : Hid ((tw s.data s.taken).1 = okR wordR s (wordV s) 0) := by
      show _ = _
      by_cases hf : (takeR wordR s).fault = 0
      · rw [okR_yes hf, HTV.out hf]
      · rw [okR_no hf, tw_zero (by rw [HTS.out] at hf; exact hf)]
    have HTL := hide tl
    clear hz c2 ts tv tl
    go_enter Tryz.func97, Tryz.ntmps97
    go_wp2
    go_quiet ((go_at_call 170; exact (HTN.out _).mono (fun _ _ h => ⟨h.1, ⟨_, h.2⟩⟩)))
    generalize tw s.data s.taken = t at *
    go_wp2_with fail
    refine (went_any q s t.2.1 t.2.2 HTL.out (w.drewN nq) (HH.out.below ⟨rfl, rfl, rfl, Nat.le_refl _, fun _ _ => rfl⟩)).mono ?_
    rintro e w1 ⟨rfl, hq, hk⟩
    have HQ := hide hq
    have HK := hide hk
    clear hq hk
    go_wp2
    go_ret
    refine ⟨by rw [← HTX.out]; rfl, ?_, ?_⟩
    · rw [HTS.out]; exact HQ.out
    · exact (Keep.ofBelow (S := fun k => k = q) (a := w) (b := w.drewN nq) (B := w.heap.size) ⟨rfl, rfl, rfl, Nat.le_refl _, fun _ _ => rfl⟩ (Nat.le_refl _)).more HK.out
  · have hzz : (((s.fault : Nat) : Int) == 0) = false := by simpa using hz
    have HZ := hide hz
    clear hz
    go_enter Tryz.func97, Tryz.ntmps97
    go_wp2
    go_ret
    refine ⟨by rw [okR_no (by unfold takeR; rw [if_neg HZ.out]; exact HZ.out)]; rfl, ?_, Keep.refl _ _⟩
    unfold takeR; rw [if_neg HZ.out]; exact HH.out

theorem RTakeFlagZ (q : Nat) (s : K.RS) (w : World) (h : Qr w q s) :
    Calls Tryz.prog 98 #[.pointer (some ⟨q, 0, none⟩)] w fun en w' => en = .returned (.bool (okR flagR s (flagV s) false)) ∧ Qr w' q (takeR flagR s) ∧ Keep (fun k => k = q) w w' := by
  obtain ⟨a, c, hb, hr, h0, hc, _⟩ := h.ex
  have c0 := cell0 hb
  have c1 := cell1 hb
  have c2 := cell2 hb
  have HH := hide h
  have HR := hide hr
  have htk := h.tak
  have htp := h.top
  have HTK := hide htk
  clear h hb hr h0
  by_cases hz : s.fault = 0
  · have c2' : w.cell? ⟨q, 2, none⟩ = some (.int .i64 0) := by rw [c2, hz]; rfl
    have HZ := hide hz
    have HTN : Hid (∀ k, Calls Tryz.prog 171 #[.slice a s.data.length c, .int .i64 (s.taken : Nat)] (w.drewN k) fun en w' => en = .returned (.tuple #[.bool (tf s.data s.taken).1, .int .i64 ((tf s.data s.taken).2.1 : Nat), .int .i64 ((tf s.data s.taken).2.2 : Nat)]) ∧ w' = w.drewN k) :=
      fun k => TakeFlag_any a s.data.length c s.data s.taken (w.drewN k) (HR.out.keep ⟨rfl, rfl, rfl, Nat.le_refl _, fun _ _ => rfl⟩) htk htp
    obtain ⟨ts, tv, tl⟩ := tf_flag HH.out hz
    have HTS : Hid (takeR flagR s = { s with taken := (tf s.data s.taken).2.1, fault := (tf s.data s.taken).2.2 }) := by show _ = _; unfold takeR; rw [if_pos hz]; exact ts
    have HTV : Hid ((takeR flagR s).fault = 0 → (tf s.data s.taken).1 = flagV s) := by show _ → _; unfold takeR; rw [if_pos hz]; exact tv
    have HTX : Hid ((tf s.data s.taken).1 = okR flagR s (flagV s) false) := by
      show _ = _
      by_cases hf : (takeR flagR s).fault = 0
      · rw [okR_yes hf, HTV.out hf]
      · rw [okR_no hf, tf_zero (by rw [HTS.out] at hf; exact hf)]
    have HTL := hide tl
    clear hz c2 ts tv tl
    go_enter Tryz.func98, Tryz.ntmps98
    go_wp2
    go_quiet ((go_at_call 171; exact (HTN.out _).mono (fun _ _ h => ⟨h.1, ⟨_, h.2⟩⟩)))
    generalize tf s.data s.taken = t at *
    go_wp2_with fail
    refine (went_any q s t.2.1 t.2.2 HTL.out (w.drewN nq) (HH.out.below ⟨rfl, rfl, rfl, Nat.le_refl _, fun _ _ => rfl⟩)).mono ?_
    rintro e w1 ⟨rfl, hq, hk⟩
    have HQ := hide hq
    have HK := hide hk
    clear hq hk
    go_wp2
    go_ret
    refine ⟨by rw [← HTX.out]; rfl, ?_, ?_⟩
    · rw [HTS.out]; exact HQ.out
    · exact (Keep.ofBelow (S := fun k => k = q) (a := w) (b := w.drewN nq) (B := w.heap.size) ⟨rfl, rfl, rfl, Nat.le_refl _, fun _ _ => rfl⟩ (Nat.le_refl _)).more HK.out
  · have hzz : (((s.fault : Nat) : Int) == 0) = false := by simpa using hz
    have HZ := hide hz
    clear hz
    go_enter Tryz.func98, Tryz.ntmps98
    go_wp2
    go_ret
    refine ⟨by rw [okR_no (by unfold takeR; rw [if_neg HZ.out]; exact HZ.out)]; rfl, ?_, Keep.refl _ _⟩
    unfold takeR; rw [if_neg HZ.out]; exact HH.out

set_option maxRecDepth 10000 in
set_option maxHeartbeats 1000000 in
theorem RBlobZ (q : Nat) (most : Int) (s : K.RS) (w : World) (h : Qr w q s) :
    Calls Tryz.prog 99 #[.pointer (some ⟨q, 0, none⟩), .int .i64 most] w fun en w' => ∃ (a : Option Addr) (n c : Nat), en = .returned (.slice a n c) ∧ Rd w' a n (okR (rowR most) s (rowV most s) []) ∧ Qr w' q (takeR (rowR most) s) ∧ Keep (fun k => k = q) w w' := by
  obtain ⟨a, c, hb, hr, h0, hc, _⟩ := h.ex
  have c0 := cell0 hb
  have c1 := cell1 hb
  have c2 := cell2 hb
  have HH := hide h
  have HR := hide hr
  have htk := h.tak
  have htp := h.top
  have H0 := hide h0
  have HC := hide hc
  clear h hb hr h0 hc
  by_cases hz : s.fault = 0
  · have c2' : w.cell? ⟨q, 2, none⟩ = some (.int .i64 0) := by rw [c2, hz]; rfl
    have TB : Hid (∀ W, Below w.heap.size w W → Calls Tryz.prog 172 #[.slice a s.data.length c, .int .i64 (s.taken : Nat), .int .i64 most] W fun en w' => ∃ a' c', en = .returned (.tuple #[.slice a' (tb most s.data s.taken).1.length c', .int .i64 ((tb most s.data s.taken).2.1 : Nat), .int .i64 ((tb most s.data s.taken).2.2 : Nat)]) ∧ Rd w' a' (tb most s.data s.taken).1.length (tb most s.data s.taken).1 ∧ (∀ b off, a' = some ⟨b, off, none⟩ → W.heap.size ≤ b) ∧ Below W.heap.size W w') :=
      fun W k => TakeBlob_any a s.data.length c s.data s.taken most W (HR.out.keep k) H0.out HC.out htk htp
    obtain ⟨ts, tv, tl⟩ := tb_row most HH.out hz
    have HTS : Hid (takeR (rowR most) s = { s with taken := (tb most s.data s.taken).2.1, fault := (tb most s.data s.taken).2.2 }) := by show _ = _; unfold takeR; rw [if_pos hz]; exact ts
    have HTV : Hid ((takeR (rowR most) s).fault = 0 → (tb most s.data s.taken).1 = rowV most s) := by show _ → _; unfold takeR; rw [if_pos hz]; exact tv
    have HTX : Hid ((tb most s.data s.taken).1 = okR (rowR most) s (rowV most s) []) := by
      show _ = _
      by_cases hf : (takeR (rowR most) s).fault = 0
      · rw [okR_yes hf, HTV.out hf]
      · rw [okR_no hf, tb_zero (by rw [HTS.out] at hf; exact hf)]
    have HTL := hide tl
    have HS : Hid (∀ W, Below w.heap.size w W → W.cell? ⟨q, 0, none⟩ = some (.slice a s.data.length c) ∧ W.cell? ⟨q, 1, none⟩ = some (.int .i64 (s.taken : Nat)) ∧ Below w.heap.size w W) := fun W k => ⟨(k.cell (p := ⟨q, 0, none⟩) (World.block_lt_of_cell? _ _ c0)).trans c0, (k.cell (p := ⟨q, 1, none⟩) (World.block_lt_of_cell? _ _ c1)).trans c1, k⟩
    clear hz c2 ts tv tl
    generalize tb most s.data s.taken = t at *
    obtain ⟨t1, t2, t3⟩ := t
    simp only at TB HTS HTV HTL HTX
    generalize hn1 : t1.length = n1 at *
    go_enter Tryz.func99, Tryz.ntmps99
    go_wp2_with fail
    go_region_held3 (fun W => W.cell? ⟨q, 0, none⟩ = some (.slice a s.data.length c) ∧ W.cell? ⟨q, 1, none⟩ = some (.int .i64 (s.taken : Nat)) ∧ Below w.heap.size w W) (first | (exact HS.out _ (Below.refl _ _)) | (exact HS.out _ (Below.refl _ _).drew) | (exact HS.out _ HK9.out) | go_keep) (first
      | (go_at_call 172; have hh8 := (‹_ ∧ _ ∧ Below w.heap.size w _›).2.2; refine (TB.out _ hh8).mono ?_; rintro e w9 ⟨a', c', rfl, r9, n9, b9⟩; have HK9 : Hid (Below w.heap.size w w9) := hh8.trans (b9.mono hh8.size); have HR9 := hide r9; have HN9 : Hid (∀ b off, a' = some ⟨b, off, none⟩ → w.heap.size ≤ b) := (fun b off e => Nat.le_trans hh8.size (n9 b off e)); clear hh8 b9 r9 n9))
    have HK := hide HK9.out
    clear HK9 c0 c1 c2' HS TB
    go_wp2_with fail
    refine (went_any q s t2 t3 HTL.out _ (HH.out.below HK.out)).mono ?_
    rintro e w1 ⟨rfl, hq, hk⟩
    have HQ := hide hq
    have HK1 := hide hk
    clear hq hk
    go_wp2
    go_ret
    refine ⟨a', n1, c', rfl, ?_, ?_, (Keep.ofBelow (S := fun k => k = q) HK.out (Nat.le_refl _)).more HK1.out⟩
    · rw [← HTX.out]
      exact HR9.out.stay HK1.out (fun b off e hb => by have h1 := HN9.out b off e; have h2 := HH.out.lt; omega)
    · rw [HTS.out]; exact HQ.out
  · have hzz : (((s.fault : Nat) : Int) == 0) = false := by simpa using hz
    have hzn : (((s.fault : Nat) : Int) != 0) = true := by simpa using hz
    have HZ := hide hz
    clear hz
    go_enter Tryz.func99, Tryz.ntmps99
    go_wp2
    go_ret
    refine ⟨none, 0, 0, rfl, by rw [okR_no (by unfold takeR; rw [if_neg HZ.out]; exact HZ.out)]; exact rd_nil _, ?_, Keep.refl _ _⟩
    unfold takeR; rw [if_neg HZ.out]; exact HH.out
theorem RTextZ (q : Nat) (most : Int) (s : K.RS) (w : World) (h : Qr w q s) :
    Calls Tryz.prog 71 #[.pointer (some ⟨q, 0, none⟩), .int .i64 most] w fun en w' => en = .returned (.string (str (okR (rowR most) s (rowV most s) []))) ∧ Qr w' q (takeR (rowR most) s) ∧ Keep (fun k => k = q) w w' := by
  have RB := hide (RBlobZ q most s w h)
  clear h
  go_enter Tryz.func71, Tryz.ntmps71
  go_wp2_with fail
  refine RB.out.mono ?_
  rintro e w1 ⟨a, n, c, rfl, hr, hq, hk⟩
  have hcv := conv_rd hr c
  have HQ := hide hq
  have HK := hide hk
  clear hr hq hk
  go_wp2
  go_ret
  exact ⟨rfl, HQ.out, HK.out⟩
end Wm
end Go.Proofs.YtoelgcagahmndaaGreat

/- The document's TakeHead, and its reader's Head (written by hd_gen.py). -/
namespace Go.Proofs.YtoelgcagahmndaaGreat
namespace Wm
open Go.RowKit Go.Deep

/-- what TakeHead answers -/
def th (most : Int) (l : List Nat) (at_ : Nat) : Nat × Nat × Nat := match cnt (min most 16777216) (l.drop at_) with
  | .error e => (0, at_, e)
  | .ok (n, z) => (n, at_ + z, 0)
def headR (most : Int) (s : K.RS) : K.RS := match cnt (min most 16777216) (rest s) with
  | .error e => s.fail e
  | .ok (_, z) => s.go z
def headV (most : Int) (s : K.RS) : Nat := match cnt (min most 16777216) (rest s) with
  | .error _ => 0
  | .ok (n, _) => n
theorem th_zero {most : Int} {l : List Nat} {a : Nat} (h : (th most l a).2.2 ≠ 0) : (th most l a).1 = 0 := by
  unfold th at h ⊢
  cases hp : cnt (min most 16777216) (l.drop a) with
  | error e => rfl
  | ok r => rw [hp] at h; exact absurd rfl h
theorem th_head {w : World} {q : Nat} {s : K.RS} (most : Int) (h : Qr w q s) (hz : s.fault = 0) :
    headR most s = { s with taken := (th most s.data s.taken).2.1, fault := (th most s.data s.taken).2.2 } ∧ ((headR most s).fault = 0 → (th most s.data s.taken).1 = headV most s) ∧ (th most s.data s.taken).2.1 ≤ s.data.length := by
  have ht := h.tak
  have hl := rest_len s
  unfold headR headV th
  have hrw : s.data.drop s.taken = rest s := rfl
  rw [hrw]
  cases hp : cnt (min most 16777216) (rest s) with
  | error e =>
    refine ⟨?_, fun h0 => absurd h0 (fail_ne hz (cnt_err hp)), ht⟩
    show s.fail e = _
    unfold K.RS.fail
    rw [if_pos hz]
  | ok r =>
    obtain ⟨n, z⟩ := r
    obtain ⟨_, _, h3⟩ := cnt_ok hp
    refine ⟨?_, fun _ => rfl, by show s.taken + z ≤ _; omega⟩
    show s.go z = _
    unfold K.RS.go
    rw [← hz]
set_option maxRecDepth 10000 in
set_option maxHeartbeats 1000000 in
theorem TakeHead_any (a : Option Addr) (n c : Nat) (l : List Nat) (at_ : Nat) (most : Int) (w : World) (h : Rd w a n l) (ha : at_ ≤ n) (hn : n ≤ 16777216) :
    Calls Tryz.prog 68 #[.slice a n c, .int .i64 (at_ : Nat), .int .i64 most] w fun en w' => en = .returned (.tuple #[.int .i64 ((th most l at_).1 : Nat), .int .i64 ((th most l at_).2.1 : Nat), .int .i64 ((th most l at_).2.2 : Nat)]) ∧ w' = w := by
  have hl := h.1
  have TN := hide (TakeNumber_any a n c l at_ 0 9223372036854775807 w h ha hn)
  have HB : Hid (th most l at_ = match cnt (min most 16777216) (l.drop at_) with | .error e => (0, at_, e) | .ok (n, z) => (n, at_ + z, 0)) := rfl
  cases hp : K.pk (l.drop at_) with
  | error e =>
    have he := pk_err hp
    have hT : tn 0 9223372036854775807 l at_ = (0, at_, e) := by unfold tn; rw [hp]
    have hb := HB.out
    unfold cnt at hb
    rw [hp] at hb
    simp only at hb
    rw [hb]
    rw [hT] at TN
    have hne : ((e : Int) != 0) = true := by simp; omega
    clear hp hT hb HB h he hl
    go_enter Tryz.func68, Tryz.ntmps68
    go_wp2_with (go_at_call 127; refine TN.out.mono ?_; rintro en w1 ⟨rfl, rfl⟩)
    go_ret3
    exact ⟨rfl, rfl⟩
  | ok r =>
    obtain ⟨k, z⟩ := r
    obtain ⟨z1, z2, z3, _, k5⟩ := K.pk_ok (fun d hd => h.2.2.1 d (List.mem_of_mem_drop hd)) hp
    rw [List.length_drop] at z3
    have hT : tn 0 9223372036854775807 l at_ = (k, at_ + z, 0) := by unfold tn; rw [hp]; simp only; rw [if_neg (by omega)]
    have hb := HB.out
    unfold cnt at hb
    rw [hp] at hb
    simp only at hb
    rw [hT] at TN
    simp only at TN
    obtain ⟨t, ht⟩ : ∃ t, at_ + z = t := ⟨_, rfl⟩
    rw [ht] at TN
    have htn : t ≤ n := by omega
    clear hp hT HB h
    by_cases c1 : min most 16777216 < (k : Int)
    · rw [if_pos c1] at hb
      simp only at hb
      rw [hb]
      by_cases c0 : most < (k : Int)
      · clear hb hl z1 z2 z3 ht k5 c1
        go_enter Tryz.func68, Tryz.ntmps68
        go_wp2_with (go_at_call 127; refine TN.out.mono ?_; rintro en w1 ⟨rfl, rfl⟩)
        go_ret3
        exact ⟨rfl, rfl⟩
      · have c3 : (16777216 : Int) < (k : Int) := by omega
        clear hb hl z1 z2 z3 ht k5 c1
        go_enter Tryz.func68, Tryz.ntmps68
        go_wp2_with (go_at_call 127; refine TN.out.mono ?_; rintro en w1 ⟨rfl, rfl⟩)
        go_ret3
        exact ⟨rfl, rfl⟩
    · rw [if_neg c1] at hb
      have c0 : ¬ most < (k : Int) := by omega
      have c3 : ¬ (16777216 : Int) < (k : Int) := by omega
      by_cases c2 : (l.drop at_).length < z + k
      · rw [if_pos c2] at hb
        simp only at hb
        rw [hb]
        have c2' : (n : Int) - t < k := by rw [List.length_drop] at c2; omega
        clear hb c2 hl z1 z2 z3 ht k5 c1
        go_enter Tryz.func68, Tryz.ntmps68
        go_wp2_with (go_at_call 127; refine TN.out.mono ?_; rintro en w1 ⟨rfl, rfl⟩)
        go_ret3
        exact ⟨rfl, rfl⟩
      · rw [if_neg c2] at hb
        simp only at hb
        have c2' : ¬ (n : Int) - t < k := by rw [List.length_drop] at c2; omega
        rw [hb]
        simp only
        rw [ht]
        clear hb c2 hl z1 z2 z3 ht k5 c1
        go_enter Tryz.func68, Tryz.ntmps68
        go_wp2_with (go_at_call 127; refine TN.out.mono ?_; rintro en w1 ⟨rfl, rfl⟩)
        go_ret3
        exact ⟨rfl, rfl⟩

theorem RHeadZ (q : Nat) (most : Int) (s : K.RS) (w : World) (h : Qr w q s) :
    Calls Tryz.prog 23 #[.pointer (some ⟨q, 0, none⟩), .int .i64 most] w fun en w' => en = .returned (.int .i64 (okR (headR most) s ((headV most s : Nat) : Int) 0)) ∧ Qr w' q (takeR (headR most) s) ∧ Keep (fun k => k = q) w w' := by
  obtain ⟨a, c, hb, hr, h0, hc, _⟩ := h.ex
  have c0 := cell0 hb
  have c1 := cell1 hb
  have c2 := cell2 hb
  have HH := hide h
  have HR := hide hr
  have htk := h.tak
  have htp := h.top
  have HTK := hide htk
  clear h hb hr h0
  by_cases hz : s.fault = 0
  · have c2' : w.cell? ⟨q, 2, none⟩ = some (.int .i64 0) := by rw [c2, hz]; rfl
    have HZ := hide hz
    have HTN : Hid (∀ k, Calls Tryz.prog 68 #[.slice a s.data.length c, .int .i64 (s.taken : Nat), .int .i64 most] (w.drewN k) fun en w' => en = .returned (.tuple #[.int .i64 ((th most s.data s.taken).1 : Nat), .int .i64 ((th most s.data s.taken).2.1 : Nat), .int .i64 ((th most s.data s.taken).2.2 : Nat)]) ∧ w' = w.drewN k) :=
      fun k => TakeHead_any a s.data.length c s.data s.taken most (w.drewN k) (HR.out.keep ⟨rfl, rfl, rfl, Nat.le_refl _, fun _ _ => rfl⟩) htk htp
    obtain ⟨ts, tv, tl⟩ := th_head most HH.out hz
    have HTS : Hid (takeR (headR most) s = { s with taken := (th most s.data s.taken).2.1, fault := (th most s.data s.taken).2.2 }) := by show _ = _; unfold takeR; rw [if_pos hz]; exact ts
    have HTV : Hid ((takeR (headR most) s).fault = 0 → (th most s.data s.taken).1 = headV most s) := by show _ → _; unfold takeR; rw [if_pos hz]; exact tv
    have HTX : Hid ((((th most s.data s.taken).1 : Nat) : Int) = okR (headR most) s ((headV most s : Nat) : Int) 0) := by
      show _ = _
      by_cases hf : (takeR (headR most) s).fault = 0
      · rw [okR_yes hf, HTV.out hf]
      · rw [okR_no hf, th_zero (by rw [HTS.out] at hf; exact hf)]; rfl
    have HTL := hide tl
    clear hz c2 ts tv tl
    go_enter Tryz.func23, Tryz.ntmps23
    go_wp2
    go_quiet ((go_at_call 68; exact (HTN.out _).mono (fun _ _ h => ⟨h.1, ⟨_, h.2⟩⟩)))
    generalize th most s.data s.taken = t at *
    go_wp2_with fail
    refine (went_any q s t.2.1 t.2.2 HTL.out (w.drewN nq) (HH.out.below ⟨rfl, rfl, rfl, Nat.le_refl _, fun _ _ => rfl⟩)).mono ?_
    rintro e w1 ⟨rfl, hq, hk⟩
    have HQ := hide hq
    have HK := hide hk
    clear hq hk
    go_wp2
    go_ret
    refine ⟨by rw [← HTX.out]; rfl, ?_, ?_⟩
    · rw [HTS.out]; exact HQ.out
    · exact (Keep.ofBelow (S := fun k => k = q) (a := w) (b := w.drewN nq) (B := w.heap.size) ⟨rfl, rfl, rfl, Nat.le_refl _, fun _ _ => rfl⟩ (Nat.le_refl _)).more HK.out
  · have hzz : (((s.fault : Nat) : Int) == 0) = false := by simpa using hz
    have HZ := hide hz
    clear hz
    go_enter Tryz.func23, Tryz.ntmps23
    go_wp2
    go_ret
    refine ⟨by rw [okR_no (by unfold takeR; rw [if_neg HZ.out]; exact HZ.out)]; rfl, ?_, Keep.refl _ _⟩
    unfold takeR; rw [if_neg HZ.out]; exact HH.out

end Wm
end Go.Proofs.YtoelgcagahmndaaGreat

/- PackReads: the mathematics: the document's lists. -/
namespace Go.Proofs.YtoelgcagahmndaaGreat
namespace Wm
open Go.RowKit Go.Deep

/-- what takes a byte at least, or fails -/
def Gn (g : K.RS → K.RS) : Prop := ∀ s : K.RS, Byt s → s.fault = 0 → s.taken ≤ s.data.length → (g s).fault = 0 → s.taken < (g s).taken
theorem gn_rw {g : K.RS → K.RS} {W : K.RS → K.WS → K.WS} (h : RW g W) : Gn g := fun s h1 h2 h3 h4 => by
  obtain ⟨z, hz, _, e, _⟩ := h s h1 h2 h3 h4
  rw [e]
  show s.taken < s.taken + z
  omega
theorem gn_word : Gn wordR := fun s _ h2 _ h4 => by
  unfold wordR at h4 ⊢
  split
  · show s.taken < s.taken + 8; omega
  · rename_i h5; rw [if_neg h5] at h4; exact absurd h4 (fail_ne h2 (by decide))
theorem thing_take {g : K.RS → K.RS} (h : Gn g) {s : K.RS} (hb : Byt s) (ht : s.taken ≤ s.data.length) : thingR g s = takeR g s := by
  unfold thingR takeR
  by_cases hs : s.fault = 0
  · rw [if_pos hs, if_pos hs]
    by_cases hz : (g s).fault = 0
    · rw [if_neg (by have := h s hb hs ht hz; omega)]
    · split
      · unfold K.RS.fail; rw [if_neg hz]
      · rfl
  · rw [if_neg hs, if_neg hs]
theorem Qr.bytes {w : World} {q : Nat} {s : K.RS} (h : Qr w q s) : Byt s := by
  obtain ⟨a, c, _, hr, _⟩ := h.ex
  exact hr.2.2.1
theorem Qr.isR {w : World} {q : Nat} {s : K.RS} (h : Qr w q s) : IsR w q := by
  obtain ⟨a, c, h1, _⟩ := h.ex
  exact ⟨_, _, _, h1, by decide⟩
/-- a step of the document's loop -/
theorem all_step {g : K.RS → K.RS} (hg : Gn g) {w : World} {q : Nat} {s : K.RS} {k : Nat} (h : Qr w q (allR g k s)) : takeR g (allR g k s) = allR g (k + 1) s := (thing_take hg (Qr.bytes h) h.tak).symm
/-- how many things -/
def hdN (mo : Int) (s : K.RS) : Nat := okR (headR mo) s (headV mo s) 0
theorem list_all (mo : Int) (g : K.RS → K.RS) (s : K.RS) : takeR (listR (min mo 16777216) g) s = allR g (hdN mo s) (takeR (headR mo) s) := by
  unfold hdN okR
  by_cases hs : s.fault = 0
  · have e1 : takeR (listR (min mo 16777216) g) s = listR (min mo 16777216) g s := if_pos hs
    have e2 : takeR (headR mo) s = headR mo s := if_pos hs
    rw [e1, e2]
    unfold listR headR headV
    cases hp : cnt (min mo 16777216) (rest s) with
    | error e =>
      simp only
      split <;> rfl
    | ok r =>
      obtain ⟨n, z⟩ := r
      simp only
      rw [if_pos (show (s.go z).fault = 0 from hs)]
  · have e1 : takeR (listR (min mo 16777216) g) s = s := if_neg hs
    have e2 : takeR (headR mo) s = s := if_neg hs
    rw [e1, e2, if_neg hs]
    rfl
theorem list_vals {α : Type} (mo : Int) (g : K.RS → K.RS) (val : K.RS → α) (s : K.RS) (hz : (takeR (listR (min mo 16777216) g) s).fault = 0) : listVal (min mo 16777216) g val s = valsOf g val (hdN mo s) (takeR (headR mo) s) := by
  have hs : s.fault = 0 := by
    by_cases hs : s.fault = 0
    · exact hs
    · have e1 : takeR (listR (min mo 16777216) g) s = s := if_neg hs
      rw [e1] at hz; exact hz
  unfold hdN okR
  have e1 : takeR (listR (min mo 16777216) g) s = listR (min mo 16777216) g s := if_pos hs
  have e2 : takeR (headR mo) s = headR mo s := if_pos hs
  rw [e1] at hz
  rw [e2]
  unfold listR at hz
  unfold listVal headR headV
  cases hp : cnt (min mo 16777216) (rest s) with
  | error e => rw [hp] at hz; exact absurd hz (fail_ne hs (cnt_err hp))
  | ok r =>
    obtain ⟨n, z⟩ := r
    simp only
    rw [if_pos (show (s.go z).fault = 0 from hs)]
theorem hd_le (mo : Int) (s : K.RS) : hdN mo s ≤ s.data.length := by
  unfold hdN okR
  split
  · unfold headV
    split
    · exact Nat.zero_le _
    · rename_i n z hp
      have := (cnt_ok hp).2.2
      have := rest_le s
      omega
  · exact Nat.zero_le _
theorem vals_succ {α : Type} (g : K.RS → K.RS) (val : K.RS → α) (k : Nat) (s : K.RS) : valsOf g val (k + 1) s = valsOf g val k s ++ [val (allR g k s)] := by
  unfold valsOf
  rw [List.range_succ, List.map_append]
  rfl
theorem all_ok {g : K.RS → K.RS} {s : K.RS} {k : Nat} (h : (allR g (k + 1) s).fault = 0) : (allR g k s).fault = 0 := by
  by_cases hz : (allR g k s).fault = 0
  · exact hz
  · have := allR_stick g s k hz (k + 1) (by omega)
    rw [this] at h
    exact h
/-- what stands in the list behind k rounds -/
def Lst {α : Type} (g : K.RS → K.RS) (val : K.RS → α) (k : Nat) (s : K.RS) (ys : List α) : Prop := ys.length = k ∧ ((allR g k s).fault = 0 → ys = valsOf g val k s)
theorem Lst.nil {α : Type} (g : K.RS → K.RS) (val : K.RS → α) (s : K.RS) : Lst g val 0 s [] := ⟨rfl, fun _ => rfl⟩
theorem Lst.step {α : Type} {g : K.RS → K.RS} {val : K.RS → α} {k : Nat} {s : K.RS} {ys : List α} {y : α} (h : Lst g val k s ys) (he : takeR g (allR g k s) = allR g (k + 1) s) (hy : (takeR g (allR g k s)).fault = 0 → y = val (allR g k s)) : Lst g val (k + 1) s (ys ++ [y]) := by
  refine ⟨by rw [List.length_append, h.1]; rfl, fun hz => ?_⟩
  rw [vals_succ, h.2 (all_ok hz), hy (by rw [he]; exact hz)]
/-- behind the loop -/
theorem Lst.done {α : Type} {g : K.RS → K.RS} {val : K.RS → α} {k n : Nat} {s : K.RS} {ys : List α} (h : Lst g val k s ys) (hk : k ≤ n) (hx : k = n ∨ (allR g k s).fault ≠ 0) : allR g n s = allR g k s ∧ ((allR g n s).fault = 0 → ys = valsOf g val n s) := by
  rcases hx with rfl | hx
  · exact ⟨rfl, h.2⟩
  · have e := allR_stick g s k hx n hk
    exact ⟨e, fun hz => absurd (by rw [e] at hz; exact hz) hx⟩
end Wm
end Go.Proofs.YtoelgcagahmndaaGreat
