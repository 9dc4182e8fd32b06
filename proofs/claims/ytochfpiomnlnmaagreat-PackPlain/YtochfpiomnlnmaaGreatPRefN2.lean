/- The document's reader: Word and Flag. -/
import Derived.Test.YtochfpiomnlnmaaGreatPRefN
import Derived.Test.YtochfpiomnlnmaaGreatPRefR2
import Derived.Test.YtochfpiomnlnmaaGreatPFlag
namespace Go.Proofs.YtochfpiomnlnmaaGreat
open Go.RowKit

theorem wval_take (l : List Nat) : ∀ k, k ≤ 8 → wval (l.take 8) k = wval l k
  | 0, _ => rfl
  | k + 1, h => by
    show wval (l.take 8) k + (l.take 8).getD k 0 * 256 ^ k = wval l k + l.getD k 0 * 256 ^ k
    rw [wval_take l k (by omega), List.getD_eq_getElem?_getD, List.getD_eq_getElem?_getD, List.getElem?_take, if_pos (by omega)]

theorem tw_word {w : World} {q : Nat} {s : K.RS} (h : Qr w q s) (hz : s.fault = 0) :
    wordR s = { s with taken := (tw s.data s.taken).2.1, fault := (tw s.data s.taken).2.2 } ∧ ((wordR s).fault = 0 → (tw s.data s.taken).1 = wordV s) ∧ (tw s.data s.taken).2.1 ≤ s.data.length := by
  have ht := h.tak
  have hl := rest_len s
  unfold wordR tw
  by_cases hp : 8 ≤ (rest s).length
  · rw [if_pos hp, if_neg (show ¬ s.data.length < s.taken + 8 by omega)]
    refine ⟨?_, fun _ => ?_, by show s.taken + 8 ≤ _; omega⟩
    · unfold K.RS.go
      rw [← hz]
    · unfold wordV
      rw [wval_take _ 8 (Nat.le_refl _)]
      rfl
  · rw [if_neg hp, if_pos (show s.data.length < s.taken + 8 by omega)]
    refine ⟨?_, fun h0 => absurd h0 (fail_ne hz (by decide)), ht⟩
    unfold K.RS.fail
    rw [if_pos hz]

theorem tf_flag {w : World} {q : Nat} {s : K.RS} (h : Qr w q s) (hz : s.fault = 0) :
    flagR s = { s with taken := (tf s.data s.taken).2.1, fault := (tf s.data s.taken).2.2 } ∧ ((flagR s).fault = 0 → (tf s.data s.taken).1 = flagV s) ∧ (tf s.data s.taken).2.1 ≤ s.data.length := by
  have ht := h.tak
  have hl := rest_len s
  have hg : s.data.getD s.taken 0 = (rest s).getD 0 0 := by simp [rest, List.getD_eq_getElem?_getD, List.getElem?_drop]
  unfold flagR flagV tf
  rw [hg]
  cases hr : rest s with
  | nil =>
    rw [hr] at hl
    simp only [List.length_nil] at hl
    rw [if_pos (show s.data.length ≤ s.taken by omega)]
    refine ⟨?_, fun h0 => absurd h0 (fail_ne hz (by decide)), ht⟩
    show s.fail 21 = _
    unfold K.RS.fail
    rw [if_pos hz]
  | cons b r =>
    rw [hr] at hl
    simp only [List.length_cons] at hl
    rw [if_neg (show ¬ s.data.length ≤ s.taken by omega)]
    simp only [List.getD_cons_zero]
    by_cases hb : 1 < b
    · rw [if_pos hb, if_pos hb]
      refine ⟨?_, fun h0 => absurd h0 (fail_ne hz (by decide)), ht⟩
      unfold K.RS.fail
      rw [if_pos hz]
    · rw [if_neg hb, if_neg hb]
      refine ⟨?_, fun _ => rfl, by show s.taken + 1 ≤ _; omega⟩
      unfold K.RS.go
      rw [← hz]

theorem RTakeWord_any (q : Nat) (s : K.RS) (w : World) (h : Qr w q s) :
    Calls Tryz.prog 58 #[.pointer (some ⟨q, 0, none⟩)] w fun en w' => ∃ x : Nat, en = .returned (.int .u64 (x : Nat)) ∧ Qr w' q (takeR wordR s) ∧ Keep (fun k => k = q) w w' ∧ ((takeR wordR s).fault = 0 → x = wordV s) := by
  obtain ⟨a, c, hb, hr, h0, hc, _⟩ := h.ex
  have c0 := cell0 hb
  have c1 := cell1 hb
  have c2 := cell2 hb
  have HH := hide h
  have HR := hide hr
  have htk := h.tak
  have htp := h.top
  have HTK := hide htk
  clear h hb hr h0
  by_cases hz : s.fault = 0
  · have c2' : w.cell? ⟨q, 2, none⟩ = some (.int .i64 0) := by rw [c2, hz]; rfl
    have HZ := hide hz
    have HTN : Hid (∀ k, Calls Tryz.prog 91 #[.slice a s.data.length c, .int .i64 (s.taken : Nat)] (w.drewN k) fun en w' => en = .returned (.tuple #[.int .u64 ((tw s.data s.taken).1 : Nat), .int .i64 ((tw s.data s.taken).2.1 : Nat), .int .i64 ((tw s.data s.taken).2.2 : Nat)]) ∧ w' = w.drewN k) :=
      fun k => TakeWord_any a s.data.length c s.data s.taken (w.drewN k) (HR.out.keep ⟨rfl, rfl, rfl, Nat.le_refl _, fun _ _ => rfl⟩) htk htp
    obtain ⟨ts, tv, tl⟩ := tw_word HH.out hz
    have HTS : Hid (takeR wordR s = { s with taken := (tw s.data s.taken).2.1, fault := (tw s.data s.taken).2.2 }) := by show _ = _; unfold takeR; rw [if_pos hz]; exact ts
    have HTV : Hid ((takeR wordR s).fault = 0 → (tw s.data s.taken).1 = wordV s) := by show _ → _; unfold takeR; rw [if_pos hz]; exact tv
    have HTL := hide tl
    clear hz c2 ts tv tl
    go_enter Tryz.func58, Tryz.ntmps58
    go_wp2
    go_quiet ((go_at_call 91; exact (HTN.out _).mono (fun _ _ h => ⟨h.1, ⟨_, h.2⟩⟩)))
    generalize tw s.data s.taken = t at *
    go_wp2_with fail
    refine (went_any q s t.2.1 t.2.2 HTL.out (w.drewN nq) (HH.out.below ⟨rfl, rfl, rfl, Nat.le_refl _, fun _ _ => rfl⟩)).mono ?_
    rintro e w1 ⟨rfl, hq, hk⟩
    have HQ := hide hq
    have HK := hide hk
    clear hq hk
    go_wp2
    go_ret
    refine ⟨t.1, rfl, ?_, ?_, ?_⟩
    · rw [HTS.out]; exact HQ.out
    · exact (Keep.ofBelow (S := fun k => k = q) (a := w) (b := w.drewN nq) (B := w.heap.size) ⟨rfl, rfl, rfl, Nat.le_refl _, fun _ _ => rfl⟩ (Nat.le_refl _)).more HK.out
    · exact HTV.out
  · have hzz : (((s.fault : Nat) : Int) == 0) = false := by simpa using hz
    have HZ := hide hz
    clear hz
    go_enter Tryz.func58, Tryz.ntmps58
    go_wp2
    go_ret
    refine ⟨0, rfl, ?_, Keep.refl _ _, ?_⟩
    · unfold takeR; rw [if_neg HZ.out]; exact HH.out
    · unfold takeR; rw [if_neg HZ.out]; exact fun h => absurd h HZ.out

theorem RTakeFlag_any (q : Nat) (s : K.RS) (w : World) (h : Qr w q s) :
    Calls Tryz.prog 61 #[.pointer (some ⟨q, 0, none⟩)] w fun en w' => ∃ x : Bool, en = .returned (.bool x) ∧ Qr w' q (takeR flagR s) ∧ Keep (fun k => k = q) w w' ∧ ((takeR flagR s).fault = 0 → x = flagV s) := by
  obtain ⟨a, c, hb, hr, h0, hc, _⟩ := h.ex
  have c0 := cell0 hb
  have c1 := cell1 hb
  have c2 := cell2 hb
  have HH := hide h
  have HR := hide hr
  have htk := h.tak
  have htp := h.top
  have HTK := hide htk
  clear h hb hr h0
  by_cases hz : s.fault = 0
  · have c2' : w.cell? ⟨q, 2, none⟩ = some (.int .i64 0) := by rw [c2, hz]; rfl
    have HZ := hide hz
    have HTN : Hid (∀ k, Calls Tryz.prog 94 #[.slice a s.data.length c, .int .i64 (s.taken : Nat)] (w.drewN k) fun en w' => en = .returned (.tuple #[.bool (tf s.data s.taken).1, .int .i64 ((tf s.data s.taken).2.1 : Nat), .int .i64 ((tf s.data s.taken).2.2 : Nat)]) ∧ w' = w.drewN k) :=
      fun k => TakeFlag_any a s.data.length c s.data s.taken (w.drewN k) (HR.out.keep ⟨rfl, rfl, rfl, Nat.le_refl _, fun _ _ => rfl⟩) htk htp
    obtain ⟨ts, tv, tl⟩ := tf_flag HH.out hz
    have HTS : Hid (takeR flagR s = { s with taken := (tf s.data s.taken).2.1, fault := (tf s.data s.taken).2.2 }) := by show _ = _; unfold takeR; rw [if_pos hz]; exact ts
    have HTV : Hid ((takeR flagR s).fault = 0 → (tf s.data s.taken).1 = flagV s) := by show _ → _; unfold takeR; rw [if_pos hz]; exact tv
    have HTL := hide tl
    clear hz c2 ts tv tl
    go_enter Tryz.func61, Tryz.ntmps61
    go_wp2
    go_quiet ((go_at_call 94; exact (HTN.out _).mono (fun _ _ h => ⟨h.1, ⟨_, h.2⟩⟩)))
    generalize tf s.data s.taken = t at *
    go_wp2_with fail
    refine (went_any q s t.2.1 t.2.2 HTL.out (w.drewN nq) (HH.out.below ⟨rfl, rfl, rfl, Nat.le_refl _, fun _ _ => rfl⟩)).mono ?_
    rintro e w1 ⟨rfl, hq, hk⟩
    have HQ := hide hq
    have HK := hide hk
    clear hq hk
    go_wp2
    go_ret
    refine ⟨t.1, rfl, ?_, ?_, ?_⟩
    · rw [HTS.out]; exact HQ.out
    · exact (Keep.ofBelow (S := fun k => k = q) (a := w) (b := w.drewN nq) (B := w.heap.size) ⟨rfl, rfl, rfl, Nat.le_refl _, fun _ _ => rfl⟩ (Nat.le_refl _)).more HK.out
    · exact HTV.out
  · have hzz : (((s.fault : Nat) : Int) == 0) = false := by simpa using hz
    have HZ := hide hz
    clear hz
    go_enter Tryz.func61, Tryz.ntmps61
    go_wp2
    go_ret
    refine ⟨false, rfl, ?_, Keep.refl _ _, ?_⟩
    · unfold takeR; rw [if_neg HZ.out]; exact HH.out
    · unfold takeR; rw [if_neg HZ.out]; exact fun h => absurd h HZ.out

end Go.Proofs.YtochfpiomnlnmaaGreat
