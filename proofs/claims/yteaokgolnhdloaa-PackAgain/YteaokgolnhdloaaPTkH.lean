/- The document's TakeHead, and its reader's Head (written by hd_gen.py). -/
import Derived.Test.YteaokgolnhdloaaPRzB
namespace Go.Proofs.Yteaokgolnhdloaa
namespace Wm
open Go.RowKit Go.Deep

/-- what TakeHead answers -/
def th (most : Int) (l : List Nat) (at_ : Nat) : Nat × Nat × Nat := match cnt (min most 16777216) (l.drop at_) with
  | .error e => (0, at_, e)
  | .ok (n, z) => (n, at_ + z, 0)
def headR (most : Int) (s : K.RS) : K.RS := match cnt (min most 16777216) (rest s) with
  | .error e => s.fail e
  | .ok (_, z) => s.go z
def headV (most : Int) (s : K.RS) : Nat := match cnt (min most 16777216) (rest s) with
  | .error _ => 0
  | .ok (n, _) => n
theorem th_zero {most : Int} {l : List Nat} {a : Nat} (h : (th most l a).2.2 ≠ 0) : (th most l a).1 = 0 := by
  unfold th at h ⊢
  cases hp : cnt (min most 16777216) (l.drop a) with
  | error e => rfl
  | ok r => rw [hp] at h; exact absurd rfl h
theorem th_head {w : World} {q : Nat} {s : K.RS} (most : Int) (h : Qr w q s) (hz : s.fault = 0) :
    headR most s = { s with taken := (th most s.data s.taken).2.1, fault := (th most s.data s.taken).2.2 } ∧ ((headR most s).fault = 0 → (th most s.data s.taken).1 = headV most s) ∧ (th most s.data s.taken).2.1 ≤ s.data.length := by
  have ht := h.tak
  have hl := rest_len s
  unfold headR headV th
  have hrw : s.data.drop s.taken = rest s := rfl
  rw [hrw]
  cases hp : cnt (min most 16777216) (rest s) with
  | error e =>
    refine ⟨?_, fun h0 => absurd h0 (fail_ne hz (cnt_err hp)), ht⟩
    show s.fail e = _
    unfold K.RS.fail
    rw [if_pos hz]
  | ok r =>
    obtain ⟨n, z⟩ := r
    obtain ⟨_, _, h3⟩ := cnt_ok hp
    refine ⟨?_, fun _ => rfl, by show s.taken + z ≤ _; omega⟩
    show s.go z = _
    unfold K.RS.go
    rw [← hz]
set_option maxRecDepth 10000 in
set_option maxHeartbeats 1000000 in
theorem TakeHead_any (a : Option Addr) (n c : Nat) (l : List Nat) (at_ : Nat) (most : Int) (w : World) (h : Rd w a n l) (ha : at_ ≤ n) (hn : n ≤ 16777216) :
    Calls Try.prog 53 #[.slice a n c, .int .i64 (at_ : Nat), .int .i64 most] w fun en w' => en = .returned (.tuple #[.int .i64 ((th most l at_).1 : Nat), .int .i64 ((th most l at_).2.1 : Nat), .int .i64 ((th most l at_).2.2 : Nat)]) ∧ w' = w := by
  have hl := h.1
  have TN := hide (TakeNumber_any a n c l at_ 0 9223372036854775807 w h ha hn)
  have HB : Hid (th most l at_ = match cnt (min most 16777216) (l.drop at_) with | .error e => (0, at_, e) | .ok (n, z) => (n, at_ + z, 0)) := rfl
  cases hp : K.pk (l.drop at_) with
  | error e =>
    have he := pk_err hp
    have hT : tn 0 9223372036854775807 l at_ = (0, at_, e) := by unfold tn; rw [hp]
    have hb := HB.out
    unfold cnt at hb
    rw [hp] at hb
    simp only at hb
    rw [hb]
    rw [hT] at TN
    have hne : ((e : Int) != 0) = true := by simp; omega
    clear hp hT hb HB h he hl
    go_enter Try.func53, Try.ntmps53
    go_wp2_with (go_at_call 89; refine TN.out.mono ?_; rintro en w1 ⟨rfl, rfl⟩)
    go_ret3
    exact ⟨rfl, rfl⟩
  | ok r =>
    obtain ⟨k, z⟩ := r
    obtain ⟨z1, z2, z3, _, k5⟩ := K.pk_ok (fun d hd => h.2.2.1 d (List.mem_of_mem_drop hd)) hp
    rw [List.length_drop] at z3
    have hT : tn 0 9223372036854775807 l at_ = (k, at_ + z, 0) := by unfold tn; rw [hp]; simp only; rw [if_neg (by omega)]
    have hb := HB.out
    unfold cnt at hb
    rw [hp] at hb
    simp only at hb
    rw [hT] at TN
    simp only at TN
    obtain ⟨t, ht⟩ : ∃ t, at_ + z = t := ⟨_, rfl⟩
    rw [ht] at TN
    have htn : t ≤ n := by omega
    clear hp hT HB h
    by_cases c1 : min most 16777216 < (k : Int)
    · rw [if_pos c1] at hb
      simp only at hb
      rw [hb]
      by_cases c0 : most < (k : Int)
      · clear hb hl z1 z2 z3 ht k5 c1
        go_enter Try.func53, Try.ntmps53
        go_wp2_with (go_at_call 89; refine TN.out.mono ?_; rintro en w1 ⟨rfl, rfl⟩)
        go_ret3
        exact ⟨rfl, rfl⟩
      · have c3 : (16777216 : Int) < (k : Int) := by omega
        clear hb hl z1 z2 z3 ht k5 c1
        go_enter Try.func53, Try.ntmps53
        go_wp2_with (go_at_call 89; refine TN.out.mono ?_; rintro en w1 ⟨rfl, rfl⟩)
        go_ret3
        exact ⟨rfl, rfl⟩
    · rw [if_neg c1] at hb
      have c0 : ¬ most < (k : Int) := by omega
      have c3 : ¬ (16777216 : Int) < (k : Int) := by omega
      by_cases c2 : (l.drop at_).length < z + k
      · rw [if_pos c2] at hb
        simp only at hb
        rw [hb]
        have c2' : (n : Int) - t < k := by rw [List.length_drop] at c2; omega
        clear hb c2 hl z1 z2 z3 ht k5 c1
        go_enter Try.func53, Try.ntmps53
        go_wp2_with (go_at_call 89; refine TN.out.mono ?_; rintro en w1 ⟨rfl, rfl⟩)
        go_ret3
        exact ⟨rfl, rfl⟩
      · rw [if_neg c2] at hb
        simp only at hb
        have c2' : ¬ (n : Int) - t < k := by rw [List.length_drop] at c2; omega
        rw [hb]
        simp only
        rw [ht]
        clear hb c2 hl z1 z2 z3 ht k5 c1
        go_enter Try.func53, Try.ntmps53
        go_wp2_with (go_at_call 89; refine TN.out.mono ?_; rintro en w1 ⟨rfl, rfl⟩)
        go_ret3
        exact ⟨rfl, rfl⟩

theorem RHeadZ (q : Nat) (most : Int) (s : K.RS) (w : World) (h : Qr w q s) :
    Calls Try.prog 12 #[.pointer (some ⟨q, 0, none⟩), .int .i64 most] w fun en w' => en = .returned (.int .i64 (okR (headR most) s ((headV most s : Nat) : Int) 0)) ∧ Qr w' q (takeR (headR most) s) ∧ Keep (fun k => k = q) w w' := by
  obtain ⟨a, c, hb, hr, h0, hc, _⟩ := h.ex
  have c0 := cell0 hb
  have c1 := cell1 hb
  have c2 := cell2 hb
  have HH := hide h
  have HR := hide hr
  have htk := h.tak
  have htp := h.top
  have HTK := hide htk
  clear h hb hr h0
  by_cases hz : s.fault = 0
  · have c2' : w.cell? ⟨q, 2, none⟩ = some (.int .i64 0) := by rw [c2, hz]; rfl
    have HZ := hide hz
    have HTN : Hid (∀ k, Calls Try.prog 53 #[.slice a s.data.length c, .int .i64 (s.taken : Nat), .int .i64 most] (w.drewN k) fun en w' => en = .returned (.tuple #[.int .i64 ((th most s.data s.taken).1 : Nat), .int .i64 ((th most s.data s.taken).2.1 : Nat), .int .i64 ((th most s.data s.taken).2.2 : Nat)]) ∧ w' = w.drewN k) :=
      fun k => TakeHead_any a s.data.length c s.data s.taken most (w.drewN k) (HR.out.keep ⟨rfl, rfl, rfl, Nat.le_refl _, fun _ _ => rfl⟩) htk htp
    obtain ⟨ts, tv, tl⟩ := th_head most HH.out hz
    have HTS : Hid (takeR (headR most) s = { s with taken := (th most s.data s.taken).2.1, fault := (th most s.data s.taken).2.2 }) := by show _ = _; unfold takeR; rw [if_pos hz]; exact ts
    have HTV : Hid ((takeR (headR most) s).fault = 0 → (th most s.data s.taken).1 = headV most s) := by show _ → _; unfold takeR; rw [if_pos hz]; exact tv
    have HTX : Hid ((((th most s.data s.taken).1 : Nat) : Int) = okR (headR most) s ((headV most s : Nat) : Int) 0) := by
      show _ = _
      by_cases hf : (takeR (headR most) s).fault = 0
      · rw [okR_yes hf, HTV.out hf]
      · rw [okR_no hf, th_zero (by rw [HTS.out] at hf; exact hf)]; rfl
    have HTL := hide tl
    clear hz c2 ts tv tl
    go_enter Try.func12, Try.ntmps12
    go_wp2
    go_quiet ((go_at_call 53; exact (HTN.out _).mono (fun _ _ h => ⟨h.1, ⟨_, h.2⟩⟩)))
    generalize th most s.data s.taken = t at *
    go_wp2_with fail
    refine (went_any q s t.2.1 t.2.2 HTL.out (w.drewN nq) (HH.out.below ⟨rfl, rfl, rfl, Nat.le_refl _, fun _ _ => rfl⟩)).mono ?_
    rintro e w1 ⟨rfl, hq, hk⟩
    have HQ := hide hq
    have HK := hide hk
    clear hq hk
    go_wp2
    go_ret
    refine ⟨by rw [← HTX.out]; rfl, ?_, ?_⟩
    · rw [HTS.out]; exact HQ.out
    · exact (Keep.ofBelow (S := fun k => k = q) (a := w) (b := w.drewN nq) (B := w.heap.size) ⟨rfl, rfl, rfl, Nat.le_refl _, fun _ _ => rfl⟩ (Nat.le_refl _)).more HK.out
  · have hzz : (((s.fault : Nat) : Int) == 0) = false := by simpa using hz
    have HZ := hide hz
    clear hz
    go_enter Try.func12, Try.ntmps12
    go_wp2
    go_ret
    refine ⟨by rw [okR_no (by unfold takeR; rw [if_neg HZ.out]; exact HZ.out)]; rfl, ?_, Keep.refl _ _⟩
    unfold takeR; rw [if_neg HZ.out]; exact HH.out

end Wm
end Go.Proofs.Yteaokgolnhdloaa
