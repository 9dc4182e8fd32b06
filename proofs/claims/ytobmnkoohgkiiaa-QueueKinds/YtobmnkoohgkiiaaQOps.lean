/- Package queue: Pop, Remove, Push. -/
import Derived.Test.YtobmnkoohgkiiaaQTak
namespace Go.Proofs.Ytobmnkoohgkiiaa
namespace Qu
open Go.RowKit

section
variable {α : Type} [DecidableEq α]
def St.remove (s : St α) (k : α) : St α := match idxL s.row k with | some i => s.take i | none => s
/-- what Push answers, and what it leaves -/
def pushR (s : St α) (k : α) : Nat × Nat := if numL s.row k ≠ none then (0, 81) else if s.places ≤ s.row.length then (0, 82) else (s.last + 1, 0)
def St.pushed (s : St α) (k : α) : St α := if numL s.row k ≠ none then s else if s.places ≤ s.row.length then s else s.push k
end

set_option maxRecDepth 100000 in
set_option maxHeartbeats 4000000 in
theorem popI {S : Nat → Prop} {P : Nat} {s : St _} (w : World) (h : QAt KI S w P s) :
    Calls Try.prog 25 #[.pointer (some ⟨P, 0, none⟩)] w fun e w' => e = .returned (.tuple #[frontV KI (.int .i64 0) s, .bool (!s.row.isEmpty)]) ∧ QAt KI S w' P (s.take 0) ∧ Keep S w w' := by
  have H := hide h
  obtain ⟨hok, hks, m, v, h⟩ := h
  have FR := hide (frontI w h)
  cases hr : s.row with
  | nil =>
    rw [hr] at FR
    have hf : frontV KI (.int .i64 0) s = .int .i64 0 := by simp [frontV, hr]
    have hs : s.take 0 = s := by cases s; simp at hr; subst hr; rfl
    rw [hf] at FR ⊢
    rw [hs]
    clear h hok hks hf hs hr
    go_enter Try.func25, Try.ntmps25
    go_wp2_with (go_at_call 26; refine FR.out.mono ?_; rintro e w1 ⟨rfl, rfl⟩)
    go_ret2
    exact ⟨rfl, H.out, Keep.refl _ _⟩
  | cons e t =>
    rw [hr] at FR
    have TK := hide (takeI (i := 0) (n := e.1) (k := e.2) w H.out (by rw [hr]; rfl))
    have hf : frontV KI (.int .i64 0) s = KI.enc e.2 := by simp [frontV, hr]
    rw [hf] at FR ⊢
    unfold KI at FR ⊢
    generalize e.2 = k at *
    clear h hok hks hf hr
    go_enter Try.func25, Try.ntmps25
    go_wp2_with (first
      | (go_at_call 26; refine FR.out.mono ?_; rintro e w1 ⟨rfl, rfl⟩)
      | (go_at_call 49; refine TK.out.mono ?_; rintro e w1 ⟨rfl, q1, k1⟩; have Q1 := hide q1; have K1 := hide k1; clear q1 k1))
    go_ret2
    exact ⟨rfl, Q1.out, K1.out⟩

set_option maxRecDepth 100000 in
set_option maxHeartbeats 4000000 in
theorem removeI {S : Nat → Prop} {P : Nat} {s : St _} (k : _) (w : World) (h : QAt KI S w P s) (hk : KI.ok k) :
    Calls Try.prog 27 #[.pointer (some ⟨P, 0, none⟩), KI.enc k] w fun e w' => e = .returned (.int .i64 ((aheadR s.row k).2 : Nat)) ∧ QAt KI S w' P (s.remove k) ∧ Keep S w w' := by
  have H := hide h
  have AH := hide (aheadI k w h hk)
  clear h
  cases hi : idxL s.row k with
  | none =>
    have ha : aheadR s.row k = (0, 83) := by simp [aheadR, hi]
    have hs : s.remove k = s := by simp [St.remove, hi]
    rw [ha] at AH ⊢
    rw [hs]
    clear ha hs hi hk
    unfold KI at AH
    show Calls Try.prog 27 #[.pointer (some ⟨P, 0, none⟩), (match k with | y1 => .int .i64 y1)] w _
    go_enter Try.func27, Try.ntmps27
    go_wp2_with (go_at_call 28; refine AH.out.mono ?_; rintro e w1 ⟨rfl, k1⟩; have K1 := hide k1; clear k1)
    go_ret
    exact ⟨rfl, H.out.new K1.out, K1.out.mono fun _ f => f.elim⟩
  | some i =>
    obtain ⟨n, hg, _⟩ := idx_get hi
    have ha : aheadR s.row k = (i, 0) := by simp [aheadR, hi]
    have hs : s.remove k = s.take i := by simp [St.remove, hi]
    rw [ha] at AH ⊢
    rw [hs]
    have HG := hide hg
    clear ha hs hi hk hg
    unfold KI at AH
    show Calls Try.prog 27 #[.pointer (some ⟨P, 0, none⟩), (match k with | y1 => .int .i64 y1)] w _
    go_enter Try.func27, Try.ntmps27
    go_wp2_with (first
      | (go_at_call 28; refine AH.out.mono ?_; rintro e w1 ⟨rfl, k1⟩; have K1 := hide k1; clear k1)
      | (go_at_call 49; refine (takeI w1 (H.out.new K1.out) HG.out).mono ?_; rintro e w2 ⟨rfl, q1, k1⟩; have Q2 := hide q1; have K2 := hide k1; clear q1 k1))
    go_ret
    exact ⟨rfl, Q2.out, (K1.out.mono fun _ f => f.elim).more K2.out⟩
set_option maxRecDepth 100000 in
set_option maxHeartbeats 4000000 in
theorem popS {S : Nat → Prop} {P : Nat} {s : St _} (w : World) (h : QAt KS S w P s) :
    Calls Try.prog 21 #[.pointer (some ⟨P, 0, none⟩)] w fun e w' => e = .returned (.tuple #[frontV KS (.string ⟨#[]⟩) s, .bool (!s.row.isEmpty)]) ∧ QAt KS S w' P (s.take 0) ∧ Keep S w w' := by
  have H := hide h
  obtain ⟨hok, hks, m, v, h⟩ := h
  have FR := hide (frontS w h)
  cases hr : s.row with
  | nil =>
    rw [hr] at FR
    have hf : frontV KS (.string ⟨#[]⟩) s = .string ⟨#[]⟩ := by simp [frontV, hr]
    have hs : s.take 0 = s := by cases s; simp at hr; subst hr; rfl
    rw [hf] at FR ⊢
    rw [hs]
    clear h hok hks hf hs hr
    go_enter Try.func21, Try.ntmps21
    go_wp2_with (go_at_call 32; refine FR.out.mono ?_; rintro e w1 ⟨rfl, rfl⟩)
    go_ret2
    exact ⟨rfl, H.out, Keep.refl _ _⟩
  | cons e t =>
    rw [hr] at FR
    have TK := hide (takeS (i := 0) (n := e.1) (k := e.2) w H.out (by rw [hr]; rfl))
    have hf : frontV KS (.string ⟨#[]⟩) s = KS.enc e.2 := by simp [frontV, hr]
    rw [hf] at FR ⊢
    unfold KS at FR ⊢
    generalize e.2 = k at *
    clear h hok hks hf hr
    go_enter Try.func21, Try.ntmps21
    go_wp2_with (first
      | (go_at_call 32; refine FR.out.mono ?_; rintro e w1 ⟨rfl, rfl⟩)
      | (go_at_call 45; refine TK.out.mono ?_; rintro e w1 ⟨rfl, q1, k1⟩; have Q1 := hide q1; have K1 := hide k1; clear q1 k1))
    go_ret2
    exact ⟨rfl, Q1.out, K1.out⟩

set_option maxRecDepth 100000 in
set_option maxHeartbeats 4000000 in
theorem removeS {S : Nat → Prop} {P : Nat} {s : St _} (k : _) (w : World) (h : QAt KS S w P s) (hk : KS.ok k) :
    Calls Try.prog 33 #[.pointer (some ⟨P, 0, none⟩), KS.enc k] w fun e w' => e = .returned (.int .i64 ((aheadR s.row k).2 : Nat)) ∧ QAt KS S w' P (s.remove k) ∧ Keep S w w' := by
  have H := hide h
  have AH := hide (aheadS k w h hk)
  clear h
  cases hi : idxL s.row k with
  | none =>
    have ha : aheadR s.row k = (0, 83) := by simp [aheadR, hi]
    have hs : s.remove k = s := by simp [St.remove, hi]
    rw [ha] at AH ⊢
    rw [hs]
    clear ha hs hi hk
    unfold KS at AH
    show Calls Try.prog 33 #[.pointer (some ⟨P, 0, none⟩), (match k with | y1 => .string y1)] w _
    go_enter Try.func33, Try.ntmps33
    go_wp2_with (go_at_call 22; refine AH.out.mono ?_; rintro e w1 ⟨rfl, k1⟩; have K1 := hide k1; clear k1)
    go_ret
    exact ⟨rfl, H.out.new K1.out, K1.out.mono fun _ f => f.elim⟩
  | some i =>
    obtain ⟨n, hg, _⟩ := idx_get hi
    have ha : aheadR s.row k = (i, 0) := by simp [aheadR, hi]
    have hs : s.remove k = s.take i := by simp [St.remove, hi]
    rw [ha] at AH ⊢
    rw [hs]
    have HG := hide hg
    clear ha hs hi hk hg
    unfold KS at AH
    show Calls Try.prog 33 #[.pointer (some ⟨P, 0, none⟩), (match k with | y1 => .string y1)] w _
    go_enter Try.func33, Try.ntmps33
    go_wp2_with (first
      | (go_at_call 22; refine AH.out.mono ?_; rintro e w1 ⟨rfl, k1⟩; have K1 := hide k1; clear k1)
      | (go_at_call 45; refine (takeS w1 (H.out.new K1.out) HG.out).mono ?_; rintro e w2 ⟨rfl, q1, k1⟩; have Q2 := hide q1; have K2 := hide k1; clear q1 k1))
    go_ret
    exact ⟨rfl, Q2.out, (K1.out.mono fun _ f => f.elim).more K2.out⟩

end Qu
end Go.Proofs.Ytobmnkoohgkiiaa
