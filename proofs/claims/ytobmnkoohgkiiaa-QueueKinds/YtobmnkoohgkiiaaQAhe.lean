/- Package queue: Ahead. -/
import Derived.Test.YtobmnkoohgkiiaaQBin
namespace Go.Proofs.Ytobmnkoohgkiiaa
namespace Qu
open Go.RowKit

/-- how many stand ahead of a thing, and the code -/
def aheadR {α : Type} [DecidableEq α] (r : List (Nat × α)) (k : α) : Nat × Nat := match idxL r k with | some i => (i, 0) | none => (0, 83)

theorem zero_int : ∀ w, (zeroValue 3).run Try.prog w = .ok (.int .i64 0) w := fun w => by kernel_rfl

theorem QIn.look {α : Type} [DecidableEq α] {K : Kd α} (hK : KdOk K) {S : Nat → Prop} {w : World} {P m : Nat} {v : Value} {s : St α} (h : QIn K S w P m v s) {k : α} (hk : K.ok k) :
    (numL s.row k = none ∧ ∀ j, (Instr.lookup K.tm (.map (some m)) (K.enc k) true).run Try.prog (w.drewN j) = .ok (.tuple #[.int .i64 0, .bool false]) (w.drewN j)) ∨
    ∃ n, numL s.row k = some n ∧ ∀ j, (Instr.lookup K.tm (.map (some m)) (K.enc k) true).run Try.prog (w.drewN j) = .ok (.tuple #[.int .i64 (n : Nat), .bool true]) (w.drewN j) := by
  have hl := fun j => h.mp.look hK hK.um zero_int hk j
  cases e : numL s.row k with
  | none => exact .inl ⟨rfl, fun j => by rw [hl j, e]; rfl⟩
  | some n => exact .inr ⟨n, rfl, fun j => by rw [hl j, e]; rfl⟩

set_option maxRecDepth 100000 in
set_option maxHeartbeats 4000000 in
theorem aheadI {S : Nat → Prop} {P : Nat} {s : St _} (k : _) (w : World) (h : QAt KI S w P s) (hk : KI.ok k) :
    Calls Try.prog 28 #[.pointer (some ⟨P, 0, none⟩), KI.enc k] w fun e w' => e = .returned (.tuple #[.int .i64 ((aheadR s.row k).1 : Nat), .int .i64 ((aheadR s.row k).2 : Nat)]) ∧ Keep (fun _ => False) w w' := by
  obtain ⟨hok, hks, m, v, h⟩ := h
  have c2 := h.c2
  have c3 := h.c3
  rcases h.look okI hk with ⟨hn, hl⟩ | ⟨n, hn, hl⟩
  · have hl0 := hl 0
    rw [show w.drewN 0 = w from rfl] at hl0
    have ha : aheadR s.row k = (0, 83) := by simp [aheadR, idx_num.2 hn]
    rw [ha]
    unfold KI at hl0 ⊢
    clear h hok hl hks ha hn hk
    go_enter Try.func28, Try.ntmps28
    go_wp2
    go_ret2
    exact ⟨rfl, Keep.refl _ _⟩
  · have hl0 := hl 0
    rw [show w.drewN 0 = w from rfl] at hl0
    obtain ⟨i, hi, hg⟩ := num_idx hn
    have hil : i < s.row.length := (List.getElem?_eq_some_iff.1 hg).1
    have ha : aheadR s.row k = (i, 0) := by simp [aheadR, hi]
    rw [ha]
    obtain ⟨g, off, cap, rfl, _, _, hc, _, hra, _⟩ := h.row.full (by omega)
    have SE := hide (searchI w g off cap hra hg (fun j e hj he => hok.lt hj he hg) (fun j e hj he => by
      rcases Nat.eq_or_lt_of_le hj with rfl | hj
      · rw [hg] at he; injection he with he; subst he; exact Nat.le_refl _
      · exact Nat.le_of_lt (hok.lt hj hg he)) (Nat.le_trans hok.len hok.pl))
    unfold KI at hl0 ⊢
    clear h hok hl hks ha hn hk hra hg hi
    go_enter Try.func28, Try.ntmps28
    go_wp2_with (go_at_call 50; refine SE.out.mono ?_; rintro e w2 ⟨rfl, k2⟩; have K2 := hide k2; clear k2)
    go_ret2
    exact ⟨rfl, K2.out⟩
set_option maxRecDepth 100000 in
set_option maxHeartbeats 4000000 in
theorem aheadS {S : Nat → Prop} {P : Nat} {s : St _} (k : _) (w : World) (h : QAt KS S w P s) (hk : KS.ok k) :
    Calls Try.prog 22 #[.pointer (some ⟨P, 0, none⟩), KS.enc k] w fun e w' => e = .returned (.tuple #[.int .i64 ((aheadR s.row k).1 : Nat), .int .i64 ((aheadR s.row k).2 : Nat)]) ∧ Keep (fun _ => False) w w' := by
  obtain ⟨hok, hks, m, v, h⟩ := h
  have c2 := h.c2
  have c3 := h.c3
  rcases h.look okS hk with ⟨hn, hl⟩ | ⟨n, hn, hl⟩
  · have hl0 := hl 0
    rw [show w.drewN 0 = w from rfl] at hl0
    have ha : aheadR s.row k = (0, 83) := by simp [aheadR, idx_num.2 hn]
    rw [ha]
    unfold KS at hl0 ⊢
    clear h hok hl hks ha hn hk
    go_enter Try.func22, Try.ntmps22
    go_wp2
    go_ret2
    exact ⟨rfl, Keep.refl _ _⟩
  · have hl0 := hl 0
    rw [show w.drewN 0 = w from rfl] at hl0
    obtain ⟨i, hi, hg⟩ := num_idx hn
    have hil : i < s.row.length := (List.getElem?_eq_some_iff.1 hg).1
    have ha : aheadR s.row k = (i, 0) := by simp [aheadR, hi]
    rw [ha]
    obtain ⟨g, off, cap, rfl, _, _, hc, _, hra, _⟩ := h.row.full (by omega)
    have SE := hide (searchS w g off cap hra hg (fun j e hj he => hok.lt hj he hg) (fun j e hj he => by
      rcases Nat.eq_or_lt_of_le hj with rfl | hj
      · rw [hg] at he; injection he with he; subst he; exact Nat.le_refl _
      · exact Nat.le_of_lt (hok.lt hj hg he)) (Nat.le_trans hok.len hok.pl))
    unfold KS at hl0 ⊢
    clear h hok hl hks ha hn hk hra hg hi
    go_enter Try.func22, Try.ntmps22
    go_wp2_with (go_at_call 46; refine SE.out.mono ?_; rintro e w2 ⟨rfl, k2⟩; have K2 := hide k2; clear k2)
    go_ret2
    exact ⟨rfl, K2.out⟩

end Qu
end Go.Proofs.Ytobmnkoohgkiiaa
