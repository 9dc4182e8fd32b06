/- Package queue: slices.BinarySearchFunc over a row by its numbers; Ahead. -/
import Derived.Test.YtobmnkoohgkiiaaQCmp
namespace Go.Proofs.Ytobmnkoohgkiiaa
namespace Qu
open Go.RowKit

theorem cmpN_lt {a b : Int} : cmpN a b < 0 ↔ a < b := by unfold cmpN; split <;> (try split) <;> omega
theorem cmpN_eq {a b : Int} : cmpN a b = 0 ↔ a = b := by unfold cmpN; split <;> (try split) <;> omega

set_option maxRecDepth 100000 in
set_option maxHeartbeats 4000000 in
theorem searchI {r : List (Nat × _)} {i n : Nat} {k : _} (w : World) (g off cap : Nat) (hra : w.rangeAt g off (flat KI r)) (hi : r[i]? = some (n, k)) (hlt : ∀ j e, j < i → r[j]? = some e → e.1 < n) (hge : ∀ j e, i ≤ j → r[j]? = some e → n ≤ e.1) (hl : r.length ≤ 65536) :
    Calls Try.prog 50 #[.slice (some ⟨g, off, none⟩) r.length cap, .int .i64 n, .func (.func 51) #[] #[]] w fun e w' => e = .returned (.tuple #[.int .i64 i, .bool true]) ∧ Keep (fun _ => False) w w' := by
  have hil : i < r.length := (List.getElem?_eq_some_iff.1 hi).1
  have HR := hide hra
  have HLt := hide hlt
  have HGe := hide hge
  have HI := hide hi
  have hcell : Hid (∀ (wr : World), Keep (fun _ => False) w wr → ∀ j, j < r.length → ∃ nj kj, r[j]? = some (nj, kj) ∧ wr.cell? ⟨g, off + j * 2, none⟩ = some (.int .i64 (nj : Nat)) ∧ wr.cell? ⟨g, off + j * 2 + 1, none⟩ = some (KI.enc kj)) := fun wr hk j hj => by
    have e : r[j]? = some (r[j].1, r[j].2) := by simp [List.getElem?_eq_getElem hj]
    refine ⟨_, _, e, ?_, ?_⟩
    · have := RowAt.at_ okI (rangeAt_keep hra hk fun f => f) e (j := 0) (by decide) (u := nv r[j].1) rfl
      exact this
    · have := RowAt.at_ okI (rangeAt_keep hra hk fun f => f) e (j := 1) (by decide) (u := KI.enc r[j].2) rfl
      exact this
  clear hra hlt hge hi
  go_enter Try.func50, Try.ntmps50
  go_wp2
  go_loopg [9, 10] r.length (fun kx s9 s10 wr => ∃ lo hi : Nat, s9 = .int .i64 (lo : Nat) ∧ s10 = .int .i64 (hi : Nat) ∧ lo ≤ i ∧ i ≤ hi ∧ hi ≤ r.length ∧ hi - lo ≤ kx ∧ Hid (Keep (fun _ => False) w wr))
  case atStart => exact ⟨0, r.length, rfl, rfl, Nat.zero_le _, by omega, Nat.le_refl _, by omega, Keep.refl _ _⟩
  case round =>
    obtain ⟨lo, hi, rfl, rfl, h1, h2, h3, hg, HK⟩ := hrel
    by_cases hlh : lo < hi
    · obtain ⟨nj, kj, e0, e1, e2⟩ := hcell.out wr HK.out ((lo + hi) / 2) (by omega)
      have E0 := hide e0
      clear e0
      unfold KI at e2
      by_cases hc : nj < n
      · have HC : Hid (cmpN nj n < 0) := cmpN_lt.2 (by omega)
        have hcc := HC.out
        go_wp2_with (go_at_call 51; refine (ahead1I _ _ ⟨_, rfl⟩ _ _).mono ?_; rintro e w2 ⟨rfl, k2⟩; have K2 := hide k2; clear k2)
        go_roundg (hi - ((lo + hi) / 2 + 1))
        case measure => omega
        case rel =>
          refine ⟨(lo + hi) / 2 + 1, hi, by rw [show ((lo : Int) + (hi : Int)) / 2 + 1 = (((lo + hi) / 2 + 1 : Nat) : Int) by omega], rfl, ?_, h2, h3, Nat.le_refl _, HK.out.more K2.out⟩
          rcases Nat.lt_or_ge ((lo + hi) / 2) i with h | h
          · omega
          · have := HGe.out _ _ h E0.out; simp at this; omega
      · have HC : Hid (¬ cmpN nj n < 0) := fun h => hc (by have := cmpN_lt.1 h; omega)
        have hcc := HC.out
        go_wp2_with (go_at_call 51; refine (ahead1I _ _ ⟨_, rfl⟩ _ _).mono ?_; rintro e w2 ⟨rfl, k2⟩; have K2 := hide k2; clear k2)
        go_roundg ((lo + hi) / 2 - lo)
        case measure => omega
        case rel =>
          refine ⟨lo, (lo + hi) / 2, rfl, by rw [show ((lo : Int) + (hi : Int)) / 2 = (((lo + hi) / 2 : Nat) : Int) by omega], h1, ?_, by omega, Nat.le_refl _, HK.out.more K2.out⟩
          rcases Nat.lt_or_ge ((lo + hi) / 2) i with h | h
          · have := HLt.out _ _ h E0.out; simp at this; omega
          · exact h
    · obtain rfl : lo = i := by omega
      obtain ⟨nj, kj, e0, e1, e2⟩ := hcell.out wr HK.out lo (by omega)
      have hn : nj = n := by have := HI.out; rw [e0] at this; simp at this; exact this.1
      subst hn
      clear e0
      unfold KI at e2
      have hcc : cmpN nj nj = 0 := cmpN_eq.2 rfl
      go_wp2_with (go_at_call 51; refine (ahead1I _ _ ⟨_, rfl⟩ _ _).mono ?_; rintro e w2 ⟨rfl, k2⟩; have K2 := hide k2; clear k2)
      go_ret2
      exact ⟨rfl, HK.out.more K2.out⟩
set_option maxRecDepth 100000 in
set_option maxHeartbeats 4000000 in
theorem searchS {r : List (Nat × _)} {i n : Nat} {k : _} (w : World) (g off cap : Nat) (hra : w.rangeAt g off (flat KS r)) (hi : r[i]? = some (n, k)) (hlt : ∀ j e, j < i → r[j]? = some e → e.1 < n) (hge : ∀ j e, i ≤ j → r[j]? = some e → n ≤ e.1) (hl : r.length ≤ 65536) :
    Calls Try.prog 46 #[.slice (some ⟨g, off, none⟩) r.length cap, .int .i64 n, .func (.func 47) #[] #[]] w fun e w' => e = .returned (.tuple #[.int .i64 i, .bool true]) ∧ Keep (fun _ => False) w w' := by
  have hil : i < r.length := (List.getElem?_eq_some_iff.1 hi).1
  have HR := hide hra
  have HLt := hide hlt
  have HGe := hide hge
  have HI := hide hi
  have hcell : Hid (∀ (wr : World), Keep (fun _ => False) w wr → ∀ j, j < r.length → ∃ nj kj, r[j]? = some (nj, kj) ∧ wr.cell? ⟨g, off + j * 2, none⟩ = some (.int .i64 (nj : Nat)) ∧ wr.cell? ⟨g, off + j * 2 + 1, none⟩ = some (KS.enc kj)) := fun wr hk j hj => by
    have e : r[j]? = some (r[j].1, r[j].2) := by simp [List.getElem?_eq_getElem hj]
    refine ⟨_, _, e, ?_, ?_⟩
    · have := RowAt.at_ okS (rangeAt_keep hra hk fun f => f) e (j := 0) (by decide) (u := nv r[j].1) rfl
      exact this
    · have := RowAt.at_ okS (rangeAt_keep hra hk fun f => f) e (j := 1) (by decide) (u := KS.enc r[j].2) rfl
      exact this
  clear hra hlt hge hi
  go_enter Try.func46, Try.ntmps46
  go_wp2
  go_loopg [9, 10] r.length (fun kx s9 s10 wr => ∃ lo hi : Nat, s9 = .int .i64 (lo : Nat) ∧ s10 = .int .i64 (hi : Nat) ∧ lo ≤ i ∧ i ≤ hi ∧ hi ≤ r.length ∧ hi - lo ≤ kx ∧ Hid (Keep (fun _ => False) w wr))
  case atStart => exact ⟨0, r.length, rfl, rfl, Nat.zero_le _, by omega, Nat.le_refl _, by omega, Keep.refl _ _⟩
  case round =>
    obtain ⟨lo, hi, rfl, rfl, h1, h2, h3, hg, HK⟩ := hrel
    by_cases hlh : lo < hi
    · obtain ⟨nj, kj, e0, e1, e2⟩ := hcell.out wr HK.out ((lo + hi) / 2) (by omega)
      have E0 := hide e0
      clear e0
      unfold KS at e2
      by_cases hc : nj < n
      · have HC : Hid (cmpN nj n < 0) := cmpN_lt.2 (by omega)
        have hcc := HC.out
        go_wp2_with (go_at_call 47; refine (ahead1S _ _ ⟨_, rfl⟩ _ _).mono ?_; rintro e w2 ⟨rfl, k2⟩; have K2 := hide k2; clear k2)
        go_roundg (hi - ((lo + hi) / 2 + 1))
        case measure => omega
        case rel =>
          refine ⟨(lo + hi) / 2 + 1, hi, by rw [show ((lo : Int) + (hi : Int)) / 2 + 1 = (((lo + hi) / 2 + 1 : Nat) : Int) by omega], rfl, ?_, h2, h3, Nat.le_refl _, HK.out.more K2.out⟩
          rcases Nat.lt_or_ge ((lo + hi) / 2) i with h | h
          · omega
          · have := HGe.out _ _ h E0.out; simp at this; omega
      · have HC : Hid (¬ cmpN nj n < 0) := fun h => hc (by have := cmpN_lt.1 h; omega)
        have hcc := HC.out
        go_wp2_with (go_at_call 47; refine (ahead1S _ _ ⟨_, rfl⟩ _ _).mono ?_; rintro e w2 ⟨rfl, k2⟩; have K2 := hide k2; clear k2)
        go_roundg ((lo + hi) / 2 - lo)
        case measure => omega
        case rel =>
          refine ⟨lo, (lo + hi) / 2, rfl, by rw [show ((lo : Int) + (hi : Int)) / 2 = (((lo + hi) / 2 : Nat) : Int) by omega], h1, ?_, by omega, Nat.le_refl _, HK.out.more K2.out⟩
          rcases Nat.lt_or_ge ((lo + hi) / 2) i with h | h
          · have := HLt.out _ _ h E0.out; simp at this; omega
          · exact h
    · obtain rfl : lo = i := by omega
      obtain ⟨nj, kj, e0, e1, e2⟩ := hcell.out wr HK.out lo (by omega)
      have hn : nj = n := by have := HI.out; rw [e0] at this; simp at this; exact this.1
      subst hn
      clear e0
      unfold KS at e2
      have hcc : cmpN nj nj = 0 := cmpN_eq.2 rfl
      go_wp2_with (go_at_call 47; refine (ahead1S _ _ ⟨_, rfl⟩ _ _).mono ?_; rintro e w2 ⟨rfl, k2⟩; have K2 := hide k2; clear k2)
      go_ret2
      exact ⟨rfl, HK.out.more K2.out⟩

end Qu
end Go.Proofs.Ytobmnkoohgkiiaa
