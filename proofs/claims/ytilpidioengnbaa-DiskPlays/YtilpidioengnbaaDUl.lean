/- DiskPlays: behind the script: what seen, There and Crash tell. -/
import Derived.Test.YtilpidioengnbaaDUj
namespace Go.Proofs.Ytilpidioengnbaa
namespace DP
open Go.RowKit Go.Lib

theorem rdS_ls {N : Nat} {w : World} {a : Option Addr} {n c : Nat} {out : List Sv} (h : LsIn (fun g => N ≤ g) w (.slice a n c) out) (hl : out.length ≤ 1099511627776) : n = (out.map Sv.sg).length ∧ RdS N w a (out.map Sv.sg) := by
  have hn : n = (out.map Sv.sg).length := by
    rw [List.length_map]
    rcases h.row.2 with ⟨e, h0⟩ | ⟨g, cap, cur, e, _⟩
    · injection e with _ e _; omega
    · injection e with _ e _
  refine ⟨hn, by rw [List.length_map]; exact hl, fun j hj => ?_⟩
  have hj' : j < out.length := by simpa using hj
  obtain ⟨g, cap, hv, c0, c1⟩ := row_at h.row (List.getElem?_eq_getElem hj')
  injection hv with hv1 _ _
  subst hv1
  rw [Nat.mul_comm] at c0 c1
  rw [List.getElem_map]
  exact ⟨g, rfl, h.sv g rfl, c0, _, c1, h.by8 _ (List.getElem_mem hj'), fun g' e => h.sb _ (List.getElem_mem hj') g' e⟩
/-- a list of all that is there is the document's -/
theorem lst_eq {f : Rf} {s : St} {L : List (Int × List Nat)} (h : Ag f s) (hL : Lst s L) : L = f.th := by
  refine sorted_eq (R := fun x y : Int × List Nat => x.1 < y.1) (fun a b h h' => by omega) L f.th (List.pairwise_map.1 hL.1) h.srt fun x => ?_
  obtain ⟨k, b⟩ := x
  rw [hL.2, h.th]
  exact ⟨fun e => lookS_some e, fun e => h.srt.mem e⟩
/-- what There answers, as it is read -/
theorem there_rd (R : Nat → Prop) (w : World) (r : Nat) (f : Rf) (h : RIn R w r f) (fw : Fit f) :
    Calls Try.prog 18 #[.pointer (some ⟨r, 0, none⟩)] w fun e w' => ∃ a c, e = .returned (.slice a f.th.length c) ∧ RdS w.heap.size w' a f.th ∧ Keep (fun _ => False) w w' := by
  refine (refThere_any R w r f h fw.len fw.by_).mono ?_
  rintro e w' ⟨v, rfl, out, hL, hsg, hk⟩
  obtain ⟨a, c, rfl, _⟩ := ownsRow_sh hL.row
  have hol : out.length ≤ 1099511627776 := by
    have h1 := fw.len
    rw [← hsg, List.length_map] at h1
    exact h1
  obtain ⟨e1, e2⟩ := rdS_ls hL hol
  rw [hsg] at e1 e2
  rw [e1]
  exact ⟨a, c, rfl, e2, hk⟩
/-- what seen answers, with the power on -/
theorem seen_on (S : Nat → Prop) (w : World) (p : Nat) (s : St) (f : Rf) (h : DAt S w p s) (ok : Ok s) (ha : Ag f s) (hd : s.down = false) :
    Calls Try.prog 14 #[.pointer (some ⟨p, 0, none⟩)] w fun e w' => ∃ a c, e = .returned (.tuple #[.slice a f.th.length c, .bool true]) ∧ RdS w.heap.size w' a f.th ∧ Keep (fun _ => False) w w' := by
  refine (seen_any S w p s h ok).mono ?_
  rintro e w' ⟨a, c, L, rfl, hr, h1, _, hk⟩
  have e1 := lst_eq ha (h1 hd)
  subst e1
  rw [hd]
  exact ⟨a, c, rfl, hr, hk⟩
theorem seen_off (S : Nat → Prop) (w : World) (p : Nat) (s : St) (h : DAt S w p s) (ok : Ok s) (hd : s.down = true) :
    Calls Try.prog 14 #[.pointer (some ⟨p, 0, none⟩)] w fun e w' => ∃ a c, e = .returned (.tuple #[.slice a 0 c, .bool false]) ∧ Keep (fun _ => False) w w' := by
  refine (seen_any S w p s h ok).mono ?_
  rintro e w' ⟨a, c, L, rfl, hr, _, h2, hk⟩
  have e1 := h2 hd
  subst e1
  rw [hd]
  exact ⟨a, c, rfl, hk⟩
/-- a loss of power, of both -/
theorem lose {f : Rf} {s : St} {n : Nat} (ha : Ag f s) (g : Good n s) (hn : n < 70368744177664) (z : List Int) :
    (∀ (S : Nat → Prop) (p : Nat) (w : World) (a : Option Addr) (m c : Nat), DAt S w p s → Rz w a m z → (∀ g off, a = some ⟨g, off, none⟩ → m ≠ 0 → ¬ S g) →
      Calls Try.prog 19 #[.pointer (some ⟨p, 0, none⟩), .slice a m c] w fun e w' => e = .returned (.tuple #[]) ∧ ∃ t, DAt S w' p t ∧ Ag (f.crash z) t ∧ Good (n + 1) t ∧ t.down = false ∧ Keep S w w') ∧
    (∀ (R : Nat → Prop) (r : Nat) (w : World) (a : Option Addr) (m c : Nat), RIn R w r f → Rz w a m z →
      Calls Try.prog 20 #[.pointer (some ⟨r, 0, none⟩), .slice a m c] w fun e w' => e = .returned (.tuple #[]) ∧ RIn (fun b => R b ∨ w.heap.size ≤ b) w' r (f.crash z) ∧ Keep R w w') := by
  have fw := fitW_of ha g (Nat.le_of_lt hn) z
  refine ⟨fun S p w a m c h hz hzS => ?_, fun R r w a m c h hz => ?_⟩
  · refine (crash_any S w p s a m c z h (g.ok (Nat.le_of_lt hn)) (by rw [tot_away]; exact g.bud.held (Nat.le_of_lt hn)) hz hzS).mono ?_
    rintro e w' ⟨rfl, t, hc, hd, hk⟩
    exact ⟨rfl, t, hd, ha.crash (fun k l m h1 h2 => g.pre k l m h1 h2) hc, g.crash hc, hc.down, hk⟩
  · refine (refCrash_any (fun b => R b ∨ w.heap.size ≤ b) w r f a m c z (h.mono fun _ e => .inl e) (fun _ e => .inr e) hz fw.f.len fw.f.len2 fw.f.by_ fw.by2 fw.cl).mono ?_
    rintro e w' ⟨rfl, hr, hk⟩
    exact ⟨rfl, hr, ⟨hk.os, hk.tape, hk.output, hk.size, fun b hb hs => hk.block b hb fun e => e.elim hs fun e => by omega⟩⟩
end DP
end Go.Proofs.Ytilpidioengnbaa
