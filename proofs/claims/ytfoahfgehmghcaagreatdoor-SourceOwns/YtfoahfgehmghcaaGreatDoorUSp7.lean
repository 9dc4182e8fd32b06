/- The document's Parse: takes: the plan's line, a line that is none. -/
import Derived.Test.YtfoahfgehmghcaaGreatDoorUSp3
import Derived.Test.YtfoahfgehmghcaaGreatDoorUSp6
namespace Go.Proofs.YtfoahfgehmghcaaGreatDoor
namespace U
namespace Sp
open Go.RowKit

/-- what takes leaves -/
def TkEnd (B D : Nat) (r : Option Dr) (w : World) (e : Ending) (w' : World) : Prop := e = .returned (.bool r.isSome) ∧ (∀ d', r = some d' → DfAt B w' D d') ∧ Fq B w w'
theorem TkEnd.no {B D : Nat} {w : World} : TkEnd B D none w (.returned (.bool false)) w := ⟨rfl, (fun _ h => by cases h), Fq.refl _ _⟩
theorem DfX.cs {B : Nat} {w : World} {D : Nat} {d : Dr} {vn vl vN vA vL vP : Value} {L M : List (Option Addr × Nat × Nat)} (h : DfX B w D d vn vl vN vA vL vP L M) : w.heap[D]? = some (.cells (cs9 d.nm d.dl d.place vn vl vN vA vL vP) 63 (0, 0)) := h.1.blk
set_option maxRecDepth 100000 in
set_option maxHeartbeats 2000000 in
theorem takes_begin (B D : Nat) (d : Dr) (p : Nat) (a : Option Addr) (c : Nat) (ws : List (List UInt8)) (w : World) (hD : DfAt B w D d) (hI : DI d p) (hr : RdS w a ws) (hne : ws ≠ []) (hz : ∀ x ∈ ws, x.length ≤ 65536) (h0 : d.place = 0) :
    Calls Tryz.prog 25 #[.pointer (some ⟨D, 0, none⟩), .slice a ws.length c, .int .i64 (p : Nat)] w (TkEnd B D (step d p ws) w) := by
  have HST := hide (begin_doc d p ws h0 (hI.none h0) hne)
  have SD := hide (said_any a c ws 2 kwDead w hr hz (by omega))
  unfold sdV at SD
  obtain ⟨vn, vl, vN, vA, vL, vP, L, M, X⟩ := hD
  have c3 := cell_blk X.cs 3 (v := .int .i64 (d.place : Int)) rfl
  rw [h0] at c3
  generalize step d p ws = R at *
  generalize sd ws 2 kwDead = S at *
  generalize hn : ws.length = n at *
  have HN := hide hn
  by_cases c4 : n = 4
  · have i4 : ((n : Int) != 4) = false := by simp; omega
    obtain ⟨x0, hx0⟩ : ∃ x, ws[0]? = some x := ⟨_, List.getElem?_eq_getElem (by omega)⟩
    obtain ⟨x1, hx1⟩ : ∃ x, ws[1]? = some x := ⟨_, List.getElem?_eq_getElem (by omega)⟩
    obtain ⟨g, off, rfl, _, hc⟩ := hr.resolve_left hne
    have e0 := hc 0 x0 hx0
    have e1 := hc 1 x1 hx1
    rw [Nat.add_zero] at e0
    rw [getD_of hx0, getD_of hx1] at HST
    have IN := hide (fun W => refName_any x1 W (hz x1 (List.mem_of_getElem? hx1)))
    have i0 : (0 : Int) < n := by omega
    have i1 : (1 : Int) < n := by omega
    have HC4 := hide c4
    clear hc hx0 hx1 hz hne hr hn c4
    by_cases ck : x0 = kwPlan
    · have hq : ((ba x0).toList == [112, 108, 97, 110]) = true := (string_lit x0 kwPlan).trans (decide_eq_true ck)
      cases cn : nmL x1 with
      | false =>
        obtain rfl : R = none := by rw [HST.out, if_neg (fun h => by have := h.2.2.1; rw [cn] at this; cases this)]
        rw [cn] at IN
        clear SD ck
        go_enter Tryz.func25, Tryz.ntmps25
        go_wp2_with (go_at_call 45; refine (IN.out _).mono ?_; rintro e wz ⟨rfl, rfl⟩)
        go_ret
        exact TkEnd.no
      | true =>
        rw [cn] at IN
        obtain ⟨S1, S2, S3⟩ := S
        simp only at SD HST
        have c0 := cell_blk X.cs 0 (v := .string (ba d.nm)) rfl
        have f0 := frozen_blk X.cs 0
        have c1 := cell_blk X.cs 1 (v := .int .i64 d.dl) rfl
        have f1 := frozen_blk X.cs 1
        have f3 := frozen_blk X.cs 3
        have P1 := X.1.put 0 (.string (ba x1))
        have P2 := P1.1.put 1 (.int .i64 S1)
        have P3 := P2.1.put 3 (.int .i64 (p : Nat))
        have FQ := hide ((P1.2.trans P2.2).trans P3.2)
        have HP3 := hide P3.1
        have HS := hide X.2
        have HC : Hid (x0 = kwPlan ∧ nmL x1 = true) := ⟨ck, cn⟩
        clear P1 P2 P3 X ck
        go_enter Tryz.func25, Tryz.ntmps25
        go_wp2_with (first
          | (go_at_call 45; refine (IN.out _).mono ?_; rintro e wz ⟨rfl, rfl⟩)
          | (go_at_call 46; refine SD.out.mono ?_; rintro e wz ⟨rfl, rfl⟩))
        go_ret
        cases S3 with
        | false =>
          obtain rfl : R = none := by rw [HST.out, if_neg (fun h => by have := h.2.2.2; cases this)]
          exact ⟨rfl, (fun _ h => by cases h), FQ.out⟩
        | true =>
          obtain rfl : R = some { d with nm := x1, dl := S1, place := p } := by rw [HST.out, if_pos ⟨HC4.out, HC.out.1, HC.out.2, rfl⟩]
          refine ⟨rfl, fun d' h => ?_, FQ.out⟩
          cases h
          exact ⟨vn, vl, vN, vA, vL, vP, L, M, HP3.out, HS.out.1.fq FQ.out, HS.out.2.fq FQ.out⟩
    · have hq : ((ba x0).toList == [112, 108, 97, 110]) = false := (string_lit x0 kwPlan).trans (decide_eq_false ck)
      obtain rfl : R = none := by rw [HST.out, if_neg (fun h => ck h.2.1)]
      clear SD ck
      go_enter Tryz.func25, Tryz.ntmps25
      go_wp2_with fail
      go_ret
      exact TkEnd.no
  · have i4 : ((n : Int) != 4) = true := by simp; omega
    obtain rfl : R = none := by rw [HST.out, if_neg (fun h => c4 h.1)]
    clear SD hr hz hne hn
    go_enter Tryz.func25, Tryz.ntmps25
    go_wp2_with fail
    go_ret
    exact TkEnd.no
set_option maxRecDepth 100000 in
set_option maxHeartbeats 2000000 in
theorem takes_none (B D : Nat) (d : Dr) (p : Nat) (a : Option Addr) (c : Nat) (f : List UInt8) (ws : List (List UInt8)) (w : World) (hD : DfAt B w D d) (hr : RdS w a (f :: ws)) (h0 : d.place ≠ 0) (h1 : f ≠ kwNode) (h2 : f ≠ kwNeeds) (h3 : f ≠ kwAfter) (hn : d.nds.length ≤ 1000000) :
    Calls Tryz.prog 25 #[.pointer (some ⟨D, 0, none⟩), .slice a (f :: ws).length c, .int .i64 (p : Nat)] w (TkEnd B D (step d p (f :: ws)) w) := by
  rw [none_doc d p f ws h0 h1 h2 h3]
  obtain ⟨vn, vl, vN, vA, vL, vP, L, M, X⟩ := hD
  have c3 := cell_blk X.cs 3 (v := .int .i64 (d.place : Int)) rfl
  have i3 : ((d.place : Int) == 0) = false := by simp; omega
  have c2 := cell_blk X.cs 2 (v := vn) rfl
  obtain ⟨va, vc, hvn⟩ := own_shape (X.1.rws.own 0 _ rfl)
  have hvn : vn = .slice va (d.nds.map fun x => (no x).q).length vc := hvn
  subst hvn
  obtain ⟨g, off, rfl, _, hc⟩ := hr.resolve_left (by simp)
  have e0 := hc 0 f rfl
  rw [Nat.add_zero] at e0
  have q1 : ((ba f).toList == [110, 111, 100, 101]) = false := (string_lit f kwNode).trans (decide_eq_false h1)
  have q2 : ((ba f).toList == [110, 101, 101, 100, 115]) = false := (string_lit f kwNeeds).trans (decide_eq_false h2)
  have q3 : ((ba f).toList == [97, 102, 116, 101, 114]) = false := (string_lit f kwAfter).trans (decide_eq_false h3)
  simp only [List.length_map] at c2
  generalize d.nds.length = m at *
  have i0 : (0 : Int) < ((f :: ws).length : Nat) := by simp
  generalize (f :: ws).length = n at *
  clear hc X hr
  go_enter Tryz.func25, Tryz.ntmps25
  go_wp2_with fail
  go_ret
  exact TkEnd.no
end Sp
end U
end Go.Proofs.YtfoahfgehmghcaaGreatDoor
