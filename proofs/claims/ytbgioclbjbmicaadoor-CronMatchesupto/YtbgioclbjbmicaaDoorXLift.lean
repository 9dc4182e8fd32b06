/- What the laws' rows share: the variables that are laid, the witness, the card. -/
import Derived.Test.YtbgioclbjbmicaaDoorRows
import Derived.Test.YtbgioclbjbmicaaDoorCards
import Derived.Test.YtbgioclbjbmicaaDoorTie
import Derived.Test.YtbgioclbjbmicaaDoorXBase
import Derived.ProofKit
import Derived.LaidMore
import Derived.Lay
import Derived.LaidSub
import Derived.OpenShut
import Derived.ChangeOld
import Derived.Stop.Joined
import Derived.SevenTiedAt
import Derived.Deep.Fields
namespace Go.Proofs.YtbgioclbjbmicaaDoor
open Go.ChangeShapes Go.WideShapes Go.ChangeAt Go.RowKit Go.Deep

theorem own : ownKnob Tryd.prog.godebug = none := by kernel_rfl
theorem laidOut : laidOutB Tryd.prog = true := by kernel_rfl
theorem gMonth : Tryd.prog.globalNamed "escapement/calendar.monthDays" = some 1 := by kernel_rfl
theorem tMonth : (Tryd.prog.globals[1]?).map (·.type) = some 109 := by kernel_rfl
theorem gBound : Tryd.prog.globalNamed "escapement/cron.bounds" = some 0 := by kernel_rfl
theorem tBound : (Tryd.prog.globals[0]?).map (·.type) = some 55 := by kernel_rfl
abbrev laid4 : List (String × DataW Unit) := [("unicode/utf8.acceptRanges", Rows.laid_unicode_utf8_acceptRanges), ("escapement/calendar.monthDays", Rows.laid_escapement_calendar_monthDays), ("escapement/cron.bounds", Rows.laid_escapement_cron_bounds), ("unicode/utf8.first", Rows.laid_unicode_utf8_first)]

theorem tab_of_laid {W : World} (h : laidMetH Tryd.prog laid4 W) : Tab W := by
  have h := h.filter (fun x => x.1 == "escapement/calendar.monthDays")
  have e : laid4.filter (fun x => x.1 == "escapement/calendar.monthDays") = [("escapement/calendar.monthDays", Rows.laid_escapement_calendar_monthDays)] := by kernel_rfl
  rw [e] at h
  rw [MakeChecks.laidMetH_plain _ _ _ (by kernel_rfl)] at h
  have hT : Lib.TabIs Tryd.prog W "escapement/calendar.monthDays" .i64 tab := Lib.tabIs_of_head gMonth tMonth Tryd.underlying109 Tryd.underlying3 (by kernel_rfl) (by kernel_rfl) (rest := []) h
  have hc : ∀ i : Nat, i < 12 → W.cell? ⟨1, i, none⟩ = some (.int .i64 (tab.getD i 0)) := fun i hi => hT.cell gMonth i hi
  exact ⟨hc, World.block_lt_of_cell? _ ⟨1, 0, none⟩ (hc 0 (by decide))⟩
set_option maxRecDepth 100000 in
/-- A pair of ints in memory, opened. -/
theorem open_pair {H : Type} {enc : TypeId × Value → H} {w : World} {base : Nat} {sp : Nat → Bool} {held : Bool} {fuel : Nat} {cs : List Value} {a b : Int} {p : List MemPlace}
    (h : DataW.trod enc Tryd.prog w base sp held fuel 54 cs = some (.agg [.lit (.int .i64 a), .lit (.int .i64 b)], p)) : cs = [.int .i64 a, .int .i64 b] := by
  obtain ⟨xs, n, _, hx, hl, hlen, hf⟩ := DataW.trod_struct Tryd.underlying54 h
  have c2 : Tryd.prog.cellsOf 54 = 2 := by kernel_rfl
  have c1 : Tryd.prog.cellsOf 3 = 1 := by kernel_rfl
  rw [c2] at hl
  have f0 : DataW.trod enc Tryd.prog w base sp held n 3 ((cs.drop 0).take (Tryd.prog.cellsOf 3)) = xs[0]? := hf 0 _ rfl
  have f1 : DataW.trod enc Tryd.prog w base sp held n 3 ((cs.drop 1).take (Tryd.prog.cellsOf 3)) = xs[1]? := hf 1 _ rfl
  rw [c1] at f0 f1
  match cs, hl with
  | [x, y], _ =>
    match xs, hlen with
    | [u, v], _ =>
      simp at f0 f1
      obtain ⟨m0, e0, d0, _⟩ := DataW.trod_int Tryd.underlying3 f0
      obtain ⟨m1, e1, d1, _⟩ := DataW.trod_int Tryd.underlying3 f1
      simp at e0 e1
      subst e0 e1 d0 d1
      simp at hx
      obtain ⟨⟨rfl, rfl⟩, _⟩ := hx
      rfl
set_option maxRecDepth 100000 in
theorem bnd_of_laid {W : World} (h : laidMetH Tryd.prog laid4 W) : ∀ i : Nat, i < 10 → W.cell? ⟨0, i, none⟩ = some (.int .i64 (bnds.getD i 0)) := by
  have h := h.filter (fun x => x.1 == "escapement/cron.bounds")
  have e : laid4.filter (fun x => x.1 == "escapement/cron.bounds") = [("escapement/cron.bounds", Rows.laid_escapement_cron_bounds)] := by kernel_rfl
  rw [e] at h
  rw [MakeChecks.laidMetH_plain _ _ _ (by kernel_rfl)] at h
  obtain ⟨ps, ⟨g', t', cs, fuel, p, q, hg', ht', hvar, hd, _, _⟩, _⟩ := h
  obtain rfl := Option.some.inj (gBound.symm.trans hg')
  obtain rfl := Option.some.inj (tBound.symm.trans ht')
  obtain ⟨xs, m, _, hx, hl, hlen, hf⟩ := DataW.trod_array Tryd.underlying55 hd
  have c2 : Tryd.prog.cellsOf 54 = 2 := by kernel_rfl
  have c10 : Tryd.prog.cellsOf 55 = 10 := by kernel_rfl
  rw [c10] at hl
  rw [c2] at hf
  obtain ⟨cs⟩ := cs
  simp only at hl hf
  have hcs : cs = bnds.map (Value.int .i64) := by
    match cs, hl with
    | [x0, x1, x2, x3, x4, x5, x6, x7, x8, x9], _ =>
      match xs, hlen with
      | [u0, u1, u2, u3, u4], _ =>
        have f0 := hf 0 (by decide)
        have f1 := hf 1 (by decide)
        have f2 := hf 2 (by decide)
        have f3 := hf 3 (by decide)
        have f4 := hf 4 (by decide)
        simp at f0 f1 f2 f3 f4
        have hx1 := congrArg Prod.fst hx
        simp [Rows.laid_escapement_cron_bounds] at hx1
        obtain ⟨k0, k1, k2, k3, k4⟩ := hx1
        obtain ⟨u0a, u0b⟩ := u0
        obtain ⟨u1a, u1b⟩ := u1
        obtain ⟨u2a, u2b⟩ := u2
        obtain ⟨u3a, u3b⟩ := u3
        obtain ⟨u4a, u4b⟩ := u4
        simp only at k0 k1 k2 k3 k4
        subst k0 k1 k2 k3 k4
        have g0 := open_pair f0
        have g1 := open_pair f1
        have g2 := open_pair f2
        have g3 := open_pair f3
        have g4 := open_pair f4
        simp at g0 g1 g2 g3 g4
        obtain ⟨rfl, rfl⟩ := g0
        obtain ⟨rfl, rfl⟩ := g1
        obtain ⟨rfl, rfl⟩ := g2
        obtain ⟨rfl, rfl⟩ := g3
        obtain ⟨rfl, rfl⟩ := g4
        rfl
  intro i hi
  have := World.var?_cell gBound hvar i
  rw [this, hcs]
  have hb : bnds.length = 10 := rfl
  simp [List.getD, hb, hi]
theorem env_of_laid {W : World} (h : laidMetH Tryd.prog laid4 W) : Env W :=
  ⟨tab_of_laid h, bnd_of_laid h, World.block_lt_of_cell? _ ⟨0, 0, none⟩ (bnd_of_laid h 0 (by decide))⟩
set_option maxRecDepth 100000 in
theorem door_met (os : Os) (args : Array Value) : laidMetH Tryd.prog laid4 ((World.laidAll Tryd.prog os laid4).forCall (fun _ _ => 0) ⟨#[], args, []⟩).memory := by
  rw [MakeChecks.laidMetH_plain _ _ _ (by kernel_rfl)]
  exact laidMet_laidAll _ (by kernel_rfl) (by kernel_rfl)
end Go.Proofs.YtbgioclbjbmicaaDoor
