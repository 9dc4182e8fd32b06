/- PlanSames: plans that are the same; bare, as a plan. -/
import Derived.Test.YtpblmleodcaamaaGBar
import Derived.Test.YtpblmleodcaamaaGSmF
namespace Go.Proofs.Ytpblmleodcaamaa
namespace Gr
open Go.RowKit

theorem Alk.sym {x y : No} (h : Alk x y) : Alk y x := by
  obtain ⟨h0, h1, h2, h3, h4, h5, h6, h7, h8, h9⟩ := h
  exact ⟨h0.symm, h1.symm, h2.symm, h3.symm, h4.symm, h5.symm, h6.symm, h7.symm, h8.symm, h9.symm⟩
theorem Alk.tr {x y z : No} (h : Alk x y) (g : Alk y z) : Alk x z := by
  obtain ⟨h0, h1, h2, h3, h4, h5, h6, h7, h8, h9⟩ := h
  obtain ⟨g0, g1, g2, g3, g4, g5, g6, g7, g8, g9⟩ := g
  exact ⟨h0.trans g0, h1.trans g1, h2.trans g2, h3.trans g3, h4.trans g4, h5.trans g5, h6.trans g6, h7.trans g7, h8.trans g8, h9.trans g9⟩
theorem Alks.sym {xs ys : List No} (h : Alks xs ys) : Alks ys xs := ⟨h.1.symm, fun i y x hy hx => (h.2 i x y hx hy).sym⟩
theorem Alks.tr {xs ys zs : List No} (h : Alks xs ys) (g : Alks ys zs) : Alks xs zs := ⟨h.1.trans g.1, fun i x z hx hz => by
  have hl : i < ys.length := by rw [← h.1]; exact (List.getElem?_eq_some_iff.1 hx).1
  have hy : ys[i]? = some (ys[i]'hl) := List.getElem?_eq_getElem _
  exact (h.2 i x _ hx hy).tr (g.2 i _ z hy hz)⟩
theorem Alks.rfl' (xs : List No) : Alks xs xs := ⟨rfl, fun i x y hx hy => by
  rw [hx] at hy
  obtain rfl := Option.some.inj hy
  exact ⟨rfl, rfl, rfl, rfl, rfl, rfl, rfl, rfl, rfl, rfl⟩⟩
/-- the same, through plans that are the same as these -/
theorem AlkP.via {nm nm' : ByteArray} {dl dl' : Int} {xs ys xs' ys' : List No} (h : Alks xs xs') (g : Alks ys ys') : AlkP nm dl xs nm' dl' ys ↔ AlkP nm dl xs' nm' dl' ys' :=
  ⟨fun k => ⟨k.1, k.2.1, (h.sym.tr k.2.2).tr g⟩, fun k => ⟨k.1, k.2.1, (h.tr k.2.2).tr g.sym⟩⟩
theorem AlkP.turn {nm nm' : ByteArray} {dl dl' : Int} {xs ys : List No} : AlkP nm dl xs nm' dl' ys ↔ AlkP nm' dl' ys nm dl xs :=
  ⟨fun k => ⟨k.1.symm, k.2.1.symm, k.alks.sym⟩, fun k => ⟨k.1.symm, k.2.1.symm, k.alks.sym⟩⟩
theorem er_alks {xs ys : List No} (h : ys.map Rn.er = xs.map Rn.er) : Alks ys xs := by
  have hl : ys.length = xs.length := by have := congrArg List.length h; simpa using this
  refine ⟨hl, fun i y x hy hx => ?_⟩
  have e : (ys.map Rn.er)[i]? = (xs.map Rn.er)[i]? := by rw [h]
  rw [List.getElem?_map, List.getElem?_map, hy, hx] at e
  have e2 : Rn.er y = Rn.er x := Option.some.inj e
  have c1 := congrArg No.nl e2
  have c2 := congrArg No.al e2
  have c3 := congrArg (fun z : No => z.q.nm) e2
  have c4 := congrArg (fun z : No => z.q.la) e2
  have c5 := congrArg (fun z : No => z.q.bu) e2
  have c6 := congrArg (fun z : No => z.q.cl) e2
  have c7 := congrArg (fun z : No => z.q.be) e2
  have c8 := congrArg (fun z : No => z.q.ba) e2
  have c9 := congrArg (fun z : No => z.q.ca) e2
  have c10 := congrArg (fun z : No => z.q.ji) e2
  exact ⟨c1, c2, c3, c4, c5, c6, c7, c8, c9, c10⟩
def BrE (nm : ByteArray) (dl : Int) (n : Nat) (xs : List No) (W : World) (e : Ending) (w' : World) : Prop := ∃ a3 c3 yb, e = .returned (.agg #[.string nm, .int .i64 dl, .slice a3 n c3]) ∧ RdP w'.heap.size w' (a3, n, c3) yb ∧ Alks yb xs ∧ Keep (fun _ => False) W w'
theorem bare_pl (nm : ByteArray) (dl : Int) (s : Option Addr × Nat × Nat) (xs : List No) (W : World) (B : Nat) (hP : RdP B W s xs) (hB : B ≤ W.heap.size) (hc : Rn.CapP xs) (hes : xs.length + edges xs ≤ 20000) :
    Calls Try.prog 21 #[.agg #[.string nm, .int .i64 dl, .slice s.1 s.2.1 s.2.2]] W (BrE nm dl s.2.1 xs W) :=
  (Rn.bare_any nm dl s xs W (hP.mono hB) hc (by omega) (edges_at hes)).mono fun e w' ⟨a3, c3, ys, h1, h2, h3, h4, h5⟩ => by
    have hn : s.2.1 = xs.length := hP.1
    have hA := er_alks h4
    refine ⟨a3, c3, ys, by rw [h1, hn], ?_, hA, Keep.ofBelow h5 (Nat.le_refl _)⟩
    rw [hn]
    refine h3.rd (by omega) fun y hy => ?_
    obtain ⟨k, hk⟩ := List.getElem?_of_mem hy
    have hkl : k < xs.length := by have := (List.getElem?_eq_some_iff.1 hk).1; omega
    have hx : xs[k]? = some (xs[k]'hkl) := List.getElem?_eq_getElem _
    have ha := hA.2 k y _ hk hx
    have hb := edges_at hes _ (List.mem_of_getElem? hx)
    rw [ha.1, ha.2.1]
    omega
/-- a bool that is told by what is so -/
theorem SmE.yes {P : Prop} {e : Ending} (h : SmE P e) (p : P) : e = .returned (.bool true) := by
  obtain ⟨r, rfl, hr⟩ := h
  rw [hr.2 p]
open Classical in
theorem SmE.dec {P Q : Prop} {e : Ending} (h : SmE P e) (k : P ↔ Q) : e = .returned (.bool (decide Q)) := by
  obtain ⟨r, rfl, hr⟩ := h
  have : r = decide Q := by
    rw [Bool.eq_iff_iff, hr, k]
    simp
  rw [this]
end Gr
end Go.Proofs.Ytpblmleodcaamaa
