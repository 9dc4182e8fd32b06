/- Package disk: cut, drop, Remove. -/
import Derived.Test.YtilpidioengnbaaDApp
namespace Go.Proofs.Ytilpidioengnbaa
open Go.RowKit Go.Lib

/-- what cut leaves: a beginning of the row -/
def Cutt (w : World) (v : Value) (l : List Nat) (e : Ending) (w' : World) : Prop :=
  ∃ v', e = .returned v' ∧ Row w' v' l ∧ Keep (fun k => v.ownBlock = some k) w w' ∧ v'.ownBlock = v.ownBlock

theorem setCells_row (g off0 : Nat) (t : TypeId) : ∀ (cs : List Value) (off : Nat) (w : World) (cur : List Value), off0 ≤ off → w.heap[g]? = some (.cells cur.toArray t (0, 0)) →
    ∃ cur' : List Value, (w.setCells g off cs).heap[g]? = some (.cells cur'.toArray t (0, 0)) ∧ cur'.length = cur.length ∧ cur'.take off0 = cur.take off0 ∧ Keep (fun k => k = g) w (w.setCells g off cs)
  | [], off, w, cur, _, h => ⟨cur, h, rfl, rfl, Keep.refl _ _⟩
  | v :: r, off, w, cur, ho, h => by
    have h1 := set_blk h off v
    obtain ⟨cur', a1, a2, a3, a4⟩ := setCells_row g off0 t r (off + 1) (w.setCell ⟨g, off, none⟩ v) (cur.set off v) (by omega) (by rw [h1]; simp)
    refine ⟨cur', a1, by rw [a2]; simp, ?_, (keep_cell w g off v).more a4⟩
    rw [a3]
    apply List.ext_getElem?
    intro i
    by_cases hi : i < off0
    · rw [List.getElem?_take_of_lt hi, List.getElem?_take_of_lt hi, List.getElem?_set_ne (by omega)]
    · rw [List.getElem?_take_eq_none (by omega), List.getElem?_take_eq_none (by omega)]

theorem slice_after (g l m c : Nat) (hm : m ≤ l) (hc : l ≤ c) : ∃ a', (∀ wx, (Instr.slice 33 (.slice (some ⟨g, 0, none⟩) l c) (some (.int .i64 (m : Int))) none none).run Try.prog wx = .ok (.slice a' (l - m) (c - m)) wx) ∧ (0 < l - m → a' = some ⟨g, m, none⟩) := by
  refine ⟨if c = m then some ⟨g, 0, none⟩ else some ⟨g, m, none⟩, fun wx => ?_, fun h => by rw [if_neg (by omega)]⟩
  by_cases h : c = m
  · subst h
    obtain rfl : l = c := by omega
    go_simp
  · rw [if_neg h]
    go_simp

/-- clear of a part of a row -/
theorem clear_run (w : World) (g l m cap : Nat) (a' : Option Addr) (cur : List Value) (hg : w.heap[g]? = some (.cells cur.toArray 5 (0, 0))) (hl : l ≤ cur.length) (ha : 0 < l - m → a' = some ⟨g, m, none⟩) :
    ∃ (w' : World) (cur' : List Value), (∀ ty, (Builtin.clear_ #[33] ty #[.slice a' (l - m) cap]).run Try.prog w = .ok (.tuple #[]) w') ∧ w'.heap[g]? = some (.cells cur'.toArray 5 (0, 0)) ∧ cur'.length = cur.length ∧ cur'.take m = cur.take m ∧ Keep (fun k => k = g) w w' := by
  by_cases h0 : l - m = 0
  · refine ⟨w, cur, fun ty => ?_, hg, rfl, rfl, Keep.refl _ _⟩
    rw [h0]
    cases a' <;> simp [Builtin.clear_, run_underlying Try.underlying33]
  · obtain ⟨cur', a1, a2, a3, a4⟩ := setCells_row g m 5 (List.replicate (l - m) (.int .u8 0)) m w cur (Nat.le_refl _) hg
    refine ⟨_, cur', fun ty => ?_, a1, a2, a3, a4⟩
    rw [ha (by omega)]
    refine Lib.run_clear_slice w 33 5 ty (.int .u8 0) Try.underlying33 zero_u8 rfl rfl g m (l - m) cap (by omega) (fun j hj => ?_) (fun j hj => frozen_blk hg _)
    rw [cell_blk hg (m + j) (v := cur[m + j]'(by omega)) (by simp)]
    rfl

set_option maxHeartbeats 1000000 in
set_option maxRecDepth 100000 in
theorem cut_any (v : Value) (l : List Nat) (m : Nat) (w : World) (hr : Row w v l) (hm : m ≤ l.length) :
    Calls Try.prog 53 #[v, .int .i64 m] w (Cutt w v (l.take m)) := by
  rcases hr.parts with ⟨rfl, rfl⟩ | ⟨g, cap, cur, rfl, h1, h2, h3, h4, h5⟩
  · obtain rfl : m = 0 := by simpa using hm
    have hs1 : ∀ wx, (Instr.slice 33 (.slice none 0 0) (some (.int .i64 ((0 : Nat) : Int))) none none).run Try.prog wx = .ok (.slice none 0 0) wx := fun wx => by go_simp
    have hs2 := slice_to_nil
    have hc : ∀ ty, (Builtin.clear_ #[33] ty #[.slice none 0 0]).run Try.prog w = .ok (.tuple #[]) w := fun ty => by simp [Builtin.clear_, run_underlying Try.underlying33]
    go_enter Try.func53, Try.ntmps53
    go_wp2
    go_ret
    exact ⟨_, rfl, row_nil _, Keep.refl _ _, rfl⟩
  · obtain ⟨a', hs1, ha⟩ := slice_after g l.length m cap hm h2
    obtain ⟨w1, cur', hc, b1, b2, b3, b4⟩ := clear_run w g l.length m (cap - m) a' cur h1 (by omega) ha
    have hs2 := slice_to g l.length m cap (by omega)
    have hlm : (l.take m).length = m := by rw [List.length_take]; omega
    have HF : Hid (Cutt w (.slice (some ⟨g, 0, none⟩) l.length cap) (l.take m) (.returned (.slice (some ⟨g, 0, none⟩) m cap)) w1) := by
      refine ⟨_, rfl, ?_, b4.mono fun i e => by rw [e]; rfl, rfl⟩
      have := row_mk (l := l.take m) b1 (cap := cap) (by rw [hlm]; omega) h3 (by omega) (by rw [hlm, b3, B8, List.map_take, ← B8, ← h5, List.take_take, Nat.min_eq_left hm]) (fun d hd => hr.2 d (List.mem_of_mem_take hd))
      rw [hlm] at this
      exact this
    clear h1 h2 h3 h4 h5 b1 b2 b3 b4 ha hlm hr hm
    go_enter Try.func53, Try.ntmps53
    go_wp2
    go_ret
    exact HF.out

/-- what drop leaves -/
def Dropped (w : World) (p : Nat) (s : St) (bt bo : Nat) (val : Int → Value) (k : Int) (l : List Nat) (e : Ending) (w' : World) : Prop :=
  e = .returned (.tuple #[]) ∧ w'.heap[p]? = some (.cells (dcells { s with used := s.used - (64 + l.length) } bt bo) 68 (0, 0)) ∧ MapIs w' bt (upd (fun j => (s.there j).map fun _ => val j) k none) ∧ Keep (fun i => i = p ∨ i = bt) w w'

set_option maxRecDepth 10000 in
set_option maxHeartbeats 1000000 in
theorem drop_any (S : Nat → Prop) (w : World) (p : Nat) (s : St) (bt bo : Nat) (val : Int → Value) (k : Int) (l : List Nat) (h : DIn S w p s bt bo val) (h1 : -9223372036854775808 ≤ k) (h2 : k ≤ 9223372036854775807) (ht : s.there k = some l) (hu : 64 + l.length ≤ s.used) (hb : s.used < 1152921504606846976) :
    Calls Try.prog 52 #[.pointer (some ⟨p, 0, none⟩), .int .i64 k] w (Dropped w p s bt bo val k l) := by
  have hd : DIn S w.drew p s bt bo val := h.stay (T := fun _ => False) (Keep.drew _ _) fun _ _ _ f => f
  have c1 := hd.c1
  have c2 := hd.c2
  have f1 := hd.fz 1
  have hl := (h.mt.look mapT zeroS h1 h2 1).2
  rw [show w.drewN 1 = w.drew from rfl] at hl
  obtain ⟨av, cv, hv⟩ := ownsRow_shape (h.row k l (by unfold St.held; rw [ht])).1
  simp only [ht, Option.map_some, Option.getD_some, hv] at hl
  have hw1 := wrap_id (n := 64 + (l.length : Int)) (by omega) (by omega)
  obtain ⟨q, hq⟩ : ∃ q : Nat, q = s.used - (64 + l.length) := ⟨_, rfl⟩
  have hw2 : wrap64 ((s.used : Int) - (64 + (l.length : Int))) = (q : Int) := by unfold wrap64; omega
  have w1' : IntKind.i64.wrap (64 + (l.length : Int)) = 64 + (l.length : Int) := wr (by omega) (by omega)
  have w2' : IntKind.i64.wrap ((s.used : Int) - (64 + (l.length : Int))) = (q : Int) := by rw [wr (by omega) (by omega)]; omega
  have H := hide hd
  have HT := hide ht
  have HQ := hide hq
  have HS := hide (h.mt.of_blk (w' := w.drew) rfl)
  clear h hd ht hu hb hv hq
  go_enter Try.func52, Try.ntmps52
  go_wp2
  go_region
  generalize hW : (w.setCell ⟨p, 1, none⟩ (.int .i64 (q : Int))).drew = W
  have kW : Keep (fun i => i = p) w W := by rw [← hW]; exact (keep_cell w p 1 _).more (Keep.drew _ _)
  have bW : W.heap[p]? = some (.cells (dcells { s with used := s.used - (64 + l.length) } bt bo) 68 (0, 0)) := by
    rw [← hW]
    show (w.setCell ⟨p, 1, none⟩ (.int .i64 (q : Int))).heap[p]? = _
    rw [set_blk (show w.heap[p]? = some (.cells (dcells s bt bo) 68 (0, 0)) from H.out.blk) 1 _, ← HQ.out]
    rfl
  have c2' : W.cell? ⟨p, 2, none⟩ = some (.map (some bt)) := cell_blk bW 2 rfl
  have M1 := hide (HS.out.keep (w' := W) (S := fun i => i = p) ⟨kW.os, kW.tape, kW.output, kW.size, kW.block⟩ fun e => H.out.pt e.symm)
  have KW := hide kW
  have BW := hide bW
  clear hW kW bW hl c1 c2 f1
  go_wp2_with (at_delete; refine wpList_drop rfl _ _ 65 rfl 33 mapT bt _ k rfl rfl M1.out h1 h2 ?_; intro w2 m2 k2 _)
  exact bodyPost_ret (v := .tuple #[]) (by simp [results, Try.results52, go_sem]) rfl ⟨rfl, k2.blk BW.out (fun e => H.out.pt e), m2, (KW.out.mono fun i e => .inl e).more (k2.mono fun i e => .inr e)⟩

end Go.Proofs.Ytilpidioengnbaa
