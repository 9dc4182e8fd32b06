/- The law's took of a step: plain values (written by tk_gen.py). -/
import Derived.Test.YtoelgcagahmndaaGreatPTo2
import Derived.Test.YtoelgcagahmndaaGreatPPu1
import Derived.Laws.Rows
namespace Go.Proofs.YtoelgcagahmndaaGreat
namespace Wm
open Go.RowKit Go.Deep

def put7 (w : World) (g : Nat) (a b c d e f h : Value) : World := ((((((w.setCell ⟨g, 0, none⟩ a).setCell ⟨g, 1, none⟩ b).setCell ⟨g, 2, none⟩ c).setCell ⟨g, 3, none⟩ d).setCell ⟨g, 4, none⟩ e).setCell ⟨g, 5, none⟩ f).setCell ⟨g, 6, none⟩ h
theorem keep_cell (w : World) (p j : Nat) (v : Value) : Keep (fun k => k = p) w (w.setCell ⟨p, j, none⟩ v) := Keep.setCell (S := fun k => k = p) w (p := ⟨p, j, none⟩) rfl v
theorem set_blk {w : World} {p : Nat} {cs : Array Value} {t : TypeId} (h : w.heap[p]? = some (.cells cs t (0, 0))) (j : Nat) (v : Value) : (w.setCell ⟨p, j, none⟩ v).heap[p]? = some (.cells (cs.setIfInBounds j v) t (0, 0)) := by
  simp [World.setCell, Array.getElem?_modify, h]
theorem put7_keep (w : World) (g : Nat) (a b c d e f h : Value) : Keep (fun i => i = g) w (put7 w g a b c d e f h) := ((((((keep_cell w g 0 a).more (keep_cell _ g 1 b)).more (keep_cell _ g 2 c)).more (keep_cell _ g 3 d)).more (keep_cell _ g 4 e)).more (keep_cell _ g 5 f)).more (keep_cell _ g 6 h)
theorem put7_blk {w : World} {g : Nat} {x0 x1 x2 x3 x4 x5 x6 : Value} {t : TypeId} (hh : w.heap[g]? = some (.cells #[x0, x1, x2, x3, x4, x5, x6] t (0, 0))) (a b c d e f h : Value) : (put7 w g a b c d e f h).heap[g]? = some (.cells #[a, b, c, d, e, f, h] t (0, 0)) := by
  unfold put7
  rw [set_blk (set_blk (set_blk (set_blk (set_blk (set_blk (set_blk hh 0 a) 1 b) 2 c) 3 d) 4 e) 5 f) 6 h]
  rfl
theorem info_told : (Tryz.prog.info? 77).map (·.size) = some 7 := by kernel_rfl
theorem res7 {fn : Func} {p : Tmp} (hh : fn.results = #[.cell p 77]) (tmps : Array Value) (w : World) (g : Nat) (a b c d e f h : Value) (hp : tmps.getD p undef = .pointer (some ⟨g, 0, none⟩)) (hg : w.heap[g]? = some (.cells #[a, b, c, d, e, f, h] 77 (0, 0))) :
    (results fn tmps).run Tryz.prog w = .ok (.agg #[a, b, c, d, e, f, h]) w :=
  results_cell_row hh tmps w g 77 #[a, b, c, d, e, f, h] (0, 0) _ hp hg Tryz.underlying77 rfl (by rw [info_told]; rfl)
/-- what took does -/
def TkE (r : Nat) (s' : K.RS) (t : Td) (w : World) (en : Ending) (w' : World) : Prop := ∃ v, en = .returned v ∧ TdV w' v t ∧ Rr w' r s' ∧ Keep (fun k => k = r) w w'
def z7 : Array Value := #[.int .i64 0, .int .u64 0, .bool false, .string ⟨#[]⟩, .slice none 0 0, .slice none 0 0, .slice none 0 0]
/-- the told value's block -/
structure Bk (w W : World) (g g1 : Nat) (cs : Array Value) : Prop where
  a : w.heap.size ≤ g
  b : w.heap.size ≤ g1
  st : W.heap[g]? = some (.cells cs 74 (0, 0))
  td : W.heap[g1]? = some (.cells z7 77 (0, 0))
theorem Bk.keep {w W W' : World} {g g1 r : Nat} {cs : Array Value} (h : Bk w W g g1 cs) (hk : Keep (fun k => k = r) W W') (hr : r < w.heap.size) : Bk w W' g g1 cs :=
  ⟨h.a, h.b, hk.blk h.st (fun e => by have := h.a; omega), hk.blk h.td (fun e => by have := h.b; omega)⟩
theorem Bk.new {w W W' : World} {g g1 : Nat} {cs : Array Value} (h : Bk w W g g1 cs) (hb : Below W.heap.size W W') : Bk w W' g g1 cs :=
  ⟨h.a, h.b, (Keep.ofBelow (S := fun _ => False) hb (Nat.le_refl _)).blk h.st fun f => f, (Keep.ofBelow (S := fun _ => False) hb (Nat.le_refl _)).blk h.td fun f => f⟩
theorem Bk.froz {w W : World} {g g1 : Nat} {cs : Array Value} (h : Bk w W g g1 cs) (j : Nat) : W.frozen? ⟨g1, j, none⟩ = false := frozen_of_row W g1 j _ _ h.td
theorem Bk.cells {w W : World} {g g1 : Nat} {cs : Array Value} (h : Bk w W g g1 cs) : W.cell? ⟨g1, 0, none⟩ = some (.int .i64 0) ∧ W.cell? ⟨g1, 1, none⟩ = some (.int .u64 0) ∧ W.cell? ⟨g1, 2, none⟩ = some (.bool false) ∧ W.cell? ⟨g1, 3, none⟩ = some (.string ⟨#[]⟩) ∧ W.cell? ⟨g1, 4, none⟩ = some (.slice none 0 0) ∧ W.cell? ⟨g1, 5, none⟩ = some (.slice none 0 0) ∧ W.cell? ⟨g1, 6, none⟩ = some (.slice none 0 0) := by
  refine ⟨?_, ?_, ?_, ?_, ?_, ?_, ?_⟩ <;> (rw [cell_of_row _ _ _ _ _ _ h.td]; rfl)
theorem Bk.done {w W : World} {r g g1 : Nat} {cs : Array Value} {s' : K.RS} {t : Td} (h : Bk w W g g1 cs) (hr : Rr W r s') (hrw : r < w.heap.size) (hk : Keep (fun k => k = r) w W) {aT nT cT aL nL cL aD nD cD} (hT : Els (NR W) W aT nT (sv t.T)) (hL : Els (NR W) W aL nL (iv t.L)) (hD : RowsAt (NR W) W aD nD t.D) :
    TkE r s' t w (.returned (.agg #[.int .i64 t.N, .int .u64 (t.W : Nat), .bool t.F, .string t.S, .slice aT nT cT, .slice aL nL cL, .slice aD nD cD])) (put7 W g1 (.int .i64 t.N) (.int .u64 (t.W : Nat)) (.bool t.F) (.string t.S) (.slice aT nT cT) (.slice aL nL cL) (.slice aD nD cD)) := by
  have k7 := put7_keep W g1 (.int .i64 t.N) (.int .u64 (t.W : Nat)) (.bool t.F) (.string t.S) (.slice aT nT cT) (.slice aL nL cL) (.slice aD nD cD)
  have hS : ∀ k, k = g1 → k < W.heap.size → IsR W k := fun k e _ => by rw [e]; exact ⟨_, _, _, h.td, by decide⟩
  have hb := h.b
  exact ⟨_, rfl, ⟨_, _, _, _, _, _, _, _, _, rfl, els_nr hT k7 hS, els_nr hL k7 hS, rows_nr hD k7 hS⟩, hr.stay k7 fun k hk e => by have : k = g1 := e; omega, hk.trans k7 fun i e => .inr (by have : i = g1 := e; omega)⟩
set_option maxRecDepth 100000 in
set_option maxHeartbeats 4000000 in
theorem took_num (r : Nat) (s : K.RS) (wh : Int) (le mo nn : Int) (x4 x5 x6 x7 x8 x9 x10 : Value) (w : World) (h : Rr w r s) (h1 : -9223372036854775808 ≤ wh) (h2 : wh ≤ 9223372036854775807) (hk : ((pk wh : Nat) : Int) = 0) :
    Calls Tryz.prog 33 #[.pointer (some ⟨r, 0, none⟩), .agg #[.int .i64 wh, .int .i64 le, .int .i64 mo, .int .i64 nn, x4, x5, x6, x7, x8, x9, x10]] w (TkE r (takeR (numR le mo) s) ({ td0 with N := okR (numR le mo) s ((numV s : Nat) : Int) 0 }) w) := by
  have hrw := h.lt
  have HH := hide h
  have HB : Hid (Bk w ((w.alloc (.cells #[.int .i64 wh, .int .i64 le, .int .i64 mo, .int .i64 nn, x4, x5, x6, x7, x8, x9, x10] 74)).alloc (.cells z7 77)) w.heap.size (w.heap.size + 1) #[.int .i64 wh, .int .i64 le, .int .i64 mo, .int .i64 nn, x4, x5, x6, x7, x8, x9, x10]) := ⟨Nat.le_refl _, by omega, (Keep.alloc (fun _ => False) _ _).blk (heap_alloc_new w _) fun f => f, by have := heap_alloc_new (w.alloc (.cells #[.int .i64 wh, .int .i64 le, .int .i64 mo, .int .i64 nn, x4, x5, x6, x7, x8, x9, x10] 74)) (.cells z7 77); simpa using this⟩
  have HK : Hid (Below w.heap.size w ((w.alloc (.cells #[.int .i64 wh, .int .i64 le, .int .i64 mo, .int .i64 nn, x4, x5, x6, x7, x8, x9, x10] 74)).alloc (.cells z7 77))) := ((Below.refl _ _).alloc (Nat.le_refl _) _).alloc (by simp) _
  have HR := hide (h.below HK.out)
  have HKr := hide (Keep.ofBelow (S := fun k => k = r) HK.out (Nat.le_refl _))
  obtain ⟨s1, hs1⟩ : ∃ s1, takeR (numR le mo) s = s1 := ⟨_, rfl⟩
  rw [hs1]
  have HS1 := hide hs1
  clear h hs1
  go_enter Tryz.func33, Tryz.ntmps33
  go_upto_region 1 with fail
  change Code.wp _ _ _ _ ((w.alloc (.cells #[.int .i64 wh, .int .i64 le, .int .i64 mo, .int .i64 nn, x4, x5, x6, x7, x8, x9, x10] 74)).alloc (.cells z7 77))
  generalize (w.alloc (.cells #[.int .i64 wh, .int .i64 le, .int .i64 mo, .int .i64 nn, x4, x5, x6, x7, x8, x9, x10] 74)).alloc (.cells z7 77) = W at *
  generalize hg : w.heap.size = g at *
  have HG := hide hg
  clear hg
  obtain ⟨y0, _⟩ := cells11 HB.out.st
  go_wp2_with fail
  refine (pick_any wh h1 h2 _).mono ?_
  rintro e w1 ⟨rfl, rfl⟩
  rw [hk]
  clear y0
  obtain ⟨_, y1, y2, _, _, _, _, _, _, _, _⟩ := cells11 HB.out.st
  go_wp2_with (first
    | (go_at_call 57; refine (take_num r l8 m8 le mo s _ (HR.out.below HB8.out) HL8.out HM8.out (Nat.lt_of_lt_of_le HR.out.lt HG8.out.1) (Nat.lt_of_lt_of_le HR.out.lt HG8.out.2) _ _).mono ?_; rintro e w9 ⟨rfl, hr9, hk9⟩; rw [HS1.out] at hr9; have HR9 := hide hr9; have HK9 := hide (HKr.out.more ((Keep.ofBelow HB8.out (Nat.le_refl _)).more hk9)); have HBk := hide ((HB.out.new HB8.out).keep hk9 (by have := HG.out; omega)); obtain ⟨z0, z1, z2, z3, z4, z5, z6⟩ := HBk.out.cells; have f0 := HBk.out.froz 0; have f1 := HBk.out.froz 1; have f2 := HBk.out.froz 2; have f3 := HBk.out.froz 3; have f4 := HBk.out.froz 4; have f5 := HBk.out.froz 5; have f6 := HBk.out.froz 6; clear hr9 hk9)
    | (go_at_call 39; refine (Numbers_any le mo _).mono ?_; rintro e w8 ⟨l8, m8, rfl, hl8, hm8, hgl, hgm, hb8⟩; have HL8 := hide hl8; have HM8 := hide hm8; have HG8 := hide (And.intro hgl hgm); have HB8 := hide hb8; clear hl8 hm8 hgl hgm hb8))
  have HE := hide (HBk.out.done (t := { td0 with N := okR (numR le mo) s ((numV s : Nat) : Int) 0 }) HR9.out (by have := HG.out; omega) HK9.out (cT := 0) (cL := 0) (cD := 0) (els0 _) (els0 _) (rows0 _))
  exact bodyPost_ret (res7 rfl _ _ (g + 1) (.int .i64 (okR (numR le mo) s ((numV s : Nat) : Int) 0)) (.int .u64 0) (.bool false) (.string ⟨#[]⟩) (.slice none 0 0) (.slice none 0 0) (.slice none 0 0) rfl (put7_blk HBk.out.td _ _ _ _ _ _ _)) rfl HE.out
set_option maxRecDepth 100000 in
set_option maxHeartbeats 4000000 in
theorem took_word (r : Nat) (s : K.RS) (wh : Int)  (x1 x2 x3 x4 x5 x6 x7 x8 x9 x10 : Value) (w : World) (h : Rr w r s) (h1 : -9223372036854775808 ≤ wh) (h2 : wh ≤ 9223372036854775807) (hk : ((pk wh : Nat) : Int) = 1) :
    Calls Tryz.prog 33 #[.pointer (some ⟨r, 0, none⟩), .agg #[.int .i64 wh, x1, x2, x3, x4, x5, x6, x7, x8, x9, x10]] w (TkE r (takeR wordR s) ({ td0 with W := okR wordR s (wordV s) 0 }) w) := by
  have hrw := h.lt
  have HH := hide h
  have HB : Hid (Bk w ((w.alloc (.cells #[.int .i64 wh, x1, x2, x3, x4, x5, x6, x7, x8, x9, x10] 74)).alloc (.cells z7 77)) w.heap.size (w.heap.size + 1) #[.int .i64 wh, x1, x2, x3, x4, x5, x6, x7, x8, x9, x10]) := ⟨Nat.le_refl _, by omega, (Keep.alloc (fun _ => False) _ _).blk (heap_alloc_new w _) fun f => f, by have := heap_alloc_new (w.alloc (.cells #[.int .i64 wh, x1, x2, x3, x4, x5, x6, x7, x8, x9, x10] 74)) (.cells z7 77); simpa using this⟩
  have HK : Hid (Below w.heap.size w ((w.alloc (.cells #[.int .i64 wh, x1, x2, x3, x4, x5, x6, x7, x8, x9, x10] 74)).alloc (.cells z7 77))) := ((Below.refl _ _).alloc (Nat.le_refl _) _).alloc (by simp) _
  have HR := hide (h.below HK.out)
  have HKr := hide (Keep.ofBelow (S := fun k => k = r) HK.out (Nat.le_refl _))
  obtain ⟨s1, hs1⟩ : ∃ s1, takeR wordR s = s1 := ⟨_, rfl⟩
  rw [hs1]
  have HS1 := hide hs1
  clear h hs1
  go_enter Tryz.func33, Tryz.ntmps33
  go_upto_region 1 with fail
  change Code.wp _ _ _ _ ((w.alloc (.cells #[.int .i64 wh, x1, x2, x3, x4, x5, x6, x7, x8, x9, x10] 74)).alloc (.cells z7 77))
  generalize (w.alloc (.cells #[.int .i64 wh, x1, x2, x3, x4, x5, x6, x7, x8, x9, x10] 74)).alloc (.cells z7 77) = W at *
  generalize hg : w.heap.size = g at *
  have HG := hide hg
  clear hg
  obtain ⟨y0, _⟩ := cells11 HB.out.st
  go_wp2_with fail
  refine (pick_any wh h1 h2 _).mono ?_
  rintro e w1 ⟨rfl, rfl⟩
  rw [hk]
  clear y0
  obtain ⟨_, _, _, _, _, _, _, _, _, _, _⟩ := cells11 HB.out.st
  go_wp2_with (first
    | (go_at_call 90; refine (take_word r s _ (HR.out.below HB8.out) _ _).mono ?_; rintro e w9 ⟨rfl, hr9, hk9⟩; rw [HS1.out] at hr9; have HR9 := hide hr9; have HK9 := hide (HKr.out.more ((Keep.ofBelow HB8.out (Nat.le_refl _)).more hk9)); have HBk := hide ((HB.out.new HB8.out).keep hk9 (by have := HG.out; omega)); obtain ⟨z0, z1, z2, z3, z4, z5, z6⟩ := HBk.out.cells; have f0 := HBk.out.froz 0; have f1 := HBk.out.froz 1; have f2 := HBk.out.froz 2; have f3 := HBk.out.froz 3; have f4 := HBk.out.froz 4; have f5 := HBk.out.froz 5; have f6 := HBk.out.froz 6; clear hr9 hk9)
    | (go_at_call 73; refine (Words_any _).mono ?_; rintro e w8 ⟨rfl, hb8⟩; have HB8 := hide hb8; clear hb8))
  have HE := hide (HBk.out.done (t := { td0 with W := okR wordR s (wordV s) 0 }) HR9.out (by have := HG.out; omega) HK9.out (cT := 0) (cL := 0) (cD := 0) (els0 _) (els0 _) (rows0 _))
  exact bodyPost_ret (res7 rfl _ _ (g + 1) (.int .i64 0) (.int .u64 ((okR wordR s (wordV s) 0 : Nat) : Int)) (.bool false) (.string ⟨#[]⟩) (.slice none 0 0) (.slice none 0 0) (.slice none 0 0) rfl (put7_blk HBk.out.td _ _ _ _ _ _ _)) rfl HE.out
set_option maxRecDepth 100000 in
set_option maxHeartbeats 4000000 in
theorem took_flag (r : Nat) (s : K.RS) (wh : Int)  (x1 x2 x3 x4 x5 x6 x7 x8 x9 x10 : Value) (w : World) (h : Rr w r s) (h1 : -9223372036854775808 ≤ wh) (h2 : wh ≤ 9223372036854775807) (hk : ((pk wh : Nat) : Int) = 2) :
    Calls Tryz.prog 33 #[.pointer (some ⟨r, 0, none⟩), .agg #[.int .i64 wh, x1, x2, x3, x4, x5, x6, x7, x8, x9, x10]] w (TkE r (takeR flagR s) ({ td0 with F := okR flagR s (flagV s) false }) w) := by
  have hrw := h.lt
  have HH := hide h
  have HB : Hid (Bk w ((w.alloc (.cells #[.int .i64 wh, x1, x2, x3, x4, x5, x6, x7, x8, x9, x10] 74)).alloc (.cells z7 77)) w.heap.size (w.heap.size + 1) #[.int .i64 wh, x1, x2, x3, x4, x5, x6, x7, x8, x9, x10]) := ⟨Nat.le_refl _, by omega, (Keep.alloc (fun _ => False) _ _).blk (heap_alloc_new w _) fun f => f, by have := heap_alloc_new (w.alloc (.cells #[.int .i64 wh, x1, x2, x3, x4, x5, x6, x7, x8, x9, x10] 74)) (.cells z7 77); simpa using this⟩
  have HK : Hid (Below w.heap.size w ((w.alloc (.cells #[.int .i64 wh, x1, x2, x3, x4, x5, x6, x7, x8, x9, x10] 74)).alloc (.cells z7 77))) := ((Below.refl _ _).alloc (Nat.le_refl _) _).alloc (by simp) _
  have HR := hide (h.below HK.out)
  have HKr := hide (Keep.ofBelow (S := fun k => k = r) HK.out (Nat.le_refl _))
  obtain ⟨s1, hs1⟩ : ∃ s1, takeR flagR s = s1 := ⟨_, rfl⟩
  rw [hs1]
  have HS1 := hide hs1
  clear h hs1
  go_enter Tryz.func33, Tryz.ntmps33
  go_upto_region 1 with fail
  change Code.wp _ _ _ _ ((w.alloc (.cells #[.int .i64 wh, x1, x2, x3, x4, x5, x6, x7, x8, x9, x10] 74)).alloc (.cells z7 77))
  generalize (w.alloc (.cells #[.int .i64 wh, x1, x2, x3, x4, x5, x6, x7, x8, x9, x10] 74)).alloc (.cells z7 77) = W at *
  generalize hg : w.heap.size = g at *
  have HG := hide hg
  clear hg
  obtain ⟨y0, _⟩ := cells11 HB.out.st
  go_wp2_with fail
  refine (pick_any wh h1 h2 _).mono ?_
  rintro e w1 ⟨rfl, rfl⟩
  rw [hk]
  clear y0
  obtain ⟨_, _, _, _, _, _, _, _, _, _, _⟩ := cells11 HB.out.st
  go_wp2_with (first
    | (go_at_call 91; refine (take_flag r s _ (HR.out.below HB8.out) _ _).mono ?_; rintro e w9 ⟨rfl, hr9, hk9⟩; rw [HS1.out] at hr9; have HR9 := hide hr9; have HK9 := hide (HKr.out.more ((Keep.ofBelow HB8.out (Nat.le_refl _)).more hk9)); have HBk := hide ((HB.out.new HB8.out).keep hk9 (by have := HG.out; omega)); obtain ⟨z0, z1, z2, z3, z4, z5, z6⟩ := HBk.out.cells; have f0 := HBk.out.froz 0; have f1 := HBk.out.froz 1; have f2 := HBk.out.froz 2; have f3 := HBk.out.froz 3; have f4 := HBk.out.froz 4; have f5 := HBk.out.froz 5; have f6 := HBk.out.froz 6; clear hr9 hk9)
    | (go_at_call 75; refine (Flags_any _).mono ?_; rintro e w8 ⟨rfl, hb8⟩; have HB8 := hide hb8; clear hb8))
  have HE := hide (HBk.out.done (t := { td0 with F := okR flagR s (flagV s) false }) HR9.out (by have := HG.out; omega) HK9.out (cT := 0) (cL := 0) (cD := 0) (els0 _) (els0 _) (rows0 _))
  exact bodyPost_ret (res7 rfl _ _ (g + 1) (.int .i64 0) (.int .u64 0) (.bool (okR flagR s (flagV s) false)) (.string ⟨#[]⟩) (.slice none 0 0) (.slice none 0 0) (.slice none 0 0) rfl (put7_blk HBk.out.td _ _ _ _ _ _ _)) rfl HE.out
set_option maxRecDepth 100000 in
set_option maxHeartbeats 4000000 in
theorem took_text (r : Nat) (s : K.RS) (wh : Int) (mo : Int) (x1 x3 x4 x5 x6 x7 x8 x9 x10 : Value) (w : World) (h : Rr w r s) (h1 : -9223372036854775808 ≤ wh) (h2 : wh ≤ 9223372036854775807) (hk : ((pk wh : Nat) : Int) = 3) :
    Calls Tryz.prog 33 #[.pointer (some ⟨r, 0, none⟩), .agg #[.int .i64 wh, x1, .int .i64 mo, x3, x4, x5, x6, x7, x8, x9, x10]] w (TkE r (takeR (rowR mo) s) ({ td0 with S := okR (rowR mo) s (str (rowV mo s)) ⟨#[]⟩ }) w) := by
  have hrw := h.lt
  have HH := hide h
  have HB : Hid (Bk w ((w.alloc (.cells #[.int .i64 wh, x1, .int .i64 mo, x3, x4, x5, x6, x7, x8, x9, x10] 74)).alloc (.cells z7 77)) w.heap.size (w.heap.size + 1) #[.int .i64 wh, x1, .int .i64 mo, x3, x4, x5, x6, x7, x8, x9, x10]) := ⟨Nat.le_refl _, by omega, (Keep.alloc (fun _ => False) _ _).blk (heap_alloc_new w _) fun f => f, by have := heap_alloc_new (w.alloc (.cells #[.int .i64 wh, x1, .int .i64 mo, x3, x4, x5, x6, x7, x8, x9, x10] 74)) (.cells z7 77); simpa using this⟩
  have HK : Hid (Below w.heap.size w ((w.alloc (.cells #[.int .i64 wh, x1, .int .i64 mo, x3, x4, x5, x6, x7, x8, x9, x10] 74)).alloc (.cells z7 77))) := ((Below.refl _ _).alloc (Nat.le_refl _) _).alloc (by simp) _
  have HR := hide (h.below HK.out)
  have HKr := hide (Keep.ofBelow (S := fun k => k = r) HK.out (Nat.le_refl _))
  obtain ⟨s1, hs1⟩ : ∃ s1, takeR (rowR mo) s = s1 := ⟨_, rfl⟩
  rw [hs1]
  have HS1 := hide hs1
  clear h hs1
  go_enter Tryz.func33, Tryz.ntmps33
  go_upto_region 1 with fail
  change Code.wp _ _ _ _ ((w.alloc (.cells #[.int .i64 wh, x1, .int .i64 mo, x3, x4, x5, x6, x7, x8, x9, x10] 74)).alloc (.cells z7 77))
  generalize (w.alloc (.cells #[.int .i64 wh, x1, .int .i64 mo, x3, x4, x5, x6, x7, x8, x9, x10] 74)).alloc (.cells z7 77) = W at *
  generalize hg : w.heap.size = g at *
  have HG := hide hg
  clear hg
  obtain ⟨y0, _⟩ := cells11 HB.out.st
  go_wp2_with fail
  refine (pick_any wh h1 h2 _).mono ?_
  rintro e w1 ⟨rfl, rfl⟩
  rw [hk]
  clear y0
  obtain ⟨_, _, y2, _, _, _, _, _, _, _, _⟩ := cells11 HB.out.st
  go_wp2_with (first
    | (go_at_call 58; refine (take_text r m8 mo s _ (HR.out.below HB8.out) HM8.out (Nat.lt_of_lt_of_le HR.out.lt HG8.out) _ _).mono ?_; rintro e w9 ⟨rfl, hr9, hk9⟩; rw [HS1.out] at hr9; have HR9 := hide hr9; have HK9 := hide (HKr.out.more ((Keep.ofBelow HB8.out (Nat.le_refl _)).more hk9)); have HBk := hide ((HB.out.new HB8.out).keep hk9 (by have := HG.out; omega)); obtain ⟨z0, z1, z2, z3, z4, z5, z6⟩ := HBk.out.cells; have f0 := HBk.out.froz 0; have f1 := HBk.out.froz 1; have f2 := HBk.out.froz 2; have f3 := HBk.out.froz 3; have f4 := HBk.out.froz 4; have f5 := HBk.out.froz 5; have f6 := HBk.out.froz 6; clear hr9 hk9)
    | (go_at_call 43; refine (Texts_any mo _).mono ?_; rintro e w8 ⟨m8, rfl, hm8, hgm, hb8⟩; have HM8 := hide hm8; have HG8 := hide hgm; have HB8 := hide hb8; clear hm8 hgm hb8))
  have HE := hide (HBk.out.done (t := { td0 with S := okR (rowR mo) s (str (rowV mo s)) ⟨#[]⟩ }) HR9.out (by have := HG.out; omega) HK9.out (cT := 0) (cL := 0) (cD := 0) (els0 _) (els0 _) (rows0 _))
  exact bodyPost_ret (res7 rfl _ _ (g + 1) (.int .i64 0) (.int .u64 0) (.bool false) (.string (okR (rowR mo) s (str (rowV mo s)) ⟨#[]⟩)) (.slice none 0 0) (.slice none 0 0) (.slice none 0 0) rfl (put7_blk HBk.out.td _ _ _ _ _ _ _)) rfl HE.out
set_option maxRecDepth 100000 in
set_option maxHeartbeats 4000000 in
theorem took_blob (r : Nat) (s : K.RS) (wh : Int) (mo : Int) (x1 x3 x4 x5 x6 x7 x8 x9 x10 : Value) (w : World) (h : Rr w r s) (h1 : -9223372036854775808 ≤ wh) (h2 : wh ≤ 9223372036854775807) (hk : ((pk wh : Nat) : Int) = 4) :
    Calls Tryz.prog 33 #[.pointer (some ⟨r, 0, none⟩), .agg #[.int .i64 wh, x1, .int .i64 mo, x3, x4, x5, x6, x7, x8, x9, x10]] w (TkE r (takeR (rowR mo) s) ({ td0 with S := str (okR (rowR mo) s (rowV mo s) []) }) w) := by
  have hrw := h.lt
  have HH := hide h
  have HB : Hid (Bk w ((w.alloc (.cells #[.int .i64 wh, x1, .int .i64 mo, x3, x4, x5, x6, x7, x8, x9, x10] 74)).alloc (.cells z7 77)) w.heap.size (w.heap.size + 1) #[.int .i64 wh, x1, .int .i64 mo, x3, x4, x5, x6, x7, x8, x9, x10]) := ⟨Nat.le_refl _, by omega, (Keep.alloc (fun _ => False) _ _).blk (heap_alloc_new w _) fun f => f, by have := heap_alloc_new (w.alloc (.cells #[.int .i64 wh, x1, .int .i64 mo, x3, x4, x5, x6, x7, x8, x9, x10] 74)) (.cells z7 77); simpa using this⟩
  have HK : Hid (Below w.heap.size w ((w.alloc (.cells #[.int .i64 wh, x1, .int .i64 mo, x3, x4, x5, x6, x7, x8, x9, x10] 74)).alloc (.cells z7 77))) := ((Below.refl _ _).alloc (Nat.le_refl _) _).alloc (by simp) _
  have HR := hide (h.below HK.out)
  have HKr := hide (Keep.ofBelow (S := fun k => k = r) HK.out (Nat.le_refl _))
  obtain ⟨s1, hs1⟩ : ∃ s1, takeR (rowR mo) s = s1 := ⟨_, rfl⟩
  rw [hs1]
  have HS1 := hide hs1
  clear h hs1
  go_enter Tryz.func33, Tryz.ntmps33
  go_upto_region 1 with fail
  change Code.wp _ _ _ _ ((w.alloc (.cells #[.int .i64 wh, x1, .int .i64 mo, x3, x4, x5, x6, x7, x8, x9, x10] 74)).alloc (.cells z7 77))
  generalize (w.alloc (.cells #[.int .i64 wh, x1, .int .i64 mo, x3, x4, x5, x6, x7, x8, x9, x10] 74)).alloc (.cells z7 77) = W at *
  generalize hg : w.heap.size = g at *
  have HG := hide hg
  clear hg
  obtain ⟨y0, _⟩ := cells11 HB.out.st
  go_wp2_with fail
  refine (pick_any wh h1 h2 _).mono ?_
  rintro e w1 ⟨rfl, rfl⟩
  rw [hk]
  clear y0
  obtain ⟨_, _, y2, _, _, _, _, _, _, _, _⟩ := cells11 HB.out.st
  go_wp2_with (first
    | (go_at_call 92; refine (take_blob r m8 mo s _ (HR.out.below HB8.out) HM8.out (Nat.lt_of_lt_of_le HR.out.lt HG8.out) _ _).mono ?_; rintro e w9 ⟨a9, n9, c9, rfl, hrd9, hr9, hk9⟩; have hcv := conv_rd hrd9 c9; clear hrd9; rw [HS1.out] at hr9; have HR9 := hide hr9; have HK9 := hide (HKr.out.more ((Keep.ofBelow HB8.out (Nat.le_refl _)).more hk9)); have HBk := hide ((HB.out.new HB8.out).keep hk9 (by have := HG.out; omega)); obtain ⟨z0, z1, z2, z3, z4, z5, z6⟩ := HBk.out.cells; have f0 := HBk.out.froz 0; have f1 := HBk.out.froz 1; have f2 := HBk.out.froz 2; have f3 := HBk.out.froz 3; have f4 := HBk.out.froz 4; have f5 := HBk.out.froz 5; have f6 := HBk.out.froz 6; clear hr9 hk9)
    | (go_at_call 77; refine (Blobs_any mo _).mono ?_; rintro e w8 ⟨m8, rfl, hm8, hgm, hb8⟩; have HM8 := hide hm8; have HG8 := hide hgm; have HB8 := hide hb8; clear hm8 hgm hb8))
  have HE := hide (HBk.out.done (t := { td0 with S := str (okR (rowR mo) s (rowV mo s) []) }) HR9.out (by have := HG.out; omega) HK9.out (cT := 0) (cL := 0) (cD := 0) (els0 _) (els0 _) (rows0 _))
  exact bodyPost_ret (res7 rfl _ _ (g + 1) (.int .i64 0) (.int .u64 0) (.bool false) (.string (str (okR (rowR mo) s (rowV mo s) []))) (.slice none 0 0) (.slice none 0 0) (.slice none 0 0) rfl (put7_blk HBk.out.td _ _ _ _ _ _ _)) rfl HE.out
set_option maxRecDepth 100000 in
set_option maxHeartbeats 4000000 in
theorem took_fail (r : Nat) (s : K.RS) (wh : Int)  (x1 x2 x3 x4 x5 x6 x7 x8 x9 x10 : Value) (w : World) (h : Rr w r s) (h1 : -9223372036854775808 ≤ wh) (h2 : wh ≤ 9223372036854775807) (hk : ((pk wh : Nat) : Int) = 9) :
    Calls Tryz.prog 33 #[.pointer (some ⟨r, 0, none⟩), .agg #[.int .i64 wh, x1, x2, x3, x4, x5, x6, x7, x8, x9, x10]] w (TkE r (s.fail 22) (td0) w) := by
  have hrw := h.lt
  have HH := hide h
  have HB : Hid (Bk w ((w.alloc (.cells #[.int .i64 wh, x1, x2, x3, x4, x5, x6, x7, x8, x9, x10] 74)).alloc (.cells z7 77)) w.heap.size (w.heap.size + 1) #[.int .i64 wh, x1, x2, x3, x4, x5, x6, x7, x8, x9, x10]) := ⟨Nat.le_refl _, by omega, (Keep.alloc (fun _ => False) _ _).blk (heap_alloc_new w _) fun f => f, by have := heap_alloc_new (w.alloc (.cells #[.int .i64 wh, x1, x2, x3, x4, x5, x6, x7, x8, x9, x10] 74)) (.cells z7 77); simpa using this⟩
  have HK : Hid (Below w.heap.size w ((w.alloc (.cells #[.int .i64 wh, x1, x2, x3, x4, x5, x6, x7, x8, x9, x10] 74)).alloc (.cells z7 77))) := ((Below.refl _ _).alloc (Nat.le_refl _) _).alloc (by simp) _
  have HR := hide (h.below HK.out)
  have HKr := hide (Keep.ofBelow (S := fun k => k = r) HK.out (Nat.le_refl _))
  obtain ⟨s1, hs1⟩ : ∃ s1, s.fail 22 = s1 := ⟨_, rfl⟩
  rw [hs1]
  have HS1 := hide hs1
  clear h hs1
  go_enter Tryz.func33, Tryz.ntmps33
  go_upto_region 1 with fail
  change Code.wp _ _ _ _ ((w.alloc (.cells #[.int .i64 wh, x1, x2, x3, x4, x5, x6, x7, x8, x9, x10] 74)).alloc (.cells z7 77))
  generalize (w.alloc (.cells #[.int .i64 wh, x1, x2, x3, x4, x5, x6, x7, x8, x9, x10] 74)).alloc (.cells z7 77) = W at *
  generalize hg : w.heap.size = g at *
  have HG := hide hg
  clear hg
  obtain ⟨y0, _⟩ := cells11 HB.out.st
  go_wp2_with fail
  refine (pick_any wh h1 h2 _).mono ?_
  rintro e w1 ⟨rfl, rfl⟩
  rw [hk]
  clear y0
  go_wp2_with fail
  refine (rFail_any r s _ HR.out).mono ?_
  rintro e w9 ⟨rfl, hr9, hk9⟩
  rw [HS1.out] at hr9
  have HR9 := hide hr9
  have HK9 := hide (HKr.out.more hk9)
  have HBk := hide (HB.out.keep hk9 (by have := HG.out; omega))
  clear hr9 hk9
  obtain ⟨z0, z1, z2, z3, z4, z5, z6⟩ := HBk.out.cells
  have f0 := HBk.out.froz 0
  have f1 := HBk.out.froz 1
  have f2 := HBk.out.froz 2
  have f3 := HBk.out.froz 3
  have f4 := HBk.out.froz 4
  have f5 := HBk.out.froz 5
  have f6 := HBk.out.froz 6
  have HE := hide (HBk.out.done (t := td0) HR9.out (by have := HG.out; omega) HK9.out (cT := 0) (cL := 0) (cD := 0) (els0 _) (els0 _) (rows0 _))
  go_wp2_with fail
  exact bodyPost_ret (res7 rfl _ _ (g + 1) (.int .i64 0) (.int .u64 0) (.bool false) (.string ⟨#[]⟩) (.slice none 0 0) (.slice none 0 0) (.slice none 0 0) rfl (put7_blk HBk.out.td _ _ _ _ _ _ _)) rfl HE.out
set_option maxRecDepth 100000 in
set_option maxHeartbeats 4000000 in
theorem took_look (r : Nat) (s : K.RS) (wh : Int)  (x1 x2 x3 x4 x5 x6 x7 x8 x9 x10 : Value) (w : World) (h : Rr w r s) (h1 : -9223372036854775808 ≤ wh) (h2 : wh ≤ 9223372036854775807) (hk : ((pk wh : Nat) : Int) = 10) :
    Calls Tryz.prog 33 #[.pointer (some ⟨r, 0, none⟩), .agg #[.int .i64 wh, x1, x2, x3, x4, x5, x6, x7, x8, x9, x10]] w (TkE r (s) (td0) w) := by
  have hrw := h.lt
  have HH := hide h
  have HB : Hid (Bk w ((w.alloc (.cells #[.int .i64 wh, x1, x2, x3, x4, x5, x6, x7, x8, x9, x10] 74)).alloc (.cells z7 77)) w.heap.size (w.heap.size + 1) #[.int .i64 wh, x1, x2, x3, x4, x5, x6, x7, x8, x9, x10]) := ⟨Nat.le_refl _, by omega, (Keep.alloc (fun _ => False) _ _).blk (heap_alloc_new w _) fun f => f, by have := heap_alloc_new (w.alloc (.cells #[.int .i64 wh, x1, x2, x3, x4, x5, x6, x7, x8, x9, x10] 74)) (.cells z7 77); simpa using this⟩
  have HK : Hid (Below w.heap.size w ((w.alloc (.cells #[.int .i64 wh, x1, x2, x3, x4, x5, x6, x7, x8, x9, x10] 74)).alloc (.cells z7 77))) := ((Below.refl _ _).alloc (Nat.le_refl _) _).alloc (by simp) _
  have HR := hide (h.below HK.out)
  have HKr := hide (Keep.ofBelow (S := fun k => k = r) HK.out (Nat.le_refl _))
  obtain ⟨s1, hs1⟩ : ∃ s1, s = s1 := ⟨_, rfl⟩
  rw [hs1]
  have HS1 := hide hs1
  clear h hs1
  go_enter Tryz.func33, Tryz.ntmps33
  go_upto_region 1 with fail
  change Code.wp _ _ _ _ ((w.alloc (.cells #[.int .i64 wh, x1, x2, x3, x4, x5, x6, x7, x8, x9, x10] 74)).alloc (.cells z7 77))
  generalize (w.alloc (.cells #[.int .i64 wh, x1, x2, x3, x4, x5, x6, x7, x8, x9, x10] 74)).alloc (.cells z7 77) = W at *
  generalize hg : w.heap.size = g at *
  have HG := hide hg
  clear hg
  obtain ⟨y0, _⟩ := cells11 HB.out.st
  go_wp2_with fail
  refine (pick_any wh h1 h2 _).mono ?_
  rintro e w1 ⟨rfl, rfl⟩
  rw [hk]
  clear y0
  have HR9 := hide HR.out
  rw [HS1.out] at HR9
  have HK9 := hide HKr.out
  have HBk := hide HB.out
  obtain ⟨z0, z1, z2, z3, z4, z5, z6⟩ := HBk.out.cells
  have f0 := HBk.out.froz 0
  have f1 := HBk.out.froz 1
  have f2 := HBk.out.froz 2
  have f3 := HBk.out.froz 3
  have f4 := HBk.out.froz 4
  have f5 := HBk.out.froz 5
  have f6 := HBk.out.froz 6
  have HE := hide (HBk.out.done (t := td0) HR9.out (by have := HG.out; omega) HK9.out (cT := 0) (cL := 0) (cD := 0) (els0 _) (els0 _) (rows0 _))
  go_wp2_with fail
  exact bodyPost_ret (res7 rfl _ _ (g + 1) (.int .i64 0) (.int .u64 0) (.bool false) (.string ⟨#[]⟩) (.slice none 0 0) (.slice none 0 0) (.slice none 0 0) rfl (put7_blk HBk.out.td _ _ _ _ _ _ _)) rfl HE.out
end Wm
end Go.Proofs.YtoelgcagahmndaaGreat
