/- Codec: forms in memory; nodeFields (written by cnf_gen.py). -/
import Derived.Test.YtbjcckfhfbjchaaGreatCdB
import Derived.Test.YtbjcckfhfbjchaaGreatCDp
import Derived.Test.YtbjcckfhfbjchaaGreatCDt
namespace Go.Proofs.YtbjcckfhfbjchaaGreat
namespace Cd
open Go.RowKit Go.Deep

/-- the blocks of data (below the first bound), and of forms (from the second on) -/
def Lo (x : Nat × Nat) (w : World) : Nat → Prop := fun k => k < w.heap.size ∧ (k < x.1 ∨ x.2 ≤ k)
def fS (m : Nat) : Array Value := #[.func (.func 155) #[] #[.pointer (some ⟨m, 0, none⟩)], .func (.func 157) #[] #[.pointer (some ⟨m, 0, none⟩)]]
def fI (l m : Nat) : Array Value := #[.func (.func 78) #[] #[.pointer (some ⟨l, 0, none⟩), .pointer (some ⟨m, 0, none⟩)], .func (.func 81) #[] #[.pointer (some ⟨l, 0, none⟩), .pointer (some ⟨m, 0, none⟩)]]
def fL (m o : Nat) : Array Value := #[.func (.func 162) #[] #[.pointer (some ⟨m, 0, none⟩), .pointer (some ⟨o, 0, none⟩)], .func (.func 164) #[] #[.pointer (some ⟨m, 0, none⟩), .pointer (some ⟨o, 0, none⟩)]]
/-- a form of texts, of numbers, of lists of numbers, in memory -/
structure FS (F : Nat) (w : World) (b m : Nat) (most : Int) : Prop where
  blk : w.heap[b]? = some (.cells (fS m) 109 (0, 0))
  cel : w.cell? ⟨m, 0, none⟩ = some (.int .i64 most)
  hb : F ≤ b
  hm : F ≤ m
structure FI (F : Nat) (w : World) (b l m : Nat) (least most : Int) : Prop where
  blk : w.heap[b]? = some (.cells (fI l m) 90 (0, 0))
  ce0 : w.cell? ⟨l, 0, none⟩ = some (.int .i64 least)
  cel : w.cell? ⟨m, 0, none⟩ = some (.int .i64 most)
  hb : F ≤ b
  hl : F ≤ l
  hm : F ≤ m
structure FL (F : Nat) (w : World) (b m o l k : Nat) (most least up : Int) : Prop where
  blk : w.heap[b]? = some (.cells (fL m o) 158 (0, 0))
  cel : w.cell? ⟨m, 0, none⟩ = some (.int .i64 most)
  obk : w.heap[o]? = some (.cells (fI l k) 90 (0, 0))
  ce0 : w.cell? ⟨l, 0, none⟩ = some (.int .i64 least)
  ce1 : w.cell? ⟨k, 0, none⟩ = some (.int .i64 up)
  hb : F ≤ b
  hm : F ≤ m
  ho : F ≤ o
  hl : F ≤ l
  hk : F ≤ k
theorem blk_lt {w : World} {o : Nat} {b : Obj} (h : w.heap[o]? = some b) : o < w.heap.size := (Array.getElem?_eq_some_iff.1 h).1
theorem cel_lt {w : World} {l : Nat} {v : Value} (h : w.cell? ⟨l, 0, none⟩ = some v) : l < w.heap.size := block_lt_of_cell h
variable {F : Nat} {bf : Nat × Nat} {w w' : World} {b m l o k : Nat} {most least up : Int}
theorem clM {v : Value} (h : w.cell? ⟨l, 0, none⟩ = some v) (hl : bf.2 ≤ l) : Lo bf w l := ⟨cel_lt h, .inr hl⟩
theorem blM {v : Obj} (h : w.heap[b]? = some v) (hl : bf.2 ≤ b) : Lo bf w b := ⟨blk_lt h, .inr hl⟩
theorem FS.keep (h : FS F w b m most) (kk : Keep (fun _ => False) w w') : FS F w' b m most := ⟨kk.blk h.blk (fun f => f), kk.cell h.cel (fun f => f), h.hb, h.hm⟩
theorem FS.mono {F' : Nat} (h : FS F w b m most) (hF : F' ≤ F) : FS F' w b m most := ⟨h.blk, h.cel, Nat.le_trans hF h.hb, Nat.le_trans hF h.hm⟩
theorem FI.keep (h : FI F w b l m least most) (kk : Keep (fun _ => False) w w') : FI F w' b l m least most := ⟨kk.blk h.blk (fun f => f), kk.cell h.ce0 (fun f => f), kk.cell h.cel (fun f => f), h.hb, h.hl, h.hm⟩
theorem FI.mono {F' : Nat} (h : FI F w b l m least most) (hF : F' ≤ F) : FI F' w b l m least most := ⟨h.blk, h.ce0, h.cel, Nat.le_trans hF h.hb, Nat.le_trans hF h.hl, Nat.le_trans hF h.hm⟩
theorem FL.keep (h : FL F w b m o l k most least up) (kk : Keep (fun _ => False) w w') : FL F w' b m o l k most least up := ⟨kk.blk h.blk (fun f => f), kk.cell h.cel (fun f => f), kk.blk h.obk (fun f => f), kk.cell h.ce0 (fun f => f), kk.cell h.ce1 (fun f => f), h.hb, h.hm, h.ho, h.hl, h.hk⟩
theorem FL.mono {F' : Nat} (h : FL F w b m o l k most least up) (hF : F' ≤ F) : FL F' w b m o l k most least up := ⟨h.blk, h.cel, h.obk, h.ce0, h.ce1, Nat.le_trans hF h.hb, Nat.le_trans hF h.hm, Nat.le_trans hF h.ho, Nat.le_trans hF h.hl, Nat.le_trans hF h.hk⟩
theorem lo_cells {wf w1 : World} {b : Nat} {x y : Value} {T : TypeId} (ha : Agree (Lo bf wf) wf w1) (h : wf.heap[b]? = some (.cells #[x, y] T (0, 0))) (hb : bf.2 ≤ b) : w1.cell? ⟨b, 0, none⟩ = some x ∧ w1.cell? ⟨b, 1, none⟩ = some y := cells2 ((ha b ⟨blk_lt h, .inr hb⟩).2.trans h)
theorem add0 (a : Addr) : a.add 0 = a := by unfold Addr.add; split <;> simp_all
theorem els_z {wf : World} {s : Option Addr × Nat × Nat} {z : List Int} (hw : bf.1 ≤ wf.heap.size) (h : Gr.RdZ bf.1 wf s z) : Els (Lo bf wf) wf s.1 s.2.1 (z.map (Value.int .i64)) := by
  obtain ⟨h1, h2, h3⟩ := h
  refine ⟨by rw [List.length_map]; exact h1, by omega, ?_⟩
  rcases h3 with h3 | ⟨g, off, e, hg, h3⟩
  · exact .inl h3
  · refine .inr ⟨g, off, e, ⟨by omega, .inl hg⟩, fun i v hv => ?_⟩
    rw [List.getElem?_map] at hv
    cases hz : z[i]? with
    | none => rw [hz] at hv; cases hv
    | some x =>
      rw [hz] at hv
      cases hv
      exact h3 i x hz
/-- what is put of numbers -/
def zW (least up : Int) (z : List Int) : List (K.WS → K.WS) := z.map fun x => numW least up x
theorem puts_L {wf : World} {b m o l k : Nat} {most least up : Int} (hF : FL bf.2 wf b m o l k most least up) {s : Option Addr × Nat × Nat} {z : List Int} (hw : bf.1 ≤ wf.heap.size) (h : Gr.RdZ bf.1 wf s z) (hz : ∀ x ∈ z, x ≤ 9223372036854775807) :
    PutsG (Lo bf wf) wf 162 #[.pointer (some ⟨m, 0, none⟩), .pointer (some ⟨o, 0, none⟩)] (.slice s.1 s.2.1 s.2.2) (listW most (zW least up z)) := by
  refine putsListI (Lo bf wf) wf m o most _ _ _ _ s.1 s.2.1 s.2.2 (z.map (Value.int .i64)) (zW least up z) (els_z hw h) (by unfold zW; rw [List.length_map]; exact h.1.symm) (fun i v f hv hf => ?_) ent_putNum (clM hF.cel hF.hm) (blM hF.obk hF.ho) hF.cel hF.obk
  unfold zW at hf
  rw [List.getElem?_map] at hv hf
  cases hx : z[i]? with
  | none => rw [hx] at hv; cases hv
  | some x =>
    rw [hx] at hv hf
    cases hv
    cases hf
    exact putsNum (Lo bf wf) wf l k least up x (hz x (List.mem_of_getElem? hx)) hF.ce0 hF.ce1 (clM hF.ce0 hF.hl) (clM hF.ce1 hF.hk)
/-- a field put, with a block beside the writer -/
theorem fputI {wf w0 W : World} {S : Nat → Prop} {p bx : Nat} {fn1 fn2 : FuncId} {cap1 cap2 : Array Value} {x : Value} {f : K.WS → K.WS} {s : K.WS} {cs : Array Value} {t : TypeId} (ha : Agree (Lo bf wf) wf w0) (hd : ∀ k, Lo bf wf k → ¬ S k) (h : WAt S w0 p s W) (hp : PutsG (Lo bf wf) wf fn1 cap1 x f)
    (he : ∀ args w, (callFunc fn1 args).run Tryz.prog w = .ok (.enter fn1 args) w) (hb : W.heap[bx]? = some (.cells cs t (0, 0))) (h1 : t ≠ 128) (h2 : t ≠ 5) :
    Calls Tryz.prog 46 #[.agg #[.func (.func fn1) #[] cap1, .func (.func fn2) #[] cap2], .pointer (some ⟨p, 0, none⟩), x] W fun en w' => en = .returned (.tuple #[]) ∧ WAt S w0 p (putW f s) w' ∧ w'.heap[bx]? = some (.cells cs t (0, 0)) := by
  obtain ⟨v, hv, hw2, hs⟩ := h.rebase
  refine (PutI (Wset p v) W p fn1 fn2 cap1 cap2 x f s _ hw2 (hp p _ W (ha.keep h.keep hd) (disjoint_step ha hd hs)) he).mono ?_
  rintro e w' ⟨rfl, h3⟩
  exact ⟨rfl, h.step hs h3, h3.keep.blk hb (hv.not hb h1 h2)⟩

/-- a field put, with a block beside the writer -/
theorem fputS {wf w0 W : World} {S : Nat → Prop} {p bx : Nat} {fn1 fn2 : FuncId} {cap1 cap2 : Array Value} {x : Value} {f : K.WS → K.WS} {s : K.WS} {cs : Array Value} {t : TypeId} (ha : Agree (Lo bf wf) wf w0) (hd : ∀ k, Lo bf wf k → ¬ S k) (h : WAt S w0 p s W) (hp : PutsG (Lo bf wf) wf fn1 cap1 x f)
    (he : ∀ args w, (callFunc fn1 args).run Tryz.prog w = .ok (.enter fn1 args) w) (hb : W.heap[bx]? = some (.cells cs t (0, 0))) (h1 : t ≠ 128) (h2 : t ≠ 5) :
    Calls Tryz.prog 58 #[.agg #[.func (.func fn1) #[] cap1, .func (.func fn2) #[] cap2], .pointer (some ⟨p, 0, none⟩), x] W fun en w' => en = .returned (.tuple #[]) ∧ WAt S w0 p (putW f s) w' ∧ w'.heap[bx]? = some (.cells cs t (0, 0)) := by
  obtain ⟨v, hv, hw2, hs⟩ := h.rebase
  refine (PutS (Wset p v) W p fn1 fn2 cap1 cap2 x f s _ hw2 (hp p _ W (ha.keep h.keep hd) (disjoint_step ha hd hs)) he).mono ?_
  rintro e w' ⟨rfl, h3⟩
  exact ⟨rfl, h.step hs h3, h3.keep.blk hb (hv.not hb h1 h2)⟩

/-- a field put, with a block beside the writer -/
theorem fputLi {wf w0 W : World} {S : Nat → Prop} {p bx : Nat} {fn1 fn2 : FuncId} {cap1 cap2 : Array Value} {x : Value} {f : K.WS → K.WS} {s : K.WS} {cs : Array Value} {t : TypeId} (ha : Agree (Lo bf wf) wf w0) (hd : ∀ k, Lo bf wf k → ¬ S k) (h : WAt S w0 p s W) (hp : PutsG (Lo bf wf) wf fn1 cap1 x f)
    (he : ∀ args w, (callFunc fn1 args).run Tryz.prog w = .ok (.enter fn1 args) w) (hb : W.heap[bx]? = some (.cells cs t (0, 0))) (h1 : t ≠ 128) (h2 : t ≠ 5) :
    Calls Tryz.prog 124 #[.agg #[.func (.func fn1) #[] cap1, .func (.func fn2) #[] cap2], .pointer (some ⟨p, 0, none⟩), x] W fun en w' => en = .returned (.tuple #[]) ∧ WAt S w0 p (putW f s) w' ∧ w'.heap[bx]? = some (.cells cs t (0, 0)) := by
  obtain ⟨v, hv, hw2, hs⟩ := h.rebase
  refine (PutLi (Wset p v) W p fn1 fn2 cap1 cap2 x f s _ hw2 (hp p _ W (ha.keep h.keep hd) (disjoint_step ha hd hs)) he).mono ?_
  rintro e w' ⟨rfl, h3⟩
  exact ⟨rfl, h.step hs h3, h3.keep.blk hb (hv.not hb h1 h2)⟩

/-- a field put, with a block beside the writer -/
theorem fputLn {wf w0 W : World} {S : Nat → Prop} {p bx : Nat} {fn1 fn2 : FuncId} {cap1 cap2 : Array Value} {x : Value} {f : K.WS → K.WS} {s : K.WS} {cs : Array Value} {t : TypeId} (ha : Agree (Lo bf wf) wf w0) (hd : ∀ k, Lo bf wf k → ¬ S k) (h : WAt S w0 p s W) (hp : PutsG (Lo bf wf) wf fn1 cap1 x f)
    (he : ∀ args w, (callFunc fn1 args).run Tryz.prog w = .ok (.enter fn1 args) w) (hb : W.heap[bx]? = some (.cells cs t (0, 0))) (h1 : t ≠ 128) (h2 : t ≠ 5) :
    Calls Tryz.prog 59 #[.agg #[.func (.func fn1) #[] cap1, .func (.func fn2) #[] cap2], .pointer (some ⟨p, 0, none⟩), x] W fun en w' => en = .returned (.tuple #[]) ∧ WAt S w0 p (putW f s) w' ∧ w'.heap[bx]? = some (.cells cs t (0, 0)) := by
  obtain ⟨v, hv, hw2, hs⟩ := h.rebase
  refine (PutLn (Wset p v) W p fn1 fn2 cap1 cap2 x f s _ hw2 (hp p _ W (ha.keep h.keep hd) (disjoint_step ha hd hs)) he).mono ?_
  rintro e w' ⟨rfl, h3⟩
  exact ⟨rfl, h.step hs h3, h3.keep.blk hb (hv.not hb h1 h2)⟩

/-- a field put, with a block beside the writer -/
theorem fputB {wf w0 W : World} {S : Nat → Prop} {p bx : Nat} {fn1 fn2 : FuncId} {cap1 cap2 : Array Value} {x : Value} {f : K.WS → K.WS} {s : K.WS} {cs : Array Value} {t : TypeId} (ha : Agree (Lo bf wf) wf w0) (hd : ∀ k, Lo bf wf k → ¬ S k) (h : WAt S w0 p s W) (hp : PutsG (Lo bf wf) wf fn1 cap1 x f)
    (he : ∀ args w, (callFunc fn1 args).run Tryz.prog w = .ok (.enter fn1 args) w) (hb : W.heap[bx]? = some (.cells cs t (0, 0))) (h1 : t ≠ 128) (h2 : t ≠ 5) :
    Calls Tryz.prog 142 #[.agg #[.func (.func fn1) #[] cap1, .func (.func fn2) #[] cap2], .pointer (some ⟨p, 0, none⟩), x] W fun en w' => en = .returned (.tuple #[]) ∧ WAt S w0 p (putW f s) w' ∧ w'.heap[bx]? = some (.cells cs t (0, 0)) := by
  obtain ⟨v, hv, hw2, hs⟩ := h.rebase
  refine (PutB (Wset p v) W p fn1 fn2 cap1 cap2 x f s _ hw2 (hp p _ W (ha.keep h.keep hd) (disjoint_step ha hd hs)) he).mono ?_
  rintro e w' ⟨rfl, h3⟩
  exact ⟨rfl, h.step hs h3, h3.keep.blk hb (hv.not hb h1 h2)⟩

/-- a field put, with a block beside the writer -/
theorem fputW {wf w0 W : World} {S : Nat → Prop} {p bx : Nat} {fn1 fn2 : FuncId} {cap1 cap2 : Array Value} {x : Value} {f : K.WS → K.WS} {s : K.WS} {cs : Array Value} {t : TypeId} (ha : Agree (Lo bf wf) wf w0) (hd : ∀ k, Lo bf wf k → ¬ S k) (h : WAt S w0 p s W) (hp : PutsG (Lo bf wf) wf fn1 cap1 x f)
    (he : ∀ args w, (callFunc fn1 args).run Tryz.prog w = .ok (.enter fn1 args) w) (hb : W.heap[bx]? = some (.cells cs t (0, 0))) (h1 : t ≠ 128) (h2 : t ≠ 5) :
    Calls Tryz.prog 145 #[.agg #[.func (.func fn1) #[] cap1, .func (.func fn2) #[] cap2], .pointer (some ⟨p, 0, none⟩), x] W fun en w' => en = .returned (.tuple #[]) ∧ WAt S w0 p (putW f s) w' ∧ w'.heap[bx]? = some (.cells cs t (0, 0)) := by
  obtain ⟨v, hv, hw2, hs⟩ := h.rebase
  refine (PutW (Wset p v) W p fn1 fn2 cap1 cap2 x f s _ hw2 (hp p _ W (ha.keep h.keep hd) (disjoint_step ha hd hs)) he).mono ?_
  rintro e w' ⟨rfl, h3⟩
  exact ⟨rfl, h.step hs h3, h3.keep.blk hb (hv.not hb h1 h2)⟩

/-- a node by value -/
abbrev Nv := ((((((((List Nat × Int) × Int) × Int) × Int) × Int) × Int) × Int) × List Int) × List Int
def nodeW (v : Nv) : K.WS → K.WS :=
  seqW (seqW (seqW (seqW (seqW (seqW (seqW (seqW (seqW (textW 40 v.1.1.1.1.1.1.1.1.1) (numW 0 15 v.1.1.1.1.1.1.1.1.2)) (numW 1 100 v.1.1.1.1.1.1.1.2)) (numW 1 1099511627776 v.1.1.1.1.1.1.2)) (numW 0 1099511627776 v.1.1.1.1.1.2)) (numW 1 1099511627776 v.1.1.1.1.2)) (numW 1 1099511627776 v.1.1.1.2)) (numW 0 1099511627776 v.1.1.2)) (listW 64 (zW 0 63 v.1.2))) (listW 64 (zW 0 63 v.2))
/-- the forms of a node's fields, in memory -/
structure NF (F : Nat) (w : World) (b1 b2 b3 b4 b5 b6 : Nat) : Prop where
  ex : ∃ m1 l2 m2 l3 m3 l4 m4 l5 m5 m6 o6 l6 k6, FS F w b1 m1 40 ∧ FI F w b2 l2 m2 0 15 ∧ FI F w b3 l3 m3 1 100 ∧ FI F w b4 l4 m4 1 1099511627776 ∧ FI F w b5 l5 m5 0 1099511627776 ∧ FL F w b6 m6 o6 l6 k6 64 0 63
theorem NF.keep {b1 b2 b3 b4 b5 b6 : Nat} (h : NF F w b1 b2 b3 b4 b5 b6) (kk : Keep (fun _ => False) w w') : NF F w' b1 b2 b3 b4 b5 b6 := by
  obtain ⟨m1, l2, m2, l3, m3, l4, m4, l5, m5, m6, o6, l6, k6, h1, h2, h3, h4, h5, h6⟩ := h.ex
  exact ⟨m1, l2, m2, l3, m3, l4, m4, l5, m5, m6, o6, l6, k6, h1.keep kk, h2.keep kk, h3.keep kk, h4.keep kk, h5.keep kk, h6.keep kk⟩
theorem NF.mono {F' b1 b2 b3 b4 b5 b6 : Nat} (h : NF F w b1 b2 b3 b4 b5 b6) (hF : F' ≤ F) : NF F' w b1 b2 b3 b4 b5 b6 := by
  obtain ⟨m1, l2, m2, l3, m3, l4, m4, l5, m5, m6, o6, l6, k6, h1, h2, h3, h4, h5, h6⟩ := h.ex
  exact ⟨m1, l2, m2, l3, m3, l4, m4, l5, m5, m6, o6, l6, k6, h1.mono hF, h2.mono hF, h3.mono hF, h4.mono hF, h5.mono hF, h6.mono hF⟩
def capN (b1 b2 b3 b4 b5 b6 : Nat) : Array Value := #[.pointer (some ⟨b1, 0, none⟩), .pointer (some ⟨b2, 0, none⟩), .pointer (some ⟨b3, 0, none⟩), .pointer (some ⟨b4, 0, none⟩), .pointer (some ⟨b5, 0, none⟩), .pointer (some ⟨b6, 0, none⟩)]
/-- bounds of a node's numbers -/
def NOk (q : Gr.Nd) (nl al : List Int) : Prop := q.nm.size ≤ 140737488351232 ∧ q.la ≤ 9223372036854775807 ∧ q.bu ≤ 9223372036854775807 ∧ q.cl ≤ 9223372036854775807 ∧ q.be ≤ 9223372036854775807 ∧ q.ba ≤ 9223372036854775807 ∧ q.ca ≤ 9223372036854775807 ∧ q.ji ≤ 9223372036854775807 ∧ (∀ x ∈ nl, x ≤ 9223372036854775807) ∧ ∀ x ∈ al, x ≤ 9223372036854775807
/-- the node's value -/
def nv (q : Gr.Nd) (nl al : List Int) : Nv := (((((((((sb q.nm, q.la), q.bu), q.cl), q.be), q.ba), q.ca), q.ji), nl), al)
set_option maxRecDepth 10000 in
set_option maxHeartbeats 2000000 in
theorem putNode (wf w0 : World) (b1 b2 b3 b4 b5 b6 : Nat) (hF : NF bf.2 wf b1 b2 b3 b4 b5 b6) (q : Gr.Nd) (nl al : List Int) (hw : bf.1 ≤ wf.heap.size) (h1 : Gr.RdZ bf.1 wf q.ne nl) (h2 : Gr.RdZ bf.1 wf q.af al) (hok : NOk q nl al) (p : Nat) (S : Nat → Prop) (ha : Agree (Lo bf wf) wf w0) (hd : ∀ k, Lo bf wf k → ¬ S k) (W : World) (s : K.WS) (h : WAt S w0 p s W) (hz : s.fault = 0) :
    Calls Tryz.prog 123 (#[.pointer (some ⟨p, 0, none⟩), .agg q.row.toArray] ++ capN b1 b2 b3 b4 b5 b6) W fun en w' => en = .returned (.tuple #[]) ∧ WAt S w0 p (nodeW (nv q nl al) s) w' := by
  obtain ⟨nm, la, bu, cl, be, ba, ca, ji, ⟨x1, x2, x3⟩, ⟨y1, y2, y3⟩⟩ := q
  obtain ⟨m1, l2, m2, l3, m3, l4, m4, l5, m5, m6, o6, l6, k6, f1, f2, f3, f4, f5, f6⟩ := hF.ex
  obtain ⟨k0, k1, k2, k3, k4, k5, k6', k7, k8, k9⟩ := hok
  have P0 := hide (putsText (Lo bf wf) wf m1 40 nm k0 f1.cel (clM f1.cel f1.hm))
  have P1 := hide (putsNum (Lo bf wf) wf l2 m2 0 15 la k1 f2.ce0 f2.cel (clM f2.ce0 f2.hl) (clM f2.cel f2.hm))
  have P2 := hide (putsNum (Lo bf wf) wf l3 m3 1 100 bu k2 f3.ce0 f3.cel (clM f3.ce0 f3.hl) (clM f3.cel f3.hm))
  have P3 := hide (putsNum (Lo bf wf) wf l4 m4 1 1099511627776 cl k3 f4.ce0 f4.cel (clM f4.ce0 f4.hl) (clM f4.cel f4.hm))
  have P4 := hide (putsNum (Lo bf wf) wf l5 m5 0 1099511627776 be k4 f5.ce0 f5.cel (clM f5.ce0 f5.hl) (clM f5.cel f5.hm))
  have P5 := hide (putsNum (Lo bf wf) wf l4 m4 1 1099511627776 ba k5 f4.ce0 f4.cel (clM f4.ce0 f4.hl) (clM f4.cel f4.hm))
  have P6 := hide (putsNum (Lo bf wf) wf l4 m4 1 1099511627776 ca k6' f4.ce0 f4.cel (clM f4.ce0 f4.hl) (clM f4.cel f4.hm))
  have P7 := hide (putsNum (Lo bf wf) wf l5 m5 0 1099511627776 ji k7 f5.ce0 f5.cel (clM f5.ce0 f5.hl) (clM f5.cel f5.hm))
  have P8 := hide (puts_L f6 hw h1 k8)
  have P9 := hide (puts_L f6 hw h2 k9)
  have HC : Hid (∀ W, Agree (Lo bf wf) wf W → ((W.cell? ⟨b1, 0, none⟩ = some ((fS m1)[0]!) ∧ W.cell? ⟨b1, 1, none⟩ = some ((fS m1)[1]!)) ∧ (W.cell? ⟨b2, 0, none⟩ = some ((fI l2 m2)[0]!) ∧ W.cell? ⟨b2, 1, none⟩ = some ((fI l2 m2)[1]!)) ∧ (W.cell? ⟨b3, 0, none⟩ = some ((fI l3 m3)[0]!) ∧ W.cell? ⟨b3, 1, none⟩ = some ((fI l3 m3)[1]!)) ∧ (W.cell? ⟨b4, 0, none⟩ = some ((fI l4 m4)[0]!) ∧ W.cell? ⟨b4, 1, none⟩ = some ((fI l4 m4)[1]!)) ∧ (W.cell? ⟨b5, 0, none⟩ = some ((fI l5 m5)[0]!) ∧ W.cell? ⟨b5, 1, none⟩ = some ((fI l5 m5)[1]!)) ∧ (W.cell? ⟨b6, 0, none⟩ = some ((fL m6 o6)[0]!) ∧ W.cell? ⟨b6, 1, none⟩ = some ((fL m6 o6)[1]!)))) := fun W ha => ⟨lo_cells ha f1.blk f1.hb, lo_cells ha f2.blk f2.hb, lo_cells ha f3.blk f3.hb, lo_cells ha f4.blk f4.hb, lo_cells ha f5.blk f5.hb, lo_cells ha f6.blk f6.hb⟩
  have HA := hide ha
  have HD := hide hd
  have hba := (Below.refl W.heap.size W).alloc (Nat.le_refl _) (.cells #[.string nm, .int .i64 la, .int .i64 bu, .int .i64 cl, .int .i64 be, .int .i64 ba, .int .i64 ca, .int .i64 ji, .slice x1 x2 x3, .slice y1 y2 y3] 57)
  have HW0 := hide (h.below hba)
  have HX0 := hide (heap_alloc_new W (.cells #[.string nm, .int .i64 la, .int .i64 bu, .int .i64 cl, .int .i64 be, .int .i64 ba, .int .i64 ca, .int .i64 ji, .slice x1 x2 x3, .slice y1 y2 y3] 57))
  have HFN : Hid (seqW (seqW (seqW (seqW (seqW (seqW (seqW (seqW (seqW (textW 40 (sb nm)) (numW 0 15 la)) (numW 1 100 bu)) (numW 1 1099511627776 cl)) (numW 0 1099511627776 be)) (numW 1 1099511627776 ba)) (numW 1 1099511627776 ca)) (numW 0 1099511627776 ji)) (listW 64 (zW 0 63 nl))) (listW 64 (zW 0 63 al)) s = nodeW (nv ⟨nm, la, bu, cl, be, ba, ca, ji, (x1, x2, x3), (y1, y2, y3)⟩ nl al) s) := rfl
  have HZ := hide hz
  generalize nodeW (nv ⟨nm, la, bu, cl, be, ba, ca, ji, (x1, x2, x3), (y1, y2, y3)⟩ nl al) s = sE at *
  clear hw h ha hd hba f1 f2 f3 f4 f5 f6 h1 h2 k0 k1 k2 k3 k4 k5 k6' k7 k8 k9 hz hF
  show Calls Tryz.prog 123 #[.pointer (some ⟨p, 0, none⟩), .agg #[.string nm, .int .i64 la, .int .i64 bu, .int .i64 cl, .int .i64 be, .int .i64 ba, .int .i64 ca, .int .i64 ji, .slice x1 x2 x3, .slice y1 y2 y3], .pointer (some ⟨b1, 0, none⟩), .pointer (some ⟨b2, 0, none⟩), .pointer (some ⟨b3, 0, none⟩), .pointer (some ⟨b4, 0, none⟩), .pointer (some ⟨b5, 0, none⟩), .pointer (some ⟨b6, 0, none⟩)] W _
  go_enter Tryz.func123, Tryz.ntmps123
  go_upto_region 1 with fail
  generalize W.alloc (.cells #[.string nm, .int .i64 la, .int .i64 bu, .int .i64 cl, .int .i64 be, .int .i64 ba, .int .i64 ca, .int .i64 ji, .slice x1 x2 x3, .slice y1 y2 y3] 57) = W0 at *
  generalize W.heap.size = bx at *
  have hc0 := (HC.out W0 (HA.out.keep HW0.out.keep HD.out)).1
  have c0 : W0.cell? ⟨b1, 0, none⟩ = some (.func (.func 155) #[] #[.pointer (some ⟨m1, 0, none⟩)]) := hc0.1
  have c1 : W0.cell? ⟨b1, 1, none⟩ = some (.func (.func 157) #[] #[.pointer (some ⟨m1, 0, none⟩)]) := hc0.2
  have d0 : W0.cell? ⟨bx, 0, none⟩ = some (.string nm) := cell_blk HX0.out 0 rfl
  have C0 := hide (fputS (fn2 := 157) (cap2 := #[.pointer (some ⟨m1, 0, none⟩)]) HA.out HD.out HW0.out P0.out ent_putText HX0.out (by decide) (by decide))
  clear hc0 P0
  go_upto_region 2 with (go_at_call 58; refine C0.out.mono ?_; rintro e W1 ⟨rfl, h, hx⟩; have HW1 := hide h; have HX1 := hide hx; clear h hx c0 c1 d0 C0 HW0 HX0)
  have hc1 := (HC.out W1 (HA.out.keep HW1.out.keep HD.out)).2.1
  have c0 : W1.cell? ⟨b2, 0, none⟩ = some (.func (.func 78) #[] #[.pointer (some ⟨l2, 0, none⟩), .pointer (some ⟨m2, 0, none⟩)]) := hc1.1
  have c1 : W1.cell? ⟨b2, 1, none⟩ = some (.func (.func 81) #[] #[.pointer (some ⟨l2, 0, none⟩), .pointer (some ⟨m2, 0, none⟩)]) := hc1.2
  have d0 : W1.cell? ⟨bx, 1, none⟩ = some (.int .i64 la) := cell_blk HX1.out 1 rfl
  have C1 := hide (fputI (fn2 := 81) (cap2 := #[.pointer (some ⟨l2, 0, none⟩), .pointer (some ⟨m2, 0, none⟩)]) HA.out HD.out HW1.out P1.out ent_putNum HX1.out (by decide) (by decide))
  clear hc1 P1
  go_upto_region 3 with (go_at_call 46; refine C1.out.mono ?_; rintro e W2 ⟨rfl, h, hx⟩; have HW2 := hide h; have HX2 := hide hx; clear h hx c0 c1 d0 C1 HW1 HX1)
  have hc2 := (HC.out W2 (HA.out.keep HW2.out.keep HD.out)).2.2.1
  have c0 : W2.cell? ⟨b3, 0, none⟩ = some (.func (.func 78) #[] #[.pointer (some ⟨l3, 0, none⟩), .pointer (some ⟨m3, 0, none⟩)]) := hc2.1
  have c1 : W2.cell? ⟨b3, 1, none⟩ = some (.func (.func 81) #[] #[.pointer (some ⟨l3, 0, none⟩), .pointer (some ⟨m3, 0, none⟩)]) := hc2.2
  have d0 : W2.cell? ⟨bx, 2, none⟩ = some (.int .i64 bu) := cell_blk HX2.out 2 rfl
  have C2 := hide (fputI (fn2 := 81) (cap2 := #[.pointer (some ⟨l3, 0, none⟩), .pointer (some ⟨m3, 0, none⟩)]) HA.out HD.out HW2.out P2.out ent_putNum HX2.out (by decide) (by decide))
  clear hc2 P2
  go_upto_region 4 with (go_at_call 46; refine C2.out.mono ?_; rintro e W3 ⟨rfl, h, hx⟩; have HW3 := hide h; have HX3 := hide hx; clear h hx c0 c1 d0 C2 HW2 HX2)
  have hc3 := (HC.out W3 (HA.out.keep HW3.out.keep HD.out)).2.2.2.1
  have c0 : W3.cell? ⟨b4, 0, none⟩ = some (.func (.func 78) #[] #[.pointer (some ⟨l4, 0, none⟩), .pointer (some ⟨m4, 0, none⟩)]) := hc3.1
  have c1 : W3.cell? ⟨b4, 1, none⟩ = some (.func (.func 81) #[] #[.pointer (some ⟨l4, 0, none⟩), .pointer (some ⟨m4, 0, none⟩)]) := hc3.2
  have d0 : W3.cell? ⟨bx, 3, none⟩ = some (.int .i64 cl) := cell_blk HX3.out 3 rfl
  have C3 := hide (fputI (fn2 := 81) (cap2 := #[.pointer (some ⟨l4, 0, none⟩), .pointer (some ⟨m4, 0, none⟩)]) HA.out HD.out HW3.out P3.out ent_putNum HX3.out (by decide) (by decide))
  clear hc3 P3
  go_upto_region 5 with (go_at_call 46; refine C3.out.mono ?_; rintro e W4 ⟨rfl, h, hx⟩; have HW4 := hide h; have HX4 := hide hx; clear h hx c0 c1 d0 C3 HW3 HX3)
  have hc4 := (HC.out W4 (HA.out.keep HW4.out.keep HD.out)).2.2.2.2.1
  have c0 : W4.cell? ⟨b5, 0, none⟩ = some (.func (.func 78) #[] #[.pointer (some ⟨l5, 0, none⟩), .pointer (some ⟨m5, 0, none⟩)]) := hc4.1
  have c1 : W4.cell? ⟨b5, 1, none⟩ = some (.func (.func 81) #[] #[.pointer (some ⟨l5, 0, none⟩), .pointer (some ⟨m5, 0, none⟩)]) := hc4.2
  have d0 : W4.cell? ⟨bx, 4, none⟩ = some (.int .i64 be) := cell_blk HX4.out 4 rfl
  have C4 := hide (fputI (fn2 := 81) (cap2 := #[.pointer (some ⟨l5, 0, none⟩), .pointer (some ⟨m5, 0, none⟩)]) HA.out HD.out HW4.out P4.out ent_putNum HX4.out (by decide) (by decide))
  clear hc4 P4
  go_upto_region 6 with (go_at_call 46; refine C4.out.mono ?_; rintro e W5 ⟨rfl, h, hx⟩; have HW5 := hide h; have HX5 := hide hx; clear h hx c0 c1 d0 C4 HW4 HX4)
  have hc5 := (HC.out W5 (HA.out.keep HW5.out.keep HD.out)).2.2.2.1
  have c0 : W5.cell? ⟨b4, 0, none⟩ = some (.func (.func 78) #[] #[.pointer (some ⟨l4, 0, none⟩), .pointer (some ⟨m4, 0, none⟩)]) := hc5.1
  have c1 : W5.cell? ⟨b4, 1, none⟩ = some (.func (.func 81) #[] #[.pointer (some ⟨l4, 0, none⟩), .pointer (some ⟨m4, 0, none⟩)]) := hc5.2
  have d0 : W5.cell? ⟨bx, 5, none⟩ = some (.int .i64 ba) := cell_blk HX5.out 5 rfl
  have C5 := hide (fputI (fn2 := 81) (cap2 := #[.pointer (some ⟨l4, 0, none⟩), .pointer (some ⟨m4, 0, none⟩)]) HA.out HD.out HW5.out P5.out ent_putNum HX5.out (by decide) (by decide))
  clear hc5 P5
  go_upto_region 7 with (go_at_call 46; refine C5.out.mono ?_; rintro e W6 ⟨rfl, h, hx⟩; have HW6 := hide h; have HX6 := hide hx; clear h hx c0 c1 d0 C5 HW5 HX5)
  have hc6 := (HC.out W6 (HA.out.keep HW6.out.keep HD.out)).2.2.2.1
  have c0 : W6.cell? ⟨b4, 0, none⟩ = some (.func (.func 78) #[] #[.pointer (some ⟨l4, 0, none⟩), .pointer (some ⟨m4, 0, none⟩)]) := hc6.1
  have c1 : W6.cell? ⟨b4, 1, none⟩ = some (.func (.func 81) #[] #[.pointer (some ⟨l4, 0, none⟩), .pointer (some ⟨m4, 0, none⟩)]) := hc6.2
  have d0 : W6.cell? ⟨bx, 6, none⟩ = some (.int .i64 ca) := cell_blk HX6.out 6 rfl
  have C6 := hide (fputI (fn2 := 81) (cap2 := #[.pointer (some ⟨l4, 0, none⟩), .pointer (some ⟨m4, 0, none⟩)]) HA.out HD.out HW6.out P6.out ent_putNum HX6.out (by decide) (by decide))
  clear hc6 P6
  go_upto_region 8 with (go_at_call 46; refine C6.out.mono ?_; rintro e W7 ⟨rfl, h, hx⟩; have HW7 := hide h; have HX7 := hide hx; clear h hx c0 c1 d0 C6 HW6 HX6)
  have hc7 := (HC.out W7 (HA.out.keep HW7.out.keep HD.out)).2.2.2.2.1
  have c0 : W7.cell? ⟨b5, 0, none⟩ = some (.func (.func 78) #[] #[.pointer (some ⟨l5, 0, none⟩), .pointer (some ⟨m5, 0, none⟩)]) := hc7.1
  have c1 : W7.cell? ⟨b5, 1, none⟩ = some (.func (.func 81) #[] #[.pointer (some ⟨l5, 0, none⟩), .pointer (some ⟨m5, 0, none⟩)]) := hc7.2
  have d0 : W7.cell? ⟨bx, 7, none⟩ = some (.int .i64 ji) := cell_blk HX7.out 7 rfl
  have C7 := hide (fputI (fn2 := 81) (cap2 := #[.pointer (some ⟨l5, 0, none⟩), .pointer (some ⟨m5, 0, none⟩)]) HA.out HD.out HW7.out P7.out ent_putNum HX7.out (by decide) (by decide))
  clear hc7 P7
  go_upto_region 9 with (go_at_call 46; refine C7.out.mono ?_; rintro e W8 ⟨rfl, h, hx⟩; have HW8 := hide h; have HX8 := hide hx; clear h hx c0 c1 d0 C7 HW7 HX7)
  have hc8 := (HC.out W8 (HA.out.keep HW8.out.keep HD.out)).2.2.2.2.2
  have c0 : W8.cell? ⟨b6, 0, none⟩ = some (.func (.func 162) #[] #[.pointer (some ⟨m6, 0, none⟩), .pointer (some ⟨o6, 0, none⟩)]) := hc8.1
  have c1 : W8.cell? ⟨b6, 1, none⟩ = some (.func (.func 164) #[] #[.pointer (some ⟨m6, 0, none⟩), .pointer (some ⟨o6, 0, none⟩)]) := hc8.2
  have d0 : W8.cell? ⟨bx, 8, none⟩ = some (.slice x1 x2 x3) := cell_blk HX8.out 8 rfl
  have C8 := hide (fputLi (fn2 := 164) (cap2 := #[.pointer (some ⟨m6, 0, none⟩), .pointer (some ⟨o6, 0, none⟩)]) HA.out HD.out HW8.out P8.out ent_putListI HX8.out (by decide) (by decide))
  clear hc8 P8
  go_upto_region 10 with (go_at_call 124; refine C8.out.mono ?_; rintro e W9 ⟨rfl, h, hx⟩; have HW9 := hide h; have HX9 := hide hx; clear h hx c0 c1 d0 C8 HW8 HX8)
  have hc9 := (HC.out W9 (HA.out.keep HW9.out.keep HD.out)).2.2.2.2.2
  have c0 : W9.cell? ⟨b6, 0, none⟩ = some (.func (.func 162) #[] #[.pointer (some ⟨m6, 0, none⟩), .pointer (some ⟨o6, 0, none⟩)]) := hc9.1
  have c1 : W9.cell? ⟨b6, 1, none⟩ = some (.func (.func 164) #[] #[.pointer (some ⟨m6, 0, none⟩), .pointer (some ⟨o6, 0, none⟩)]) := hc9.2
  have d0 : W9.cell? ⟨bx, 9, none⟩ = some (.slice y1 y2 y3) := cell_blk HX9.out 9 rfl
  have C9 := hide (fputLi (fn2 := 164) (cap2 := #[.pointer (some ⟨m6, 0, none⟩), .pointer (some ⟨o6, 0, none⟩)]) HA.out HD.out HW9.out P9.out ent_putListI HX9.out (by decide) (by decide))
  clear hc9 P9
  go_wp2_with (go_at_call 124; refine C9.out.mono ?_; rintro e W10 ⟨rfl, h, hx⟩; have HW10 := hide h; have HX10 := hide hx; clear h hx c0 c1 d0 C9 HW9 HX9)
  go_end0
  refine ⟨rfl, ?_⟩
  have := HW10.out
  rw [putW_zero HZ.out] at this
  rw [← HFN.out]
  exact this
theorem ent_putNode (args : Array Value) (w : World) : (callFunc 123 args).run Tryz.prog w = .ok (.enter 123 args) w :=
  callFunc_enter Tryz.func123 (by kernel_rfl) (by kernel_rfl) args w
theorem putsNode (wf : World) (b1 b2 b3 b4 b5 b6 : Nat) (hF : NF bf.2 wf b1 b2 b3 b4 b5 b6) (q : Gr.Nd) (nl al : List Int) (hw : bf.1 ≤ wf.heap.size) (h1 : Gr.RdZ bf.1 wf q.ne nl) (h2 : Gr.RdZ bf.1 wf q.af al) (hok : NOk q nl al) :
    PutsG (Lo bf wf) wf 123 (capN b1 b2 b3 b4 b5 b6) (.agg q.row.toArray) (nodeW (nv q nl al)) :=
  fun p S w1 ha hd w2 s h hz => putNode wf w1 b1 b2 b3 b4 b5 b6 hF q nl al hw h1 h2 hok p S ha hd w2 s h hz
end Cd
end Go.Proofs.YtbjcckfhfbjchaaGreat
