import Derived.Test.YtbjcckfhfbjchaaGreatCdB
import Derived.Test.YtbjcckfhfbjchaaGreatCDp
import Derived.Test.YtbjcckfhfbjchaaGreatCDt
/- Codec: forms in memory; nodeFields (written by cnf_gen.py). -/
namespace Go.Proofs.YtbjcckfhfbjchaaGreat
namespace Cd
open Go.RowKit Go.Deep

/-- the blocks of data (below the first bound), and of forms (from the second on) -/
def Lo (x : Nat × Nat) (w : World) : Nat → Prop := fun k => k < w.heap.size ∧ (k < x.1 ∨ x.2 ≤ k)
def fS (m : Nat) : Array Value := #[.func (.func 155) #[] #[.pointer (some ⟨m, 0, none⟩)], .func (.func 157) #[] #[.pointer (some ⟨m, 0, none⟩)]]
def fI (l m : Nat) : Array Value := #[.func (.func 78) #[] #[.pointer (some ⟨l, 0, none⟩), .pointer (some ⟨m, 0, none⟩)], .func (.func 81) #[] #[.pointer (some ⟨l, 0, none⟩), .pointer (some ⟨m, 0, none⟩)]]
def fL (m o : Nat) : Array Value := #[.func (.func 162) #[] #[.pointer (some ⟨m, 0, none⟩), .pointer (some ⟨o, 0, none⟩)], .func (.func 164) #[] #[.pointer (some ⟨m, 0, none⟩), .pointer (some ⟨o, 0, none⟩)]]
/-- a form of texts, of numbers, of lists of numbers, in memory -/
structure FS (F : Nat) (w : World) (b m : Nat) (most : Int) : Prop where
  blk : w.heap[b]? = some (.cells (fS m) 109 (0, 0))
  cel : w.cell? ⟨m, 0, none⟩ = some (.int .i64 most)
  hb : F ≤ b
  hm : F ≤ m
structure FI (F : Nat) (w : World) (b l m : Nat) (least most : Int) : Prop where
  blk : w.heap[b]? = some (.cells (fI l m) 90 (0, 0))
  ce0 : w.cell? ⟨l, 0, none⟩ = some (.int .i64 least)
  cel : w.cell? ⟨m, 0, none⟩ = some (.int .i64 most)
  hb : F ≤ b
  hl : F ≤ l
  hm : F ≤ m
structure FL (F : Nat) (w : World) (b m o l k : Nat) (most least up : Int) : Prop where
  blk : w.heap[b]? = some (.cells (fL m o) 158 (0, 0))
  cel : w.cell? ⟨m, 0, none⟩ = some (.int .i64 most)
  obk : w.heap[o]? = some (.cells (fI l k) 90 (0, 0))
  ce0 : w.cell? ⟨l, 0, none⟩ = some (.int .i64 least)
  ce1 : w.cell? ⟨k, 0, none⟩ = some (.int .i64 up)
  hb : F ≤ b
  hm : F ≤ m
  ho : F ≤ o
  hl : F ≤ l
  hk : F ≤ k
theorem blk_lt {w : World} {o : Nat} {b : Obj} (h : w.heap[o]? = some b) : o < w.heap.size := (Array.getElem?_eq_some_iff.1 h).1
theorem cel_lt {w : World} {l : Nat} {v : Value} (h : w.cell? ⟨l, 0, none⟩ = some v) : l < w.heap.size := block_lt_of_cell h
variable {F : Nat} {bf : Nat × Nat} {w w' : World} {b m l o k : Nat} {most least up : Int}
theorem clM {v : Value} (h : w.cell? ⟨l, 0, none⟩ = some v) (hl : bf.2 ≤ l) : Lo bf w l := ⟨cel_lt h, .inr hl⟩
theorem blM {v : Obj} (h : w.heap[b]? = some v) (hl : bf.2 ≤ b) : Lo bf w b := ⟨blk_lt h, .inr hl⟩
theorem FS.keep (h : FS F w b m most) (kk : Keep (fun _ => False) w w') : FS F w' b m most := ⟨kk.blk h.blk (fun f => f), kk.cell h.cel (fun f => f), h.hb, h.hm⟩
theorem FS.mono {F' : Nat} (h : FS F w b m most) (hF : F' ≤ F) : FS F' w b m most := ⟨h.blk, h.cel, Nat.le_trans hF h.hb, Nat.le_trans hF h.hm⟩
theorem FI.keep (h : FI F w b l m least most) (kk : Keep (fun _ => False) w w') : FI F w' b l m least most := ⟨kk.blk h.blk (fun f => f), kk.cell h.ce0 (fun f => f), kk.cell h.cel (fun f => f), h.hb, h.hl, h.hm⟩
theorem FI.mono {F' : Nat} (h : FI F w b l m least most) (hF : F' ≤ F) : FI F' w b l m least most := ⟨h.blk, h.ce0, h.cel, Nat.le_trans hF h.hb, Nat.le_trans hF h.hl, Nat.le_trans hF h.hm⟩
theorem FL.keep (h : FL F w b m o l k most least up) (kk : Keep (fun _ => False) w w') : FL F w' b m o l k most least up := ⟨kk.blk h.blk (fun f => f), kk.cell h.cel (fun f => f), kk.blk h.obk (fun f => f), kk.cell h.ce0 (fun f => f), kk.cell h.ce1 (fun f => f), h.hb, h.hm, h.ho, h.hl, h.hk⟩
theorem FL.mono {F' : Nat} (h : FL F w b m o l k most least up) (hF : F' ≤ F) : FL F' w b m o l k most least up := ⟨h.blk, h.cel, h.obk, h.ce0, h.ce1, Nat.le_trans hF h.hb, Nat.le_trans hF h.hm, Nat.le_trans hF h.ho, Nat.le_trans hF h.hl, Nat.le_trans hF h.hk⟩
theorem lo_cells {wf w1 : World} {b : Nat} {x y : Value} {T : TypeId} (ha : Agree (Lo bf wf) wf w1) (h : wf.heap[b]? = some (.cells #[x, y] T (0, 0))) (hb : bf.2 ≤ b) : w1.cell? ⟨b, 0, none⟩ = some x ∧ w1.cell? ⟨b, 1, none⟩ = some y := cells2 ((ha b ⟨blk_lt h, .inr hb⟩).2.trans h)
theorem add0 (a : Addr) : a.add 0 = a := by unfold Addr.add; split <;> simp_all
theorem els_z {wf : World} {s : Option Addr × Nat × Nat} {z : List Int} (hw : bf.1 ≤ wf.heap.size) (h : Gr.RdZ bf.1 wf s z) : Els (Lo bf wf) wf s.1 s.2.1 (z.map (Value.int .i64)) := by
  obtain ⟨h1, h2, h3⟩ := h
  refine ⟨by rw [List.length_map]; exact h1, by omega, ?_⟩
  rcases h3 with h3 | ⟨g, off, e, hg, h3⟩
  · exact .inl h3
  · refine .inr ⟨g, off, e, ⟨by omega, .inl hg⟩, fun i v hv => ?_⟩
    rw [List.getElem?_map] at hv
    cases hz : z[i]? with
    | none => rw [hz] at hv; cases hv
    | some x =>
      rw [hz] at hv
      cases hv
      exact h3 i x hz
/-- what is put of numbers -/
def zW (least up : Int) (z : List Int) : List (K.WS → K.WS) := z.map fun x => numW least up x
theorem puts_L {wf : World} {b m o l k : Nat} {most least up : Int} (hF : FL bf.2 wf b m o l k most least up) {s : Option Addr × Nat × Nat} {z : List Int} (hw : bf.1 ≤ wf.heap.size) (h : Gr.RdZ bf.1 wf s z) (hz : ∀ x ∈ z, x ≤ 9223372036854775807) :
    PutsG (Lo bf wf) wf 162 #[.pointer (some ⟨m, 0, none⟩), .pointer (some ⟨o, 0, none⟩)] (.slice s.1 s.2.1 s.2.2) (listW most (zW least up z)) := by
  refine putsListI (Lo bf wf) wf m o most _ _ _ _ s.1 s.2.1 s.2.2 (z.map (Value.int .i64)) (zW least up z) (els_z hw h) (by unfold zW; rw [List.length_map]; exact h.1.symm) (fun i v f hv hf => ?_) ent_putNum (clM hF.cel hF.hm) (blM hF.obk hF.ho) hF.cel hF.obk
  unfold zW at hf
  rw [List.getElem?_map] at hv hf
  cases hx : z[i]? with
  | none => rw [hx] at hv; cases hv
  | some x =>
    rw [hx] at hv hf
    cases hv
    cases hf
    exact putsNum (Lo bf wf) wf l k least up x (hz x (List.mem_of_getElem? hx)) hF.ce0 hF.ce1 (clM hF.ce0 hF.hl) (clM hF.ce1 hF.hk)
/-- a field put, with a block beside the writer -/
theorem fputI {wf w0 W : World} {S : Nat → Prop} {p bx : Nat} {fn1 fn2 : FuncId} {cap1 cap2 : Array Value} {x : Value} {f : K.WS → K.WS} {s : K.WS} {cs : Array Value} {t : TypeId} (ha : Agree (Lo bf wf) wf w0) (hd : ∀ k, Lo bf wf k → ¬ S k) (h : WAt S w0 p s W) (hp : PutsG (Lo bf wf) wf fn1 cap1 x f)
    (he : ∀ args w, (callFunc fn1 args).run Tryz.prog w = .ok (.enter fn1 args) w) (hb : W.heap[bx]? = some (.cells cs t (0, 0))) (h1 : t ≠ 128) (h2 : t ≠ 5) :
    Calls Tryz.prog 46 #[.agg #[.func (.func fn1) #[] cap1, .func (.func fn2) #[] cap2], .pointer (some ⟨p, 0, none⟩), x] W fun en w' => en = .returned (.tuple #[]) ∧ WAt S w0 p (putW f s) w' ∧ w'.heap[bx]? = some (.cells cs t (0, 0)) := by
  obtain ⟨v, hv, hw2, hs⟩ := h.rebase
  refine (PutI (Wset p v) W p fn1 fn2 cap1 cap2 x f s _ hw2 (hp p _ W (ha.keep h.keep hd) (disjoint_step ha hd hs)) he).mono ?_
  rintro e w' ⟨rfl, h3⟩
  exact ⟨rfl, h.step hs h3, h3.keep.blk hb (hv.not hb h1 h2)⟩

/-- a field put, with a block beside the writer -/
theorem fputS {wf w0 W : World} {S : Nat → Prop} {p bx : Nat} {fn1 fn2 : FuncId} {cap1 cap2 : Array Value} {x : Value} {f : K.WS → K.WS} {s : K.WS} {cs : Array Value} {t : TypeId} (ha : Agree (Lo bf wf) wf w0) (hd : ∀ k, Lo bf wf k → ¬ S k) (h : WAt S w0 p s W) (hp : PutsG (Lo bf wf) wf fn1 cap1 x f)
    (he : ∀ args w, (callFunc fn1 args).run Tryz.prog w = .ok (.enter fn1 args) w) (hb : W.heap[bx]? = some (.cells cs t (0, 0))) (h1 : t ≠ 128) (h2 : t ≠ 5) :
    Calls Tryz.prog 58 #[.agg #[.func (.func fn1) #[] cap1, .func (.func fn2) #[] cap2], .pointer (some ⟨p, 0, none⟩), x] W fun en w' => en = .returned (.tuple #[]) ∧ WAt S w0 p (putW f s) w' ∧ w'.heap[bx]? = some (.cells cs t (0, 0)) := by
  obtain ⟨v, hv, hw2, hs⟩ := h.rebase
  refine (PutS (Wset p v) W p fn1 fn2 cap1 cap2 x f s _ hw2 (hp p _ W (ha.keep h.keep hd) (disjoint_step ha hd hs)) he).mono ?_
  rintro e w' ⟨rfl, h3⟩
  exact ⟨rfl, h.step hs h3, h3.keep.blk hb (hv.not hb h1 h2)⟩

/-- a field put, with a block beside the writer -/
theorem fputLi {wf w0 W : World} {S : Nat → Prop} {p bx : Nat} {fn1 fn2 : FuncId} {cap1 cap2 : Array Value} {x : Value} {f : K.WS → K.WS} {s : K.WS} {cs : Array Value} {t : TypeId} (ha : Agree (Lo bf wf) wf w0) (hd : ∀ k, Lo bf wf k → ¬ S k) (h : WAt S w0 p s W) (hp : PutsG (Lo bf wf) wf fn1 cap1 x f)
    (he : ∀ args w, (callFunc fn1 args).run Tryz.prog w = .ok (.enter fn1 args) w) (hb : W.heap[bx]? = some (.cells cs t (0, 0))) (h1 : t ≠ 128) (h2 : t ≠ 5) :
    Calls Tryz.prog 124 #[.agg #[.func (.func fn1) #[] cap1, .func (.func fn2) #[] cap2], .pointer (some ⟨p, 0, none⟩), x] W fun en w' => en = .returned (.tuple #[]) ∧ WAt S w0 p (putW f s) w' ∧ w'.heap[bx]? = some (.cells cs t (0, 0)) := by
  obtain ⟨v, hv, hw2, hs⟩ := h.rebase
  refine (PutLi (Wset p v) W p fn1 fn2 cap1 cap2 x f s _ hw2 (hp p _ W (ha.keep h.keep hd) (disjoint_step ha hd hs)) he).mono ?_
  rintro e w' ⟨rfl, h3⟩
  exact ⟨rfl, h.step hs h3, h3.keep.blk hb (hv.not hb h1 h2)⟩

/-- a field put, with a block beside the writer -/
theorem fputLn {wf w0 W : World} {S : Nat → Prop} {p bx : Nat} {fn1 fn2 : FuncId} {cap1 cap2 : Array Value} {x : Value} {f : K.WS → K.WS} {s : K.WS} {cs : Array Value} {t : TypeId} (ha : Agree (Lo bf wf) wf w0) (hd : ∀ k, Lo bf wf k → ¬ S k) (h : WAt S w0 p s W) (hp : PutsG (Lo bf wf) wf fn1 cap1 x f)
    (he : ∀ args w, (callFunc fn1 args).run Tryz.prog w = .ok (.enter fn1 args) w) (hb : W.heap[bx]? = some (.cells cs t (0, 0))) (h1 : t ≠ 128) (h2 : t ≠ 5) :
    Calls Tryz.prog 59 #[.agg #[.func (.func fn1) #[] cap1, .func (.func fn2) #[] cap2], .pointer (some ⟨p, 0, none⟩), x] W fun en w' => en = .returned (.tuple #[]) ∧ WAt S w0 p (putW f s) w' ∧ w'.heap[bx]? = some (.cells cs t (0, 0)) := by
  obtain ⟨v, hv, hw2, hs⟩ := h.rebase
  refine (PutLn (Wset p v) W p fn1 fn2 cap1 cap2 x f s _ hw2 (hp p _ W (ha.keep h.keep hd) (disjoint_step ha hd hs)) he).mono ?_
  rintro e w' ⟨rfl, h3⟩
  exact ⟨rfl, h.step hs h3, h3.keep.blk hb (hv.not hb h1 h2)⟩

/-- a field put, with a block beside the writer -/
theorem fputB {wf w0 W : World} {S : Nat → Prop} {p bx : Nat} {fn1 fn2 : FuncId} {cap1 cap2 : Array Value} {x : Value} {f : K.WS → K.WS} {s : K.WS} {cs : Array Value} {t : TypeId} (ha : Agree (Lo bf wf) wf w0) (hd : ∀ k, Lo bf wf k → ¬ S k) (h : WAt S w0 p s W) (hp : PutsG (Lo bf wf) wf fn1 cap1 x f)
    (he : ∀ args w, (callFunc fn1 args).run Tryz.prog w = .ok (.enter fn1 args) w) (hb : W.heap[bx]? = some (.cells cs t (0, 0))) (h1 : t ≠ 128) (h2 : t ≠ 5) :
    Calls Tryz.prog 142 #[.agg #[.func (.func fn1) #[] cap1, .func (.func fn2) #[] cap2], .pointer (some ⟨p, 0, none⟩), x] W fun en w' => en = .returned (.tuple #[]) ∧ WAt S w0 p (putW f s) w' ∧ w'.heap[bx]? = some (.cells cs t (0, 0)) := by
  obtain ⟨v, hv, hw2, hs⟩ := h.rebase
  refine (PutB (Wset p v) W p fn1 fn2 cap1 cap2 x f s _ hw2 (hp p _ W (ha.keep h.keep hd) (disjoint_step ha hd hs)) he).mono ?_
  rintro e w' ⟨rfl, h3⟩
  exact ⟨rfl, h.step hs h3, h3.keep.blk hb (hv.not hb h1 h2)⟩

/-- a field put, with a block beside the writer -/
theorem fputW {wf w0 W : World} {S : Nat → Prop} {p bx : Nat} {fn1 fn2 : FuncId} {cap1 cap2 : Array Value} {x : Value} {f : K.WS → K.WS} {s : K.WS} {cs : Array Value} {t : TypeId} (ha : Agree (Lo bf wf) wf w0) (hd : ∀ k, Lo bf wf k → ¬ S k) (h : WAt S w0 p s W) (hp : PutsG (Lo bf wf) wf fn1 cap1 x f)
    (he : ∀ args w, (callFunc fn1 args).run Tryz.prog w = .ok (.enter fn1 args) w) (hb : W.heap[bx]? = some (.cells cs t (0, 0))) (h1 : t ≠ 128) (h2 : t ≠ 5) :
    Calls Tryz.prog 145 #[.agg #[.func (.func fn1) #[] cap1, .func (.func fn2) #[] cap2], .pointer (some ⟨p, 0, none⟩), x] W fun en w' => en = .returned (.tuple #[]) ∧ WAt S w0 p (putW f s) w' ∧ w'.heap[bx]? = some (.cells cs t (0, 0)) := by
  obtain ⟨v, hv, hw2, hs⟩ := h.rebase
  refine (PutW (Wset p v) W p fn1 fn2 cap1 cap2 x f s _ hw2 (hp p _ W (ha.keep h.keep hd) (disjoint_step ha hd hs)) he).mono ?_
  rintro e w' ⟨rfl, h3⟩
  exact ⟨rfl, h.step hs h3, h3.keep.blk hb (hv.not hb h1 h2)⟩

/-- a node by value -/
abbrev Nv := ((((((((List Nat × Int) × Int) × Int) × Int) × Int) × Int) × Int) × List Int) × List Int
def nodeW (v : Nv) : K.WS → K.WS :=
  seqW (seqW (seqW (seqW (seqW (seqW (seqW (seqW (seqW (textW 40 v.1.1.1.1.1.1.1.1.1) (numW 0 15 v.1.1.1.1.1.1.1.1.2)) (numW 1 100 v.1.1.1.1.1.1.1.2)) (numW 1 1099511627776 v.1.1.1.1.1.1.2)) (numW 0 1099511627776 v.1.1.1.1.1.2)) (numW 1 1099511627776 v.1.1.1.1.2)) (numW 1 1099511627776 v.1.1.1.2)) (numW 0 1099511627776 v.1.1.2)) (listW 64 (zW 0 63 v.1.2))) (listW 64 (zW 0 63 v.2))
/-- the forms of a node's fields, in memory -/
structure NF (F : Nat) (w : World) (b1 b2 b3 b4 b5 b6 : Nat) : Prop where
  ex : ∃ m1 l2 m2 l3 m3 l4 m4 l5 m5 m6 o6 l6 k6, FS F w b1 m1 40 ∧ FI F w b2 l2 m2 0 15 ∧ FI F w b3 l3 m3 1 100 ∧ FI F w b4 l4 m4 1 1099511627776 ∧ FI F w b5 l5 m5 0 1099511627776 ∧ FL F w b6 m6 o6 l6 k6 64 0 63
theorem NF.keep {b1 b2 b3 b4 b5 b6 : Nat} (h : NF F w b1 b2 b3 b4 b5 b6) (kk : Keep (fun _ => False) w w') : NF F w' b1 b2 b3 b4 b5 b6 := by
  obtain ⟨m1, l2, m2, l3, m3, l4, m4, l5, m5, m6, o6, l6, k6, h1, h2, h3, h4, h5, h6⟩ := h.ex
  exact ⟨m1, l2, m2, l3, m3, l4, m4, l5, m5, m6, o6, l6, k6, h1.keep kk, h2.keep kk, h3.keep kk, h4.keep kk, h5.keep kk, h6.keep kk⟩
theorem NF.mono {F' b1 b2 b3 b4 b5 b6 : Nat} (h : NF F w b1 b2 b3 b4 b5 b6) (hF : F' ≤ F) : NF F' w b1 b2 b3 b4 b5 b6 := by
  obtain ⟨m1, l2, m2, l3, m3, l4, m4, l5, m5, m6, o6, l6, k6, h1, h2, h3, h4, h5, h6⟩ := h.ex
  exact ⟨m1, l2, m2, l3, m3, l4, m4, l5, m5, m6, o6, l6, k6, h1.mono hF, h2.mono hF, h3.mono hF, h4.mono hF, h5.mono hF, h6.mono hF⟩
def capN (b1 b2 b3 b4 b5 b6 : Nat) : Array Value := #[.pointer (some ⟨b1, 0, none⟩), .pointer (some ⟨b2, 0, none⟩), .pointer (some ⟨b3, 0, none⟩), .pointer (some ⟨b4, 0, none⟩), .pointer (some ⟨b5, 0, none⟩), .pointer (some ⟨b6, 0, none⟩)]
/-- bounds of a node's numbers -/
def NOk (q : Gr.Nd) (nl al : List Int) : Prop := q.nm.size ≤ 140737488351232 ∧ q.la ≤ 9223372036854775807 ∧ q.bu ≤ 9223372036854775807 ∧ q.cl ≤ 9223372036854775807 ∧ q.be ≤ 9223372036854775807 ∧ q.ba ≤ 9223372036854775807 ∧ q.ca ≤ 9223372036854775807 ∧ q.ji ≤ 9223372036854775807 ∧ (∀ x ∈ nl, x ≤ 9223372036854775807) ∧ ∀ x ∈ al, x ≤ 9223372036854775807
/-- the node's value -/
def nv (q : Gr.Nd) (nl al : List Int) : Nv := (((((((((sb q.nm, q.la), q.bu), q.cl), q.be), q.ba), q.ca), q.ji), nl), al)
set_option maxRecDepth 10000 in
set_option maxHeartbeats 2000000 in
theorem putNode (wf w0 : World) (b1 b2 b3 b4 b5 b6 : Nat) (hF : NF bf.2 wf b1 b2 b3 b4 b5 b6) (q : Gr.Nd) (nl al : List Int) (hw : bf.1 ≤ wf.heap.size) (h1 : Gr.RdZ bf.1 wf q.ne nl) (h2 : Gr.RdZ bf.1 wf q.af al) (hok : NOk q nl al) (p : Nat) (S : Nat → Prop) (ha : Agree (Lo bf wf) wf w0) (hd : ∀ k, Lo bf wf k → ¬ S k) (W : World) (s : K.WS) (h : WAt S w0 p s W) (hz : s.fault = 0) :
    Calls Tryz.prog 123 (#[.pointer (some ⟨p, 0, none⟩), .agg q.row.toArray] ++ capN b1 b2 b3 b4 b5 b6) W fun en w' => en = .returned (.tuple #[]) ∧ WAt S w0 p (nodeW (nv q nl al) s) w' := by
  obtain ⟨nm, la, bu, cl, be, ba, ca, ji, ⟨x1, x2, x3⟩, ⟨y1, y2, y3⟩⟩ := q
  obtain ⟨m1, l2, m2, l3, m3, l4, m4, l5, m5, m6, o6, l6, k6, f1, f2, f3, f4, f5, f6⟩ := hF.ex
  obtain ⟨k0, k1, k2, k3, k4, k5, k6', k7, k8, k9⟩ := hok
  have P0 := hide (putsText (Lo bf wf) wf m1 40 nm k0 f1.cel (clM f1.cel f1.hm))
  have P1 := hide (putsNum (Lo bf wf) wf l2 m2 0 15 la k1 f2.ce0 f2.cel (clM f2.ce0 f2.hl) (clM f2.cel f2.hm))
  have P2 := hide (putsNum (Lo bf wf) wf l3 m3 1 100 bu k2 f3.ce0 f3.cel (clM f3.ce0 f3.hl) (clM f3.cel f3.hm))
  have P3 := hide (putsNum (Lo bf wf) wf l4 m4 1 1099511627776 cl k3 f4.ce0 f4.cel (clM f4.ce0 f4.hl) (clM f4.cel f4.hm))
  have P4 := hide (putsNum (Lo bf wf) wf l5 m5 0 1099511627776 be k4 f5.ce0 f5.cel (clM f5.ce0 f5.hl) (clM f5.cel f5.hm))
  have P5 := hide (putsNum (Lo bf wf) wf l4 m4 1 1099511627776 ba k5 f4.ce0 f4.cel (clM f4.ce0 f4.hl) (clM f4.cel f4.hm))
  have P6 := hide (putsNum (Lo bf wf) wf l4 m4 1 1099511627776 ca k6' f4.ce0 f4.cel (clM f4.ce0 f4.hl) (clM f4.cel f4.hm))
  have P7 := hide (putsNum (Lo bf wf) wf l5 m5 0 1099511627776 ji k7 f5.ce0 f5.cel (clM f5.ce0 f5.hl) (clM f5.cel f5.hm))
  have P8 := hide (puts_L f6 hw h1 k8)
  have P9 := hide (puts_L f6 hw h2 k9)
  have HC : Hid (∀ W, Agree (Lo bf wf) wf W → ((W.cell? ⟨b1, 0, none⟩ = some ((fS m1)[0]!) ∧ W.cell? ⟨b1, 1, none⟩ = some ((fS m1)[1]!)) ∧ (W.cell? ⟨b2, 0, none⟩ = some ((fI l2 m2)[0]!) ∧ W.cell? ⟨b2, 1, none⟩ = some ((fI l2 m2)[1]!)) ∧ (W.cell? ⟨b3, 0, none⟩ = some ((fI l3 m3)[0]!) ∧ W.cell? ⟨b3, 1, none⟩ = some ((fI l3 m3)[1]!)) ∧ (W.cell? ⟨b4, 0, none⟩ = some ((fI l4 m4)[0]!) ∧ W.cell? ⟨b4, 1, none⟩ = some ((fI l4 m4)[1]!)) ∧ (W.cell? ⟨b5, 0, none⟩ = some ((fI l5 m5)[0]!) ∧ W.cell? ⟨b5, 1, none⟩ = some ((fI l5 m5)[1]!)) ∧ (W.cell? ⟨b6, 0, none⟩ = some ((fL m6 o6)[0]!) ∧ W.cell? ⟨b6, 1, none⟩ = some ((fL m6 o6)[1]!)))) := fun W ha => ⟨lo_cells ha f1.blk f1.hb, lo_cells ha f2.blk f2.hb, lo_cells ha f3.blk f3.hb, lo_cells ha f4.blk f4.hb, lo_cells ha f5.blk f5.hb, lo_cells ha f6.blk f6.hb⟩
  have HA := hide ha
  have HD := hide hd
  have hba := (Below.refl W.heap.size W).alloc (Nat.le_refl _) (.cells #[.string nm, .int .i64 la, .int .i64 bu, .int .i64 cl, .int .i64 be, .int .i64 ba, .int .i64 ca, .int .i64 ji, .slice x1 x2 x3, .slice y1 y2 y3] 57)
  have HW0 := hide (h.below hba)
  have HX0 := hide (heap_alloc_new W (.cells #[.string nm, .int .i64 la, .int .i64 bu, .int .i64 cl, .int .i64 be, .int .i64 ba, .int .i64 ca, .int .i64 ji, .slice x1 x2 x3, .slice y1 y2 y3] 57))
  have HFN : Hid (seqW (seqW (seqW (seqW (seqW (seqW (seqW (seqW (seqW (textW 40 (sb nm)) (numW 0 15 la)) (numW 1 100 bu)) (numW 1 1099511627776 cl)) (numW 0 1099511627776 be)) (numW 1 1099511627776 ba)) (numW 1 1099511627776 ca)) (numW 0 1099511627776 ji)) (listW 64 (zW 0 63 nl))) (listW 64 (zW 0 63 al)) s = nodeW (nv ⟨nm, la, bu, cl, be, ba, ca, ji, (x1, x2, x3), (y1, y2, y3)⟩ nl al) s) := rfl
  have HZ := hide hz
  generalize nodeW (nv ⟨nm, la, bu, cl, be, ba, ca, ji, (x1, x2, x3), (y1, y2, y3)⟩ nl al) s = sE at *
  clear hw h ha hd hba f1 f2 f3 f4 f5 f6 h1 h2 k0 k1 k2 k3 k4 k5 k6' k7 k8 k9 hz hF
  show Calls Tryz.prog 123 #[.pointer (some ⟨p, 0, none⟩), .agg #[.string nm, .int .i64 la, .int .i64 bu, .int .i64 cl, .int .i64 be, .int .i64 ba, .int .i64 ca, .int .i64 ji, .slice x1 x2 x3, .slice y1 y2 y3], .pointer (some ⟨b1, 0, none⟩), .pointer (some ⟨b2, 0, none⟩), .pointer (some ⟨b3, 0, none⟩), .pointer (some ⟨b4, 0, none⟩), .pointer (some ⟨b5, 0, none⟩), .pointer (some ⟨b6, 0, none⟩)] W _
  go_enter Tryz.func123, Tryz.ntmps123
  go_upto_region 1 with fail
  generalize W.alloc (.cells #[.string nm, .int .i64 la, .int .i64 bu, .int .i64 cl, .int .i64 be, .int .i64 ba, .int .i64 ca, .int .i64 ji, .slice x1 x2 x3, .slice y1 y2 y3] 57) = W0 at *
  generalize W.heap.size = bx at *
  have hc0 := (HC.out W0 (HA.out.keep HW0.out.keep HD.out)).1
  have c0 : W0.cell? ⟨b1, 0, none⟩ = some (.func (.func 155) #[] #[.pointer (some ⟨m1, 0, none⟩)]) := hc0.1
  have c1 : W0.cell? ⟨b1, 1, none⟩ = some (.func (.func 157) #[] #[.pointer (some ⟨m1, 0, none⟩)]) := hc0.2
  have d0 : W0.cell? ⟨bx, 0, none⟩ = some (.string nm) := cell_blk HX0.out 0 rfl
  have C0 := hide (fputS (fn2 := 157) (cap2 := #[.pointer (some ⟨m1, 0, none⟩)]) HA.out HD.out HW0.out P0.out ent_putText HX0.out (by decide) (by decide))
  clear hc0 P0
  go_upto_region 2 with (go_at_call 58; refine C0.out.mono ?_; rintro e W1 ⟨rfl, h, hx⟩; have HW1 := hide h; have HX1 := hide hx; clear h hx c0 c1 d0 C0 HW0 HX0)
  have hc1 := (HC.out W1 (HA.out.keep HW1.out.keep HD.out)).2.1
  have c0 : W1.cell? ⟨b2, 0, none⟩ = some (.func (.func 78) #[] #[.pointer (some ⟨l2, 0, none⟩), .pointer (some ⟨m2, 0, none⟩)]) := hc1.1
  have c1 : W1.cell? ⟨b2, 1, none⟩ = some (.func (.func 81) #[] #[.pointer (some ⟨l2, 0, none⟩), .pointer (some ⟨m2, 0, none⟩)]) := hc1.2
  have d0 : W1.cell? ⟨bx, 1, none⟩ = some (.int .i64 la) := cell_blk HX1.out 1 rfl
  have C1 := hide (fputI (fn2 := 81) (cap2 := #[.pointer (some ⟨l2, 0, none⟩), .pointer (some ⟨m2, 0, none⟩)]) HA.out HD.out HW1.out P1.out ent_putNum HX1.out (by decide) (by decide))
  clear hc1 P1
  go_upto_region 3 with (go_at_call 46; refine C1.out.mono ?_; rintro e W2 ⟨rfl, h, hx⟩; have HW2 := hide h; have HX2 := hide hx; clear h hx c0 c1 d0 C1 HW1 HX1)
  have hc2 := (HC.out W2 (HA.out.keep HW2.out.keep HD.out)).2.2.1
  have c0 : W2.cell? ⟨b3, 0, none⟩ = some (.func (.func 78) #[] #[.pointer (some ⟨l3, 0, none⟩), .pointer (some ⟨m3, 0, none⟩)]) := hc2.1
  have c1 : W2.cell? ⟨b3, 1, none⟩ = some (.func (.func 81) #[] #[.pointer (some ⟨l3, 0, none⟩), .pointer (some ⟨m3, 0, none⟩)]) := hc2.2
  have d0 : W2.cell? ⟨bx, 2, none⟩ = some (.int .i64 bu) := cell_blk HX2.out 2 rfl
  have C2 := hide (fputI (fn2 := 81) (cap2 := #[.pointer (some ⟨l3, 0, none⟩), .pointer (some ⟨m3, 0, none⟩)]) HA.out HD.out HW2.out P2.out ent_putNum HX2.out (by decide) (by decide))
  clear hc2 P2
  go_upto_region 4 with (go_at_call 46; refine C2.out.mono ?_; rintro e W3 ⟨rfl, h, hx⟩; have HW3 := hide h; have HX3 := hide hx; clear h hx c0 c1 d0 C2 HW2 HX2)
  have hc3 := (HC.out W3 (HA.out.keep HW3.out.keep HD.out)).2.2.2.1
  have c0 : W3.cell? ⟨b4, 0, none⟩ = some (.func (.func 78) #[] #[.pointer (some ⟨l4, 0, none⟩), .pointer (some ⟨m4, 0, none⟩)]) := hc3.1
  have c1 : W3.cell? ⟨b4, 1, none⟩ = some (.func (.func 81) #[] #[.pointer (some ⟨l4, 0, none⟩), .pointer (some ⟨m4, 0, none⟩)]) := hc3.2
  have d0 : W3.cell? ⟨bx, 3, none⟩ = some (.int .i64 cl) := cell_blk HX3.out 3 rfl
  have C3 := hide (fputI (fn2 := 81) (cap2 := #[.pointer (some ⟨l4, 0, none⟩), .pointer (some ⟨m4, 0, none⟩)]) HA.out HD.out HW3.out P3.out ent_putNum HX3.out (by decide) (by decide))
  clear hc3 P3
  go_upto_region 5 with (go_at_call 46; refine C3.out.mono ?_; rintro e W4 ⟨rfl, h, hx⟩; have HW4 := hide h; have HX4 := hide hx; clear h hx c0 c1 d0 C3 HW3 HX3)
  have hc4 := (HC.out W4 (HA.out.keep HW4.out.keep HD.out)).2.2.2.2.1
  have c0 : W4.cell? ⟨b5, 0, none⟩ = some (.func (.func 78) #[] #[.pointer (some ⟨l5, 0, none⟩), .pointer (some ⟨m5, 0, none⟩)]) := hc4.1
  have c1 : W4.cell? ⟨b5, 1, none⟩ = some (.func (.func 81) #[] #[.pointer (some ⟨l5, 0, none⟩), .pointer (some ⟨m5, 0, none⟩)]) := hc4.2
  have d0 : W4.cell? ⟨bx, 4, none⟩ = some (.int .i64 be) := cell_blk HX4.out 4 rfl
  have C4 := hide (fputI (fn2 := 81) (cap2 := #[.pointer (some ⟨l5, 0, none⟩), .pointer (some ⟨m5, 0, none⟩)]) HA.out HD.out HW4.out P4.out ent_putNum HX4.out (by decide) (by decide))
  clear hc4 P4
  go_upto_region 6 with (go_at_call 46; refine C4.out.mono ?_; rintro e W5 ⟨rfl, h, hx⟩; have HW5 := hide h; have HX5 := hide hx; clear h hx c0 c1 d0 C4 HW4 HX4)
  have hc5 := (HC.out W5 (HA.out.keep HW5.out.keep HD.out)).2.2.2.1
  have c0 : W5.cell? ⟨b4, 0, none⟩ = some (.func (.func 78) #[] #[.pointer (some ⟨l4, 0, none⟩), .pointer (some ⟨m4, 0, none⟩)]) := hc5.1
  have c1 : W5.cell? ⟨b4, 1, none⟩ = some (.func (.func 81) #[] #[.pointer (some ⟨l4, 0, none⟩), .pointer (some ⟨m4, 0, none⟩)]) := hc5.2
  have d0 : W5.cell? ⟨bx, 5, none⟩ = some (.int .i64 ba) := cell_blk HX5.out 5 rfl
  have C5 := hide (fputI (fn2 := 81) (cap2 := #[.pointer (some ⟨l4, 0, none⟩), .pointer (some ⟨m4, 0, none⟩)]) HA.out HD.out HW5.out P5.out ent_putNum HX5.out (by decide) (by decide))
  clear hc5 P5
  go_upto_region 7 with (go_at_call 46; refine C5.out.mono ?_; rintro e W6 ⟨rfl, h, hx⟩; have HW6 := hide h; have HX6 := hide hx; clear h hx c0 c1 d0 C5 HW5 HX5)
  have hc6 := (HC.out W6 (HA.out.keep HW6.out.keep HD.out)).2.2.2.1
  have c0 : W6.cell? ⟨b4, 0, none⟩ = some (.func (.func 78) #[] #[.pointer (some ⟨l4, 0, none⟩), .pointer (some ⟨m4, 0, none⟩)]) := hc6.1
  have c1 : W6.cell? ⟨b4, 1, none⟩ = some (.func (.func 81) #[] #[.pointer (some ⟨l4, 0, none⟩), .pointer (some ⟨m4, 0, none⟩)]) := hc6.2
  have d0 : W6.cell? ⟨bx, 6, none⟩ = some (.int .i64 ca) := cell_blk HX6.out 6 rfl
  have C6 := hide (fputI (fn2 := 81) (cap2 := #[.pointer (some ⟨l4, 0, none⟩), .pointer (some ⟨m4, 0, none⟩)]) HA.out HD.out HW6.out P6.out ent_putNum HX6.out (by decide) (by decide))
  clear hc6 P6
  go_upto_region 8 with (go_at_call 46; refine C6.out.mono ?_; rintro e W7 ⟨rfl, h, hx⟩; have HW7 := hide h; have HX7 := hide hx; clear h hx c0 c1 d0 C6 HW6 HX6)
  have hc7 := (HC.out W7 (HA.out.keep HW7.out.keep HD.out)).2.2.2.2.1
  have c0 : W7.cell? ⟨b5, 0, none⟩ = some (.func (.func 78) #[] #[.pointer (some ⟨l5, 0, none⟩), .pointer (some ⟨m5, 0, none⟩)]) := hc7.1
  have c1 : W7.cell? ⟨b5, 1, none⟩ = some (.func (.func 81) #[] #[.pointer (some ⟨l5, 0, none⟩), .pointer (some ⟨m5, 0, none⟩)]) := hc7.2
  have d0 : W7.cell? ⟨bx, 7, none⟩ = some (.int .i64 ji) := cell_blk HX7.out 7 rfl
  have C7 := hide (fputI (fn2 := 81) (cap2 := #[.pointer (some ⟨l5, 0, none⟩), .pointer (some ⟨m5, 0, none⟩)]) HA.out HD.out HW7.out P7.out ent_putNum HX7.out (by decide) (by decide))
  clear hc7 P7
  go_upto_region 9 with (go_at_call 46; refine C7.out.mono ?_; rintro e W8 ⟨rfl, h, hx⟩; have HW8 := hide h; have HX8 := hide hx; clear h hx c0 c1 d0 C7 HW7 HX7)
  have hc8 := (HC.out W8 (HA.out.keep HW8.out.keep HD.out)).2.2.2.2.2
  have c0 : W8.cell? ⟨b6, 0, none⟩ = some (.func (.func 162) #[] #[.pointer (some ⟨m6, 0, none⟩), .pointer (some ⟨o6, 0, none⟩)]) := hc8.1
  have c1 : W8.cell? ⟨b6, 1, none⟩ = some (.func (.func 164) #[] #[.pointer (some ⟨m6, 0, none⟩), .pointer (some ⟨o6, 0, none⟩)]) := hc8.2
  have d0 : W8.cell? ⟨bx, 8, none⟩ = some (.slice x1 x2 x3) := cell_blk HX8.out 8 rfl
  have C8 := hide (fputLi (fn2 := 164) (cap2 := #[.pointer (some ⟨m6, 0, none⟩), .pointer (some ⟨o6, 0, none⟩)]) HA.out HD.out HW8.out P8.out ent_putListI HX8.out (by decide) (by decide))
  clear hc8 P8
  go_upto_region 10 with (go_at_call 124; refine C8.out.mono ?_; rintro e W9 ⟨rfl, h, hx⟩; have HW9 := hide h; have HX9 := hide hx; clear h hx c0 c1 d0 C8 HW8 HX8)
  have hc9 := (HC.out W9 (HA.out.keep HW9.out.keep HD.out)).2.2.2.2.2
  have c0 : W9.cell? ⟨b6, 0, none⟩ = some (.func (.func 162) #[] #[.pointer (some ⟨m6, 0, none⟩), .pointer (some ⟨o6, 0, none⟩)]) := hc9.1
  have c1 : W9.cell? ⟨b6, 1, none⟩ = some (.func (.func 164) #[] #[.pointer (some ⟨m6, 0, none⟩), .pointer (some ⟨o6, 0, none⟩)]) := hc9.2
  have d0 : W9.cell? ⟨bx, 9, none⟩ = some (.slice y1 y2 y3) := cell_blk HX9.out 9 rfl
  have C9 := hide (fputLi (fn2 := 164) (cap2 := #[.pointer (some ⟨m6, 0, none⟩), .pointer (some ⟨o6, 0, none⟩)]) HA.out HD.out HW9.out P9.out ent_putListI HX9.out (by decide) (by decide))
  clear hc9 P9
  go_wp2_with (go_at_call 124; refine C9.out.mono ?_; rintro e W10 ⟨rfl, h, hx⟩; have HW10 := hide h; have HX10 := hide hx; clear h hx c0 c1 d0 C9 HW9 HX9)
  go_end0
  refine ⟨rfl, ?_⟩
  have := HW10.out
  rw [putW_zero HZ.out] at this
  rw [← HFN.out]
  exact this
theorem ent_putNode (args : Array Value) (w : World) : (callFunc 123 args).run Tryz.prog w = .ok (.enter 123 args) w :=
  callFunc_enter Tryz.func123 (by kernel_rfl) (by kernel_rfl) args w
theorem putsNode (wf : World) (b1 b2 b3 b4 b5 b6 : Nat) (hF : NF bf.2 wf b1 b2 b3 b4 b5 b6) (q : Gr.Nd) (nl al : List Int) (hw : bf.1 ≤ wf.heap.size) (h1 : Gr.RdZ bf.1 wf q.ne nl) (h2 : Gr.RdZ bf.1 wf q.af al) (hok : NOk q nl al) :
    PutsG (Lo bf wf) wf 123 (capN b1 b2 b3 b4 b5 b6) (.agg q.row.toArray) (nodeW (nv q nl al)) :=
  fun p S w1 ha hd w2 s h hz => putNode wf w1 b1 b2 b3 b4 b5 b6 hF q nl al hw h1 h2 hok p S ha hd w2 s h hz
end Cd
end Go.Proofs.YtbjcckfhfbjchaaGreat

/- Codec: a field taken; a node taken (written by cnt_gen.py). -/
namespace Go.Proofs.YtbjcckfhfbjchaaGreat
namespace Cd
open Go.RowKit Go.Deep

variable {F : Nat} {bf : Nat × Nat}
theorem tk_ok {g : K.RS → K.RS} {s : K.RS} (h : (takeR g s).fault = 0) : s.fault = 0 := by
  by_cases hz : s.fault = 0
  · exact hz
  · unfold takeR at h
    rw [if_neg hz] at h
    exact h
def vS (most : Int) (s : K.RS) (_ : World) (v : Value) : Prop := v = .string (str (rowV most s))
def vI (s : K.RS) (_ : World) (v : Value) : Prop := v = .int .i64 (numV s : Nat)
def vL (s : K.RS) (w : World) (v : Value) : Prop := listV 3 64 (numR 0 63) vI s w v
theorem stable_S {T : TypeId} (most : Int) (s : K.RS) : StableT T (vS most s) := stableT_plain
theorem stable_I {T : TypeId} (s : K.RS) : StableT T (vI s) := stableT_plain
theorem stable_L {T : TypeId} (hT : 3 ≠ T) (s : K.RS) : StableT T (vL s) := listV_stable (by decide) hT (fun s => stable_I s) s
theorem sh_S {s' : K.RS} {w : World} {v : Value} {most : Int} {s : K.RS} (h : s'.fault = 0 → vS most s w v) (hn : s'.fault ≠ 0 → v = .string ⟨#[]⟩) : ∃ x, v = .string x ∧ (s'.fault = 0 → x = str (rowV most s)) := by
  by_cases hz : s'.fault = 0
  · exact ⟨_, h hz, fun _ => rfl⟩
  · exact ⟨_, hn hz, fun e => absurd e hz⟩
theorem sh_I {s' : K.RS} {w : World} {v : Value} {s : K.RS} (h : s'.fault = 0 → vI s w v) (hn : s'.fault ≠ 0 → v = .int .i64 0) : ∃ x : Int, v = .int .i64 x ∧ (s'.fault = 0 → x = (numV s : Nat)) := by
  by_cases hz : s'.fault = 0
  · exact ⟨_, h hz, fun _ => rfl⟩
  · exact ⟨_, hn hz, fun e => absurd e hz⟩
theorem sh_L {s' : K.RS} {w : World} {v : Value} {s : K.RS} (h : s'.fault = 0 → vL s w v) (hn : s'.fault ≠ 0 → v = .slice none 0 0) : ∃ a n c, v = .slice a n c ∧ (s'.fault = 0 → vL s w (.slice a n c)) := by
  by_cases hz : s'.fault = 0
  · obtain ⟨y1, y2, y3, e⟩ := listV_shape (h hz)
    refine ⟨y1, y2, y3, e, fun hz => ?_⟩
    rw [← e]
    exact h hz
  · exact ⟨_, _, _, hn hz, fun e => absurd e hz⟩
theorem ftakeI {wf W : World} {q : Nat} {fn1 fn2 : FuncId} {cap1 cap2 : Array Value} {g : K.RS → K.RS} {V : K.RS → World → Value → Prop} {s : K.RS} (ha : Agree (Lo bf wf) wf W) (hq : ¬ Lo bf wf q) (hr : Rr W q s) (ht : TakesG (Lo bf wf) wf fn2 cap2 g V) (hV : Stable (V s))
    (he : ∀ args w, (callFunc fn2 args).run Tryz.prog w = .ok (.enter fn2 args) w) :
    Calls Tryz.prog 48 #[.agg #[.func (.func fn1) #[] cap1, .func (.func fn2) #[] cap2], .pointer (some ⟨q, 0, none⟩)] W (Took q (takeR g s) (V s) (.int .i64 0) W) := by
  refine TakeI q fn1 fn2 cap1 cap2 s (takeR g s) (V s) hV W hr (fun hz w1 hb => ?_) (fun hz => ?_) he
  · have e : takeR g s = g s := by unfold takeR; rw [if_pos hz]
    rw [e]
    exact ht q s w1 (ha.keep (Keep.ofBelow (S := fun _ => False) hb (Nat.le_refl _)) (fun _ _ h => h)) hq (hr.below hb) hz
  · unfold takeR
    rw [if_neg hz]

theorem ftakeS {wf W : World} {q : Nat} {fn1 fn2 : FuncId} {cap1 cap2 : Array Value} {g : K.RS → K.RS} {V : K.RS → World → Value → Prop} {s : K.RS} (ha : Agree (Lo bf wf) wf W) (hq : ¬ Lo bf wf q) (hr : Rr W q s) (ht : TakesG (Lo bf wf) wf fn2 cap2 g V) (hV : Stable (V s))
    (he : ∀ args w, (callFunc fn2 args).run Tryz.prog w = .ok (.enter fn2 args) w) :
    Calls Tryz.prog 61 #[.agg #[.func (.func fn1) #[] cap1, .func (.func fn2) #[] cap2], .pointer (some ⟨q, 0, none⟩)] W (Took q (takeR g s) (V s) (.string ⟨#[]⟩) W) := by
  refine TakeS q fn1 fn2 cap1 cap2 s (takeR g s) (V s) hV W hr (fun hz w1 hb => ?_) (fun hz => ?_) he
  · have e : takeR g s = g s := by unfold takeR; rw [if_pos hz]
    rw [e]
    exact ht q s w1 (ha.keep (Keep.ofBelow (S := fun _ => False) hb (Nat.le_refl _)) (fun _ _ h => h)) hq (hr.below hb) hz
  · unfold takeR
    rw [if_neg hz]

theorem ftakeLi {wf W : World} {q : Nat} {fn1 fn2 : FuncId} {cap1 cap2 : Array Value} {g : K.RS → K.RS} {V : K.RS → World → Value → Prop} {s : K.RS} (ha : Agree (Lo bf wf) wf W) (hq : ¬ Lo bf wf q) (hr : Rr W q s) (ht : TakesG (Lo bf wf) wf fn2 cap2 g V) (hV : Stable (V s))
    (he : ∀ args w, (callFunc fn2 args).run Tryz.prog w = .ok (.enter fn2 args) w) :
    Calls Tryz.prog 126 #[.agg #[.func (.func fn1) #[] cap1, .func (.func fn2) #[] cap2], .pointer (some ⟨q, 0, none⟩)] W (Took q (takeR g s) (V s) (.slice none 0 0) W) := by
  refine TakeLi q fn1 fn2 cap1 cap2 s (takeR g s) (V s) hV W hr (fun hz w1 hb => ?_) (fun hz => ?_) he
  · have e : takeR g s = g s := by unfold takeR; rw [if_pos hz]
    rw [e]
    exact ht q s w1 (ha.keep (Keep.ofBelow (S := fun _ => False) hb (Nat.le_refl _)) (fun _ _ h => h)) hq (hr.below hb) hz
  · unfold takeR
    rw [if_neg hz]

theorem ftakeLn {wf W : World} {q : Nat} {fn1 fn2 : FuncId} {cap1 cap2 : Array Value} {g : K.RS → K.RS} {V : K.RS → World → Value → Prop} {s : K.RS} (ha : Agree (Lo bf wf) wf W) (hq : ¬ Lo bf wf q) (hr : Rr W q s) (ht : TakesG (Lo bf wf) wf fn2 cap2 g V) (hV : Stable (V s))
    (he : ∀ args w, (callFunc fn2 args).run Tryz.prog w = .ok (.enter fn2 args) w) :
    Calls Tryz.prog 62 #[.agg #[.func (.func fn1) #[] cap1, .func (.func fn2) #[] cap2], .pointer (some ⟨q, 0, none⟩)] W (Took q (takeR g s) (V s) (.slice none 0 0) W) := by
  refine TakeLn q fn1 fn2 cap1 cap2 s (takeR g s) (V s) hV W hr (fun hz w1 hb => ?_) (fun hz => ?_) he
  · have e : takeR g s = g s := by unfold takeR; rw [if_pos hz]
    rw [e]
    exact ht q s w1 (ha.keep (Keep.ofBelow (S := fun _ => False) hb (Nat.le_refl _)) (fun _ _ h => h)) hq (hr.below hb) hz
  · unfold takeR
    rw [if_neg hz]

theorem ftakeB {wf W : World} {q : Nat} {fn1 fn2 : FuncId} {cap1 cap2 : Array Value} {g : K.RS → K.RS} {V : K.RS → World → Value → Prop} {s : K.RS} (ha : Agree (Lo bf wf) wf W) (hq : ¬ Lo bf wf q) (hr : Rr W q s) (ht : TakesG (Lo bf wf) wf fn2 cap2 g V) (hV : Stable (V s))
    (he : ∀ args w, (callFunc fn2 args).run Tryz.prog w = .ok (.enter fn2 args) w) :
    Calls Tryz.prog 143 #[.agg #[.func (.func fn1) #[] cap1, .func (.func fn2) #[] cap2], .pointer (some ⟨q, 0, none⟩)] W (Took q (takeR g s) (V s) (.slice none 0 0) W) := by
  refine TakeB q fn1 fn2 cap1 cap2 s (takeR g s) (V s) hV W hr (fun hz w1 hb => ?_) (fun hz => ?_) he
  · have e : takeR g s = g s := by unfold takeR; rw [if_pos hz]
    rw [e]
    exact ht q s w1 (ha.keep (Keep.ofBelow (S := fun _ => False) hb (Nat.le_refl _)) (fun _ _ h => h)) hq (hr.below hb) hz
  · unfold takeR
    rw [if_neg hz]

theorem ftakeW {wf W : World} {q : Nat} {fn1 fn2 : FuncId} {cap1 cap2 : Array Value} {g : K.RS → K.RS} {V : K.RS → World → Value → Prop} {s : K.RS} (ha : Agree (Lo bf wf) wf W) (hq : ¬ Lo bf wf q) (hr : Rr W q s) (ht : TakesG (Lo bf wf) wf fn2 cap2 g V) (hV : Stable (V s))
    (he : ∀ args w, (callFunc fn2 args).run Tryz.prog w = .ok (.enter fn2 args) w) :
    Calls Tryz.prog 146 #[.agg #[.func (.func fn1) #[] cap1, .func (.func fn2) #[] cap2], .pointer (some ⟨q, 0, none⟩)] W (Took q (takeR g s) (V s) (.int .u64 0) W) := by
  refine TakeW q fn1 fn2 cap1 cap2 s (takeR g s) (V s) hV W hr (fun hz w1 hb => ?_) (fun hz => ?_) he
  · have e : takeR g s = g s := by unfold takeR; rw [if_pos hz]
    rw [e]
    exact ht q s w1 (ha.keep (Keep.ofBelow (S := fun _ => False) hb (Nat.le_refl _)) (fun _ _ h => h)) hq (hr.below hb) hz
  · unfold takeR
    rw [if_neg hz]

theorem takes_L {wf : World} {b m o l k : Nat} (hF : FL bf.2 wf b m o l k 64 0 63) : TakesG (Lo bf wf) wf 164 #[.pointer (some ⟨m, 0, none⟩), .pointer (some ⟨o, 0, none⟩)] (listR 64 (numR 0 63)) vL :=
  takesListI (Lo bf wf) wf m o 64 (by decide) _ _ _ _ (numR 0 63) vI (fun s => stable_I s) (fun s w v h => ⟨_, h⟩) (takesNum (Lo bf wf) wf l k 0 63 hF.ce0 hF.ce1 (clM hF.ce0 hF.hl) (clM hF.ce1 hF.hk)) ent_takeNum (clM hF.cel hF.hm) (blM hF.obk hF.ho) hF.cel hF.obk
theorem rd_typ {w : World} {q : Nat} {s : K.RS} (h : Rr w q s) : ∀ k, k = q → ∃ cs t, w.heap[k]? = some (.cells cs t (0, 0)) ∧ (t = 136 ∨ t = 57) := fun k e => by
  obtain ⟨a0, c0, hb, _⟩ := h.ex
  subst e
  exact ⟨_, _, hb, .inl rfl⟩
theorem ne_rd {w : World} {q : Nat} {s : K.RS} (h : Rr w q s) {b : Nat} {cs : Array Value} (hb : w.heap[b]? = some (.cells cs 57 (0, 0))) : ¬ b = q := box_ne h hb (by decide)
def Rn1 : K.RS → K.RS := rowR 40
def Rn2 : K.RS → K.RS := seqR Rn1 (numR 0 15)
def Rn3 : K.RS → K.RS := seqR Rn2 (numR 1 100)
def Rn4 : K.RS → K.RS := seqR Rn3 (numR 1 1099511627776)
def Rn5 : K.RS → K.RS := seqR Rn4 (numR 0 1099511627776)
def Rn6 : K.RS → K.RS := seqR Rn5 (numR 1 1099511627776)
def Rn7 : K.RS → K.RS := seqR Rn6 (numR 1 1099511627776)
def Rn8 : K.RS → K.RS := seqR Rn7 (numR 0 1099511627776)
def Rn9 : K.RS → K.RS := seqR Rn8 (listR 64 (numR 0 63))
def nodeR : K.RS → K.RS := seqR Rn9 (listR 64 (numR 0 63))
def iV (s : K.RS) : Int := ((numV s : Nat) : Int)
def lV (s : K.RS) : List Int := listVal 64 (numR 0 63) iV s
/-- the node that is taken -/
def nodeVal (s : K.RS) : Nv := (((((((((rowV 40 s, iV (Rn1 s)), iV (Rn2 s)), iV (Rn3 s)), iV (Rn4 s)), iV (Rn5 s)), iV (Rn6 s)), iV (Rn7 s)), lV (Rn8 s)), lV (Rn9 s))
theorem wI (least most : Int) (h : most ≤ 9223372036854775807) : WR (numR least most) iV (fun x => numW least most x) := wr_num least most h
theorem wL : WR (listR 64 (numR 0 63)) lV (fun z => listW 64 (zW 0 63 z)) := wr_list (wI 0 63 (by decide)) 64
theorem wr10 {A1 A2 A3 A4 A5 A6 A7 A8 A9 A0 : Type} {R1 R2 R3 R4 R5 R6 R7 R8 R9 R0 g2 g3 g4 g5 g6 g7 g8 g9 g0 : K.RS → K.RS} {v1 : K.RS → A1} {v2 : K.RS → A2} {v3 : K.RS → A3} {v4 : K.RS → A4} {v5 : K.RS → A5} {v6 : K.RS → A6} {v7 : K.RS → A7} {v8 : K.RS → A8} {v9 : K.RS → A9} {v0 : K.RS → A0} {f1 : A1 → K.WS → K.WS} {f2 : A2 → K.WS → K.WS} {f3 : A3 → K.WS → K.WS} {f4 : A4 → K.WS → K.WS} {f5 : A5 → K.WS → K.WS} {f6 : A6 → K.WS → K.WS} {f7 : A7 → K.WS → K.WS} {f8 : A8 → K.WS → K.WS} {f9 : A9 → K.WS → K.WS} {f0 : A0 → K.WS → K.WS}
    (h1 : WR R1 v1 f1) (h2 : WR g2 v2 f2) (h3 : WR g3 v3 f3) (h4 : WR g4 v4 f4) (h5 : WR g5 v5 f5) (h6 : WR g6 v6 f6) (h7 : WR g7 v7 f7) (h8 : WR g8 v8 f8) (h9 : WR g9 v9 f9) (h0 : WR g0 v0 f0)
    (e2 : R2 = seqR R1 g2) (e3 : R3 = seqR R2 g3) (e4 : R4 = seqR R3 g4) (e5 : R5 = seqR R4 g5) (e6 : R6 = seqR R5 g6) (e7 : R7 = seqR R6 g7) (e8 : R8 = seqR R7 g8) (e9 : R9 = seqR R8 g9) (e0 : R0 = seqR R9 g0) :
    WR R0 (fun s => (((((((((v1 s, v2 (R1 s)), v3 (R2 s)), v4 (R3 s)), v5 (R4 s)), v6 (R5 s)), v7 (R6 s)), v8 (R7 s)), v9 (R8 s)), v0 (R9 s)))
      (fun x => seqW (seqW (seqW (seqW (seqW (seqW (seqW (seqW (seqW (f1 x.1.1.1.1.1.1.1.1.1) (f2 x.1.1.1.1.1.1.1.1.2)) (f3 x.1.1.1.1.1.1.1.2)) (f4 x.1.1.1.1.1.1.2)) (f5 x.1.1.1.1.1.2)) (f6 x.1.1.1.1.2)) (f7 x.1.1.1.2)) (f8 x.1.1.2)) (f9 x.1.2)) (f0 x.2)) := by
  subst e2 e3 e4 e5 e6 e7 e8 e9 e0
  have t2 := wr_seq h1 h2
  have t3 := wr_seq t2 h3
  have t4 := wr_seq t3 h4
  have t5 := wr_seq t4 h5
  have t6 := wr_seq t5 h6
  have t7 := wr_seq t6 h7
  have t8 := wr_seq t7 h8
  have t9 := wr_seq t8 h9
  have t0 := wr_seq t9 h0
  clear t2 t3 t4 t5 t6 t7 t8 t9
  exact t0
theorem wr_node : WR nodeR nodeVal nodeW := by
  have h := wr10 (R1 := Rn1) (R2 := Rn2) (R3 := Rn3) (R4 := Rn4) (R5 := Rn5) (R6 := Rn6) (R7 := Rn7) (R8 := Rn8) (R9 := Rn9) (R0 := nodeR) (wr_text 40) (wI 0 15 (by decide)) (wI 1 100 (by decide)) (wI 1 1099511627776 (by decide)) (wI 0 1099511627776 (by decide)) (wI 1 1099511627776 (by decide)) (wI 1 1099511627776 (by decide)) (wI 0 1099511627776 (by decide)) wL wL rfl rfl rfl rfl rfl rfl rfl rfl rfl
  have e1 : nodeVal = (fun s => (((((((((rowV 40 s, iV (Rn1 s)), iV (Rn2 s)), iV (Rn3 s)), iV (Rn4 s)), iV (Rn5 s)), iV (Rn6 s)), iV (Rn7 s)), lV (Rn8 s)), lV (Rn9 s))) := by funext s; simp only [nodeVal]
  rw [e1]
  have e2 : nodeW = (fun x => seqW (seqW (seqW (seqW (seqW (seqW (seqW (seqW (seqW (textW 40 x.1.1.1.1.1.1.1.1.1) (numW 0 15 x.1.1.1.1.1.1.1.1.2)) (numW 1 100 x.1.1.1.1.1.1.1.2)) (numW 1 1099511627776 x.1.1.1.1.1.1.2)) (numW 0 1099511627776 x.1.1.1.1.1.2)) (numW 1 1099511627776 x.1.1.1.1.2)) (numW 1 1099511627776 x.1.1.1.2)) (numW 0 1099511627776 x.1.1.2)) (listW 64 (zW 0 63 x.1.2))) (listW 64 (zW 0 63 x.2))) := by funext x; simp only [nodeW]
  rw [e2]
  exact h
theorem nv_9 (s : K.RS) : (nodeVal s).1.2 = lV (Rn8 s) := by simp only [nodeVal]
theorem nv_10 (s : K.RS) : (nodeVal s).2 = lV (Rn9 s) := by simp only [nodeVal]
/-- a list of numbers by value, in memory -/
def zRow (w : World) (a : Option Addr) (n c : Nat) (z : List Int) : Prop := n = z.length ∧ w.ownsRow 0 3 1 (.slice a n c) n (z.map (Value.int .i64))
theorem vL_row {s : K.RS} {w : World} {a : Option Addr} {n c : Nat} (h : vL s w (.slice a n c)) : zRow w a n c (lV s) := by
  unfold vL listV at h
  unfold lV listVal
  cases hc : cnt 64 (rest s) with
  | error e => rw [hc] at h; exact h.elim
  | ok r =>
    obtain ⟨k, z⟩ := r
    rw [hc] at h
    obtain ⟨vs, hl, ho, hv⟩ := h
    have hk : n = k := by
      obtain ⟨a', c', e⟩ := ownsRow_shape ho
      injection e
    subst hk
    have e : vs = (valsOf (numR 0 63) iV n (s.go z)).map (Value.int .i64) := by
      apply List.ext_getElem?
      intro i
      unfold valsOf
      rw [List.map_map, List.getElem?_map]
      by_cases hi : i < n
      · rw [List.getElem?_range hi]
        cases hx : vs[i]? with
        | none => have := List.getElem?_eq_none_iff.1 hx; omega
        | some x => rw [hv i x hx]; rfl
      · rw [List.getElem?_eq_none (by omega), List.getElem?_eq_none (by simp; omega)]
        rfl
    refine ⟨by simp [valsOf], ?_⟩
    rw [← e]
    exact ho
/-- a node in memory, of this value -/
def NdV (d : Nv) (w : World) (v : Value) : Prop := ∃ a1 n1 c1 a2 n2 c2, v = .agg #[.string (str d.1.1.1.1.1.1.1.1.1), .int .i64 d.1.1.1.1.1.1.1.1.2, .int .i64 d.1.1.1.1.1.1.1.2, .int .i64 d.1.1.1.1.1.1.2, .int .i64 d.1.1.1.1.1.2, .int .i64 d.1.1.1.1.2, .int .i64 d.1.1.1.2, .int .i64 d.1.1.2, .slice a1 n1 c1, .slice a2 n2 c2] ∧ zRow w a1 n1 c1 d.1.2 ∧ zRow w a2 n2 c2 d.2
def nodeV (s : K.RS) (w : World) (v : Value) : Prop := NdV (nodeVal s) w v
set_option maxRecDepth 10000 in
set_option maxHeartbeats 4000000 in
theorem takeNode (wf w0 : World) (b1 b2 b3 b4 b5 b6 : Nat) (hF : NF bf.2 wf b1 b2 b3 b4 b5 b6) (q : Nat) (s : K.RS) (ha : Agree (Lo bf wf) wf w0) (hq : ¬ Lo bf wf q) (h : Rr w0 q s) (hz : s.fault = 0) :
    TakesF w0 q 125 (capN b1 b2 b3 b4 b5 b6) (nodeR s) (nodeV s) ShNd := by
  obtain ⟨m1, l2, m2, l3, m3, l4, m4, l5, m5, m6, o6, l6, k6, f1, f2, f3, f4, f5, f6⟩ := hF.ex
  have T0 := hide (takesText (Lo bf wf) wf m1 40 f1.cel (clM f1.cel f1.hm))
  have T1 := hide (takesNum (Lo bf wf) wf l2 m2 0 15 f2.ce0 f2.cel (clM f2.ce0 f2.hl) (clM f2.cel f2.hm))
  have T2 := hide (takesNum (Lo bf wf) wf l3 m3 1 100 f3.ce0 f3.cel (clM f3.ce0 f3.hl) (clM f3.cel f3.hm))
  have T3 := hide (takesNum (Lo bf wf) wf l4 m4 1 1099511627776 f4.ce0 f4.cel (clM f4.ce0 f4.hl) (clM f4.cel f4.hm))
  have T4 := hide (takesNum (Lo bf wf) wf l5 m5 0 1099511627776 f5.ce0 f5.cel (clM f5.ce0 f5.hl) (clM f5.cel f5.hm))
  have T8 := hide (takes_L f6)
  have HC : Hid (∀ W, Agree (Lo bf wf) wf W → ((W.cell? ⟨b1, 0, none⟩ = some ((fS m1)[0]!) ∧ W.cell? ⟨b1, 1, none⟩ = some ((fS m1)[1]!)) ∧ (W.cell? ⟨b2, 0, none⟩ = some ((fI l2 m2)[0]!) ∧ W.cell? ⟨b2, 1, none⟩ = some ((fI l2 m2)[1]!)) ∧ (W.cell? ⟨b3, 0, none⟩ = some ((fI l3 m3)[0]!) ∧ W.cell? ⟨b3, 1, none⟩ = some ((fI l3 m3)[1]!)) ∧ (W.cell? ⟨b4, 0, none⟩ = some ((fI l4 m4)[0]!) ∧ W.cell? ⟨b4, 1, none⟩ = some ((fI l4 m4)[1]!)) ∧ (W.cell? ⟨b5, 0, none⟩ = some ((fI l5 m5)[0]!) ∧ W.cell? ⟨b5, 1, none⟩ = some ((fI l5 m5)[1]!)) ∧ (W.cell? ⟨b6, 0, none⟩ = some ((fL m6 o6)[0]!) ∧ W.cell? ⟨b6, 1, none⟩ = some ((fL m6 o6)[1]!)))) := fun W ha => ⟨lo_cells ha f1.blk f1.hb, lo_cells ha f2.blk f2.hb, lo_cells ha f3.blk f3.hb, lo_cells ha f4.blk f4.hb, lo_cells ha f5.blk f5.hb, lo_cells ha f6.blk f6.hb⟩
  have HAG : Hid (∀ W, Keep (fun k => k = q) w0 W → Agree (Lo bf wf) wf W) := fun W k => ha.keep k fun j hj e => hq (e ▸ hj)
  have HQ := hide hq
  have HQ0 := hide h.lt
  have hba := ((Below.refl w0.heap.size w0).alloc (Nat.le_refl _) (.cells #[.string ⟨#[]⟩, .int .i64 0, .int .i64 0, .int .i64 0, .int .i64 0, .int .i64 0, .int .i64 0, .int .i64 0, .slice none 0 0, .slice none 0 0] 57)).alloc (by simp) (.cells #[.string ⟨#[]⟩, .int .i64 0, .int .i64 0, .int .i64 0, .int .i64 0, .int .i64 0, .int .i64 0, .int .i64 0, .slice none 0 0, .slice none 0 0] 57)
  obtain ⟨hbe, hbx⟩ := blk2 w0 (.cells #[.string ⟨#[]⟩, .int .i64 0, .int .i64 0, .int .i64 0, .int .i64 0, .int .i64 0, .int .i64 0, .int .i64 0, .slice none 0 0, .slice none 0 0] 57) (.cells #[.string ⟨#[]⟩, .int .i64 0, .int .i64 0, .int .i64 0, .int .i64 0, .int .i64 0, .int .i64 0, .int .i64 0, .slice none 0 0, .slice none 0 0] 57)
  have HE0 := hide hbe
  have HX0 := hide hbx
  have HR0 := hide (h.below hba)
  have HK0 := hide (Keep.ofBelow (S := fun k => k = q) hba (Nat.le_refl _))
  have HZ := hide hz
  have HIZ : Hid ((Tryz.prog.info? 57).map (·.size) = some (#[.string ⟨#[]⟩, .int .i64 0, .int .i64 0, .int .i64 0, .int .i64 0, .int .i64 0, .int .i64 0, .int .i64 0, .slice none 0 0, .slice none 0 0] : Array Value).size) := sizeNd
  clear ha hq h hba hbe hbx f1 f2 f3 f4 f5 f6 hF hz
  unfold TakesF
  show Calls Tryz.prog 125 #[.pointer (some ⟨q, 0, none⟩), .pointer (some ⟨b1, 0, none⟩), .pointer (some ⟨b2, 0, none⟩), .pointer (some ⟨b3, 0, none⟩), .pointer (some ⟨b4, 0, none⟩), .pointer (some ⟨b5, 0, none⟩), .pointer (some ⟨b6, 0, none⟩)] w0 _
  go_enter Tryz.func125, Tryz.ntmps125
  go_upto_region 2 with fail
  change Code.wp _ _ _ _ ((w0.alloc (.cells #[.string ⟨#[]⟩, .int .i64 0, .int .i64 0, .int .i64 0, .int .i64 0, .int .i64 0, .int .i64 0, .int .i64 0, .slice none 0 0, .slice none 0 0] 57)).alloc (.cells #[.string ⟨#[]⟩, .int .i64 0, .int .i64 0, .int .i64 0, .int .i64 0, .int .i64 0, .int .i64 0, .int .i64 0, .slice none 0 0, .slice none 0 0] 57))
  generalize (w0.alloc (.cells #[.string ⟨#[]⟩, .int .i64 0, .int .i64 0, .int .i64 0, .int .i64 0, .int .i64 0, .int .i64 0, .int .i64 0, .slice none 0 0, .slice none 0 0] 57)).alloc (.cells #[.string ⟨#[]⟩, .int .i64 0, .int .i64 0, .int .i64 0, .int .i64 0, .int .i64 0, .int .i64 0, .int .i64 0, .slice none 0 0, .slice none 0 0] 57) = W0 at *
  generalize hbz : w0.heap.size = bz at *
  have HBZ := hide hbz
  clear hbz
  obtain ⟨s0, hs0⟩ : ∃ x, s = x := ⟨_, rfl⟩
  have HS0 := hide hs0
  rw [hs0] at HR0
  clear hs0
  have hc := (HC.out W0 (HAG.out _ HK0.out)).1
  have c0 : W0.cell? ⟨b1, 0, none⟩ = some (.func (.func 155) #[] #[.pointer (some ⟨m1, 0, none⟩)]) := hc.1
  have c1 : W0.cell? ⟨b1, 1, none⟩ = some (.func (.func 157) #[] #[.pointer (some ⟨m1, 0, none⟩)]) := hc.2
  have C0 : Hid (Calls Tryz.prog 61 #[.agg #[.func (.func 155) #[] #[.pointer (some ⟨m1, 0, none⟩)], .func (.func 157) #[] #[.pointer (some ⟨m1, 0, none⟩)]], .pointer (some ⟨q, 0, none⟩)] W0 (Took q (takeR (rowR 40) s0) (vS 40 s0) (.string ⟨#[]⟩) W0)) := ftakeS (HAG.out _ HK0.out) HQ.out HR0.out T0.out ((stable_S (T := 57) 40 _).stable) ent_takeText
  clear hc
  go_upto_region 3 with (go_at_call 61; refine C0.out.mono ?_; rintro e V0 ⟨v, rfl, hr, hk, hv, hn⟩; obtain ⟨x0, rfl, hx⟩ := sh_S hv hn; have HXv := hide (hk.blk HX0.out (ne_rd HR0.out HX0.out)); have HEv := hide (hk.blk HE0.out (ne_rd HR0.out HE0.out)); have HRv := hide hr; have HKv := hide (HK0.out.more hk); have HF0 := hide hx; have d0 : V0.cell? ⟨bz + 1, 0, none⟩ = some (.string ⟨#[]⟩) := cell_blk HXv.out 0 rfl; have d1 := frozen_blk HXv.out 0; clear hr hk hv hn hx c0 c1 C0 HX0 HE0 HR0 HK0)
  have kx := keep_cell V0 (bz + 1) 0 (.string x0)
  have HX1 : Hid ((V0.setCell ⟨bz + 1, 0, none⟩ (.string x0)).heap[bz + 1]? = some (.cells #[.string x0, .int .i64 0, .int .i64 0, .int .i64 0, .int .i64 0, .int .i64 0, .int .i64 0, .int .i64 0, .slice none 0 0, .slice none 0 0] 57 (0, 0))) := (set_blk HXv.out 0 _).trans rfl
  have HE1 := hide (kx.blk HEv.out (by show ¬ _ = _; omega))
  have HR1 := hide (HRv.out.stay kx fun j hj e => by have := HQ0.out; have e : j = _ := e; omega)
  have HK1 := hide (HKv.out.trans kx fun j e => .inr (by have := HBZ.out; have e : j = _ := e; omega))
  clear kx HXv HEv HRv HKv d0 d1
  generalize V0.setCell ⟨bz + 1, 0, none⟩ (.string x0) = W1 at *
  obtain ⟨s1, hs⟩ : ∃ x, takeR (rowR 40) s0 = x := ⟨_, rfl⟩
  have HS1 := hide hs
  rw [hs] at HR1 HF0
  clear hs
  have hc := (HC.out W1 (HAG.out _ HK1.out)).2.1
  have c0 : W1.cell? ⟨b2, 0, none⟩ = some (.func (.func 78) #[] #[.pointer (some ⟨l2, 0, none⟩), .pointer (some ⟨m2, 0, none⟩)]) := hc.1
  have c1 : W1.cell? ⟨b2, 1, none⟩ = some (.func (.func 81) #[] #[.pointer (some ⟨l2, 0, none⟩), .pointer (some ⟨m2, 0, none⟩)]) := hc.2
  have C1 : Hid (Calls Tryz.prog 48 #[.agg #[.func (.func 78) #[] #[.pointer (some ⟨l2, 0, none⟩), .pointer (some ⟨m2, 0, none⟩)], .func (.func 81) #[] #[.pointer (some ⟨l2, 0, none⟩), .pointer (some ⟨m2, 0, none⟩)]], .pointer (some ⟨q, 0, none⟩)] W1 (Took q (takeR (numR 0 15) s1) (vI s1) (.int .i64 0) W1)) := ftakeI (HAG.out _ HK1.out) HQ.out HR1.out T1.out ((stable_I (T := 57) _).stable) ent_takeNum
  clear hc
  go_upto_region 4 with (go_at_call 48; refine C1.out.mono ?_; rintro e V1 ⟨v, rfl, hr, hk, hv, hn⟩; obtain ⟨x1, rfl, hx⟩ := sh_I hv hn; have HXv := hide (hk.blk HX1.out (ne_rd HR1.out HX1.out)); have HEv := hide (hk.blk HE1.out (ne_rd HR1.out HE1.out)); have HRv := hide hr; have HKv := hide (HK1.out.more hk); have HF1 := hide hx; have d0 : V1.cell? ⟨bz + 1, 1, none⟩ = some (.int .i64 0) := cell_blk HXv.out 1 rfl; have d1 := frozen_blk HXv.out 1; clear hr hk hv hn hx c0 c1 C1 HX1 HE1 HR1 HK1)
  have kx := keep_cell V1 (bz + 1) 1 (.int .i64 x1)
  have HX2 : Hid ((V1.setCell ⟨bz + 1, 1, none⟩ (.int .i64 x1)).heap[bz + 1]? = some (.cells #[.string x0, .int .i64 x1, .int .i64 0, .int .i64 0, .int .i64 0, .int .i64 0, .int .i64 0, .int .i64 0, .slice none 0 0, .slice none 0 0] 57 (0, 0))) := (set_blk HXv.out 1 _).trans rfl
  have HE2 := hide (kx.blk HEv.out (by show ¬ _ = _; omega))
  have HR2 := hide (HRv.out.stay kx fun j hj e => by have := HQ0.out; have e : j = _ := e; omega)
  have HK2 := hide (HKv.out.trans kx fun j e => .inr (by have := HBZ.out; have e : j = _ := e; omega))
  clear kx HXv HEv HRv HKv d0 d1
  generalize V1.setCell ⟨bz + 1, 1, none⟩ (.int .i64 x1) = W2 at *
  obtain ⟨s2, hs⟩ : ∃ x, takeR (numR 0 15) s1 = x := ⟨_, rfl⟩
  have HS2 := hide hs
  rw [hs] at HR2 HF1
  clear hs
  have hc := (HC.out W2 (HAG.out _ HK2.out)).2.2.1
  have c0 : W2.cell? ⟨b3, 0, none⟩ = some (.func (.func 78) #[] #[.pointer (some ⟨l3, 0, none⟩), .pointer (some ⟨m3, 0, none⟩)]) := hc.1
  have c1 : W2.cell? ⟨b3, 1, none⟩ = some (.func (.func 81) #[] #[.pointer (some ⟨l3, 0, none⟩), .pointer (some ⟨m3, 0, none⟩)]) := hc.2
  have C2 : Hid (Calls Tryz.prog 48 #[.agg #[.func (.func 78) #[] #[.pointer (some ⟨l3, 0, none⟩), .pointer (some ⟨m3, 0, none⟩)], .func (.func 81) #[] #[.pointer (some ⟨l3, 0, none⟩), .pointer (some ⟨m3, 0, none⟩)]], .pointer (some ⟨q, 0, none⟩)] W2 (Took q (takeR (numR 1 100) s2) (vI s2) (.int .i64 0) W2)) := ftakeI (HAG.out _ HK2.out) HQ.out HR2.out T2.out ((stable_I (T := 57) _).stable) ent_takeNum
  clear hc
  go_upto_region 5 with (go_at_call 48; refine C2.out.mono ?_; rintro e V2 ⟨v, rfl, hr, hk, hv, hn⟩; obtain ⟨x2, rfl, hx⟩ := sh_I hv hn; have HXv := hide (hk.blk HX2.out (ne_rd HR2.out HX2.out)); have HEv := hide (hk.blk HE2.out (ne_rd HR2.out HE2.out)); have HRv := hide hr; have HKv := hide (HK2.out.more hk); have HF2 := hide hx; have d0 : V2.cell? ⟨bz + 1, 2, none⟩ = some (.int .i64 0) := cell_blk HXv.out 2 rfl; have d1 := frozen_blk HXv.out 2; clear hr hk hv hn hx c0 c1 C2 HX2 HE2 HR2 HK2)
  have kx := keep_cell V2 (bz + 1) 2 (.int .i64 x2)
  have HX3 : Hid ((V2.setCell ⟨bz + 1, 2, none⟩ (.int .i64 x2)).heap[bz + 1]? = some (.cells #[.string x0, .int .i64 x1, .int .i64 x2, .int .i64 0, .int .i64 0, .int .i64 0, .int .i64 0, .int .i64 0, .slice none 0 0, .slice none 0 0] 57 (0, 0))) := (set_blk HXv.out 2 _).trans rfl
  have HE3 := hide (kx.blk HEv.out (by show ¬ _ = _; omega))
  have HR3 := hide (HRv.out.stay kx fun j hj e => by have := HQ0.out; have e : j = _ := e; omega)
  have HK3 := hide (HKv.out.trans kx fun j e => .inr (by have := HBZ.out; have e : j = _ := e; omega))
  clear kx HXv HEv HRv HKv d0 d1
  generalize V2.setCell ⟨bz + 1, 2, none⟩ (.int .i64 x2) = W3 at *
  obtain ⟨s3, hs⟩ : ∃ x, takeR (numR 1 100) s2 = x := ⟨_, rfl⟩
  have HS3 := hide hs
  rw [hs] at HR3 HF2
  clear hs
  have hc := (HC.out W3 (HAG.out _ HK3.out)).2.2.2.1
  have c0 : W3.cell? ⟨b4, 0, none⟩ = some (.func (.func 78) #[] #[.pointer (some ⟨l4, 0, none⟩), .pointer (some ⟨m4, 0, none⟩)]) := hc.1
  have c1 : W3.cell? ⟨b4, 1, none⟩ = some (.func (.func 81) #[] #[.pointer (some ⟨l4, 0, none⟩), .pointer (some ⟨m4, 0, none⟩)]) := hc.2
  have C3 : Hid (Calls Tryz.prog 48 #[.agg #[.func (.func 78) #[] #[.pointer (some ⟨l4, 0, none⟩), .pointer (some ⟨m4, 0, none⟩)], .func (.func 81) #[] #[.pointer (some ⟨l4, 0, none⟩), .pointer (some ⟨m4, 0, none⟩)]], .pointer (some ⟨q, 0, none⟩)] W3 (Took q (takeR (numR 1 1099511627776) s3) (vI s3) (.int .i64 0) W3)) := ftakeI (HAG.out _ HK3.out) HQ.out HR3.out T3.out ((stable_I (T := 57) _).stable) ent_takeNum
  clear hc
  go_upto_region 6 with (go_at_call 48; refine C3.out.mono ?_; rintro e V3 ⟨v, rfl, hr, hk, hv, hn⟩; obtain ⟨x3, rfl, hx⟩ := sh_I hv hn; have HXv := hide (hk.blk HX3.out (ne_rd HR3.out HX3.out)); have HEv := hide (hk.blk HE3.out (ne_rd HR3.out HE3.out)); have HRv := hide hr; have HKv := hide (HK3.out.more hk); have HF3 := hide hx; have d0 : V3.cell? ⟨bz + 1, 3, none⟩ = some (.int .i64 0) := cell_blk HXv.out 3 rfl; have d1 := frozen_blk HXv.out 3; clear hr hk hv hn hx c0 c1 C3 HX3 HE3 HR3 HK3)
  have kx := keep_cell V3 (bz + 1) 3 (.int .i64 x3)
  have HX4 : Hid ((V3.setCell ⟨bz + 1, 3, none⟩ (.int .i64 x3)).heap[bz + 1]? = some (.cells #[.string x0, .int .i64 x1, .int .i64 x2, .int .i64 x3, .int .i64 0, .int .i64 0, .int .i64 0, .int .i64 0, .slice none 0 0, .slice none 0 0] 57 (0, 0))) := (set_blk HXv.out 3 _).trans rfl
  have HE4 := hide (kx.blk HEv.out (by show ¬ _ = _; omega))
  have HR4 := hide (HRv.out.stay kx fun j hj e => by have := HQ0.out; have e : j = _ := e; omega)
  have HK4 := hide (HKv.out.trans kx fun j e => .inr (by have := HBZ.out; have e : j = _ := e; omega))
  clear kx HXv HEv HRv HKv d0 d1
  generalize V3.setCell ⟨bz + 1, 3, none⟩ (.int .i64 x3) = W4 at *
  obtain ⟨s4, hs⟩ : ∃ x, takeR (numR 1 1099511627776) s3 = x := ⟨_, rfl⟩
  have HS4 := hide hs
  rw [hs] at HR4 HF3
  clear hs
  have hc := (HC.out W4 (HAG.out _ HK4.out)).2.2.2.2.1
  have c0 : W4.cell? ⟨b5, 0, none⟩ = some (.func (.func 78) #[] #[.pointer (some ⟨l5, 0, none⟩), .pointer (some ⟨m5, 0, none⟩)]) := hc.1
  have c1 : W4.cell? ⟨b5, 1, none⟩ = some (.func (.func 81) #[] #[.pointer (some ⟨l5, 0, none⟩), .pointer (some ⟨m5, 0, none⟩)]) := hc.2
  have C4 : Hid (Calls Tryz.prog 48 #[.agg #[.func (.func 78) #[] #[.pointer (some ⟨l5, 0, none⟩), .pointer (some ⟨m5, 0, none⟩)], .func (.func 81) #[] #[.pointer (some ⟨l5, 0, none⟩), .pointer (some ⟨m5, 0, none⟩)]], .pointer (some ⟨q, 0, none⟩)] W4 (Took q (takeR (numR 0 1099511627776) s4) (vI s4) (.int .i64 0) W4)) := ftakeI (HAG.out _ HK4.out) HQ.out HR4.out T4.out ((stable_I (T := 57) _).stable) ent_takeNum
  clear hc
  go_upto_region 7 with (go_at_call 48; refine C4.out.mono ?_; rintro e V4 ⟨v, rfl, hr, hk, hv, hn⟩; obtain ⟨x4, rfl, hx⟩ := sh_I hv hn; have HXv := hide (hk.blk HX4.out (ne_rd HR4.out HX4.out)); have HEv := hide (hk.blk HE4.out (ne_rd HR4.out HE4.out)); have HRv := hide hr; have HKv := hide (HK4.out.more hk); have HF4 := hide hx; have d0 : V4.cell? ⟨bz + 1, 4, none⟩ = some (.int .i64 0) := cell_blk HXv.out 4 rfl; have d1 := frozen_blk HXv.out 4; clear hr hk hv hn hx c0 c1 C4 HX4 HE4 HR4 HK4)
  have kx := keep_cell V4 (bz + 1) 4 (.int .i64 x4)
  have HX5 : Hid ((V4.setCell ⟨bz + 1, 4, none⟩ (.int .i64 x4)).heap[bz + 1]? = some (.cells #[.string x0, .int .i64 x1, .int .i64 x2, .int .i64 x3, .int .i64 x4, .int .i64 0, .int .i64 0, .int .i64 0, .slice none 0 0, .slice none 0 0] 57 (0, 0))) := (set_blk HXv.out 4 _).trans rfl
  have HE5 := hide (kx.blk HEv.out (by show ¬ _ = _; omega))
  have HR5 := hide (HRv.out.stay kx fun j hj e => by have := HQ0.out; have e : j = _ := e; omega)
  have HK5 := hide (HKv.out.trans kx fun j e => .inr (by have := HBZ.out; have e : j = _ := e; omega))
  clear kx HXv HEv HRv HKv d0 d1
  generalize V4.setCell ⟨bz + 1, 4, none⟩ (.int .i64 x4) = W5 at *
  obtain ⟨s5, hs⟩ : ∃ x, takeR (numR 0 1099511627776) s4 = x := ⟨_, rfl⟩
  have HS5 := hide hs
  rw [hs] at HR5 HF4
  clear hs
  have hc := (HC.out W5 (HAG.out _ HK5.out)).2.2.2.1
  have c0 : W5.cell? ⟨b4, 0, none⟩ = some (.func (.func 78) #[] #[.pointer (some ⟨l4, 0, none⟩), .pointer (some ⟨m4, 0, none⟩)]) := hc.1
  have c1 : W5.cell? ⟨b4, 1, none⟩ = some (.func (.func 81) #[] #[.pointer (some ⟨l4, 0, none⟩), .pointer (some ⟨m4, 0, none⟩)]) := hc.2
  have C5 : Hid (Calls Tryz.prog 48 #[.agg #[.func (.func 78) #[] #[.pointer (some ⟨l4, 0, none⟩), .pointer (some ⟨m4, 0, none⟩)], .func (.func 81) #[] #[.pointer (some ⟨l4, 0, none⟩), .pointer (some ⟨m4, 0, none⟩)]], .pointer (some ⟨q, 0, none⟩)] W5 (Took q (takeR (numR 1 1099511627776) s5) (vI s5) (.int .i64 0) W5)) := ftakeI (HAG.out _ HK5.out) HQ.out HR5.out T3.out ((stable_I (T := 57) _).stable) ent_takeNum
  clear hc
  go_upto_region 8 with (go_at_call 48; refine C5.out.mono ?_; rintro e V5 ⟨v, rfl, hr, hk, hv, hn⟩; obtain ⟨x5, rfl, hx⟩ := sh_I hv hn; have HXv := hide (hk.blk HX5.out (ne_rd HR5.out HX5.out)); have HEv := hide (hk.blk HE5.out (ne_rd HR5.out HE5.out)); have HRv := hide hr; have HKv := hide (HK5.out.more hk); have HF5 := hide hx; have d0 : V5.cell? ⟨bz + 1, 5, none⟩ = some (.int .i64 0) := cell_blk HXv.out 5 rfl; have d1 := frozen_blk HXv.out 5; clear hr hk hv hn hx c0 c1 C5 HX5 HE5 HR5 HK5)
  have kx := keep_cell V5 (bz + 1) 5 (.int .i64 x5)
  have HX6 : Hid ((V5.setCell ⟨bz + 1, 5, none⟩ (.int .i64 x5)).heap[bz + 1]? = some (.cells #[.string x0, .int .i64 x1, .int .i64 x2, .int .i64 x3, .int .i64 x4, .int .i64 x5, .int .i64 0, .int .i64 0, .slice none 0 0, .slice none 0 0] 57 (0, 0))) := (set_blk HXv.out 5 _).trans rfl
  have HE6 := hide (kx.blk HEv.out (by show ¬ _ = _; omega))
  have HR6 := hide (HRv.out.stay kx fun j hj e => by have := HQ0.out; have e : j = _ := e; omega)
  have HK6 := hide (HKv.out.trans kx fun j e => .inr (by have := HBZ.out; have e : j = _ := e; omega))
  clear kx HXv HEv HRv HKv d0 d1
  generalize V5.setCell ⟨bz + 1, 5, none⟩ (.int .i64 x5) = W6 at *
  obtain ⟨s6, hs⟩ : ∃ x, takeR (numR 1 1099511627776) s5 = x := ⟨_, rfl⟩
  have HS6 := hide hs
  rw [hs] at HR6 HF5
  clear hs
  have hc := (HC.out W6 (HAG.out _ HK6.out)).2.2.2.1
  have c0 : W6.cell? ⟨b4, 0, none⟩ = some (.func (.func 78) #[] #[.pointer (some ⟨l4, 0, none⟩), .pointer (some ⟨m4, 0, none⟩)]) := hc.1
  have c1 : W6.cell? ⟨b4, 1, none⟩ = some (.func (.func 81) #[] #[.pointer (some ⟨l4, 0, none⟩), .pointer (some ⟨m4, 0, none⟩)]) := hc.2
  have C6 : Hid (Calls Tryz.prog 48 #[.agg #[.func (.func 78) #[] #[.pointer (some ⟨l4, 0, none⟩), .pointer (some ⟨m4, 0, none⟩)], .func (.func 81) #[] #[.pointer (some ⟨l4, 0, none⟩), .pointer (some ⟨m4, 0, none⟩)]], .pointer (some ⟨q, 0, none⟩)] W6 (Took q (takeR (numR 1 1099511627776) s6) (vI s6) (.int .i64 0) W6)) := ftakeI (HAG.out _ HK6.out) HQ.out HR6.out T3.out ((stable_I (T := 57) _).stable) ent_takeNum
  clear hc
  go_upto_region 9 with (go_at_call 48; refine C6.out.mono ?_; rintro e V6 ⟨v, rfl, hr, hk, hv, hn⟩; obtain ⟨x6, rfl, hx⟩ := sh_I hv hn; have HXv := hide (hk.blk HX6.out (ne_rd HR6.out HX6.out)); have HEv := hide (hk.blk HE6.out (ne_rd HR6.out HE6.out)); have HRv := hide hr; have HKv := hide (HK6.out.more hk); have HF6 := hide hx; have d0 : V6.cell? ⟨bz + 1, 6, none⟩ = some (.int .i64 0) := cell_blk HXv.out 6 rfl; have d1 := frozen_blk HXv.out 6; clear hr hk hv hn hx c0 c1 C6 HX6 HE6 HR6 HK6)
  have kx := keep_cell V6 (bz + 1) 6 (.int .i64 x6)
  have HX7 : Hid ((V6.setCell ⟨bz + 1, 6, none⟩ (.int .i64 x6)).heap[bz + 1]? = some (.cells #[.string x0, .int .i64 x1, .int .i64 x2, .int .i64 x3, .int .i64 x4, .int .i64 x5, .int .i64 x6, .int .i64 0, .slice none 0 0, .slice none 0 0] 57 (0, 0))) := (set_blk HXv.out 6 _).trans rfl
  have HE7 := hide (kx.blk HEv.out (by show ¬ _ = _; omega))
  have HR7 := hide (HRv.out.stay kx fun j hj e => by have := HQ0.out; have e : j = _ := e; omega)
  have HK7 := hide (HKv.out.trans kx fun j e => .inr (by have := HBZ.out; have e : j = _ := e; omega))
  clear kx HXv HEv HRv HKv d0 d1
  generalize V6.setCell ⟨bz + 1, 6, none⟩ (.int .i64 x6) = W7 at *
  obtain ⟨s7, hs⟩ : ∃ x, takeR (numR 1 1099511627776) s6 = x := ⟨_, rfl⟩
  have HS7 := hide hs
  rw [hs] at HR7 HF6
  clear hs
  have hc := (HC.out W7 (HAG.out _ HK7.out)).2.2.2.2.1
  have c0 : W7.cell? ⟨b5, 0, none⟩ = some (.func (.func 78) #[] #[.pointer (some ⟨l5, 0, none⟩), .pointer (some ⟨m5, 0, none⟩)]) := hc.1
  have c1 : W7.cell? ⟨b5, 1, none⟩ = some (.func (.func 81) #[] #[.pointer (some ⟨l5, 0, none⟩), .pointer (some ⟨m5, 0, none⟩)]) := hc.2
  have C7 : Hid (Calls Tryz.prog 48 #[.agg #[.func (.func 78) #[] #[.pointer (some ⟨l5, 0, none⟩), .pointer (some ⟨m5, 0, none⟩)], .func (.func 81) #[] #[.pointer (some ⟨l5, 0, none⟩), .pointer (some ⟨m5, 0, none⟩)]], .pointer (some ⟨q, 0, none⟩)] W7 (Took q (takeR (numR 0 1099511627776) s7) (vI s7) (.int .i64 0) W7)) := ftakeI (HAG.out _ HK7.out) HQ.out HR7.out T4.out ((stable_I (T := 57) _).stable) ent_takeNum
  clear hc
  go_upto_region 10 with (go_at_call 48; refine C7.out.mono ?_; rintro e V7 ⟨v, rfl, hr, hk, hv, hn⟩; obtain ⟨x7, rfl, hx⟩ := sh_I hv hn; have HXv := hide (hk.blk HX7.out (ne_rd HR7.out HX7.out)); have HEv := hide (hk.blk HE7.out (ne_rd HR7.out HE7.out)); have HRv := hide hr; have HKv := hide (HK7.out.more hk); have HF7 := hide hx; have d0 : V7.cell? ⟨bz + 1, 7, none⟩ = some (.int .i64 0) := cell_blk HXv.out 7 rfl; have d1 := frozen_blk HXv.out 7; clear hr hk hv hn hx c0 c1 C7 HX7 HE7 HR7 HK7)
  have kx := keep_cell V7 (bz + 1) 7 (.int .i64 x7)
  have HX8 : Hid ((V7.setCell ⟨bz + 1, 7, none⟩ (.int .i64 x7)).heap[bz + 1]? = some (.cells #[.string x0, .int .i64 x1, .int .i64 x2, .int .i64 x3, .int .i64 x4, .int .i64 x5, .int .i64 x6, .int .i64 x7, .slice none 0 0, .slice none 0 0] 57 (0, 0))) := (set_blk HXv.out 7 _).trans rfl
  have HE8 := hide (kx.blk HEv.out (by show ¬ _ = _; omega))
  have HR8 := hide (HRv.out.stay kx fun j hj e => by have := HQ0.out; have e : j = _ := e; omega)
  have HK8 := hide (HKv.out.trans kx fun j e => .inr (by have := HBZ.out; have e : j = _ := e; omega))
  clear kx HXv HEv HRv HKv d0 d1
  generalize V7.setCell ⟨bz + 1, 7, none⟩ (.int .i64 x7) = W8 at *
  obtain ⟨s8, hs⟩ : ∃ x, takeR (numR 0 1099511627776) s7 = x := ⟨_, rfl⟩
  have HS8 := hide hs
  rw [hs] at HR8 HF7
  clear hs
  have hc := (HC.out W8 (HAG.out _ HK8.out)).2.2.2.2.2
  have c0 : W8.cell? ⟨b6, 0, none⟩ = some (.func (.func 162) #[] #[.pointer (some ⟨m6, 0, none⟩), .pointer (some ⟨o6, 0, none⟩)]) := hc.1
  have c1 : W8.cell? ⟨b6, 1, none⟩ = some (.func (.func 164) #[] #[.pointer (some ⟨m6, 0, none⟩), .pointer (some ⟨o6, 0, none⟩)]) := hc.2
  have C8 : Hid (Calls Tryz.prog 126 #[.agg #[.func (.func 162) #[] #[.pointer (some ⟨m6, 0, none⟩), .pointer (some ⟨o6, 0, none⟩)], .func (.func 164) #[] #[.pointer (some ⟨m6, 0, none⟩), .pointer (some ⟨o6, 0, none⟩)]], .pointer (some ⟨q, 0, none⟩)] W8 (Took q (takeR (listR 64 (numR 0 63)) s8) (vL s8) (.slice none 0 0) W8)) := ftakeLi (HAG.out _ HK8.out) HQ.out HR8.out T8.out ((stable_L (T := 57) (by decide) _).stable) ent_takeListI
  clear hc
  go_upto_region 11 with (go_at_call 126; refine C8.out.mono ?_; rintro e V8 ⟨v, rfl, hr, hk, hv, hn⟩; obtain ⟨x8, n8, c8, rfl, hx⟩ := sh_L hv hn; have HXv := hide (hk.blk HX8.out (ne_rd HR8.out HX8.out)); have HEv := hide (hk.blk HE8.out (ne_rd HR8.out HE8.out)); have HRv := hide hr; have HKv := hide (HK8.out.more hk); have HF8 := hide hx; have d0 : V8.cell? ⟨bz + 1, 8, none⟩ = some (.slice none 0 0) := cell_blk HXv.out 8 rfl; have d1 := frozen_blk HXv.out 8; clear hr hk hv hn hx c0 c1 C8 HX8 HE8 HR8 HK8)
  have kx := keep_cell V8 (bz + 1) 8 (.slice x8 n8 c8)
  have HX9 : Hid ((V8.setCell ⟨bz + 1, 8, none⟩ (.slice x8 n8 c8)).heap[bz + 1]? = some (.cells #[.string x0, .int .i64 x1, .int .i64 x2, .int .i64 x3, .int .i64 x4, .int .i64 x5, .int .i64 x6, .int .i64 x7, .slice x8 n8 c8, .slice none 0 0] 57 (0, 0))) := (set_blk HXv.out 8 _).trans rfl
  have HE9 := hide (kx.blk HEv.out (by show ¬ _ = _; omega))
  have HR9 := hide (HRv.out.stay kx fun j hj e => by have := HQ0.out; have e : j = _ := e; omega)
  have HK9 := hide (HKv.out.trans kx fun j e => .inr (by have := HBZ.out; have e : j = _ := e; omega))
  have HL8 : Hid ((takeR (listR 64 (numR 0 63)) s8).fault = 0 → vL s8 (V8.setCell ⟨bz + 1, 8, none⟩ (.slice x8 n8 c8)) (.slice x8 n8 c8)) := fun hz => stable_L (T := 57) (by decide) s8 _ _ _ _ (HF8.out hz) kx (fun j e => ⟨_, _, e ▸ HXv.out, .inr rfl⟩)
  clear kx HXv HEv HRv HKv d0 d1 HF8
  generalize V8.setCell ⟨bz + 1, 8, none⟩ (.slice x8 n8 c8) = W9 at *
  obtain ⟨s9, hs⟩ : ∃ x, takeR (listR 64 (numR 0 63)) s8 = x := ⟨_, rfl⟩
  have HS9 := hide hs
  rw [hs] at HR9 HL8
  clear hs
  have hc := (HC.out W9 (HAG.out _ HK9.out)).2.2.2.2.2
  have c0 : W9.cell? ⟨b6, 0, none⟩ = some (.func (.func 162) #[] #[.pointer (some ⟨m6, 0, none⟩), .pointer (some ⟨o6, 0, none⟩)]) := hc.1
  have c1 : W9.cell? ⟨b6, 1, none⟩ = some (.func (.func 164) #[] #[.pointer (some ⟨m6, 0, none⟩), .pointer (some ⟨o6, 0, none⟩)]) := hc.2
  have C9 : Hid (Calls Tryz.prog 126 #[.agg #[.func (.func 162) #[] #[.pointer (some ⟨m6, 0, none⟩), .pointer (some ⟨o6, 0, none⟩)], .func (.func 164) #[] #[.pointer (some ⟨m6, 0, none⟩), .pointer (some ⟨o6, 0, none⟩)]], .pointer (some ⟨q, 0, none⟩)] W9 (Took q (takeR (listR 64 (numR 0 63)) s9) (vL s9) (.slice none 0 0) W9)) := ftakeLi (HAG.out _ HK9.out) HQ.out HR9.out T8.out ((stable_L (T := 57) (by decide) _).stable) ent_takeListI
  clear hc
  go_upto_region 12 with (go_at_call 126; refine C9.out.mono ?_; rintro e V9 ⟨v, rfl, hr, hk, hv, hn⟩; obtain ⟨x9, n9, c9, rfl, hx⟩ := sh_L hv hn; have HXv := hide (hk.blk HX9.out (ne_rd HR9.out HX9.out)); have HEv := hide (hk.blk HE9.out (ne_rd HR9.out HE9.out)); have HRv := hide hr; have HKv := hide (HK9.out.more hk); have HL8a : Hid (s9.fault = 0 → vL s8 V9 (.slice x8 n8 c8)) := fun hz => stable_L (T := 57) (by decide) s8 _ _ _ _ (HL8.out hz) hk (rd_typ HR9.out); have HF9 := hide hx; have d0 : V9.cell? ⟨bz + 1, 9, none⟩ = some (.slice none 0 0) := cell_blk HXv.out 9 rfl; have d1 := frozen_blk HXv.out 9; clear hr hk hv hn hx c0 c1 C9 HX9 HE9 HR9 HK9 HL8)
  have kx := keep_cell V9 (bz + 1) 9 (.slice x9 n9 c9)
  have HX10 : Hid ((V9.setCell ⟨bz + 1, 9, none⟩ (.slice x9 n9 c9)).heap[bz + 1]? = some (.cells #[.string x0, .int .i64 x1, .int .i64 x2, .int .i64 x3, .int .i64 x4, .int .i64 x5, .int .i64 x6, .int .i64 x7, .slice x8 n8 c8, .slice x9 n9 c9] 57 (0, 0))) := (set_blk HXv.out 9 _).trans rfl
  have HE10 := hide (kx.blk HEv.out (by show ¬ _ = _; omega))
  have HR10 := hide (HRv.out.stay kx fun j hj e => by have := HQ0.out; have e : j = _ := e; omega)
  have HK10 := hide (HKv.out.trans kx fun j e => .inr (by have := HBZ.out; have e : j = _ := e; omega))
  have HL9 : Hid ((takeR (listR 64 (numR 0 63)) s9).fault = 0 → vL s9 (V9.setCell ⟨bz + 1, 9, none⟩ (.slice x9 n9 c9)) (.slice x9 n9 c9)) := fun hz => stable_L (T := 57) (by decide) s9 _ _ _ _ (HF9.out hz) kx (fun j e => ⟨_, _, e ▸ HXv.out, .inr rfl⟩)
  have HL8b : Hid (s9.fault = 0 → vL s8 (V9.setCell ⟨bz + 1, 9, none⟩ (.slice x9 n9 c9)) (.slice x8 n8 c8)) := fun hz => stable_L (T := 57) (by decide) s8 _ _ _ _ (HL8a.out hz) kx (fun j e => ⟨_, _, e ▸ HXv.out, .inr rfl⟩)
  clear kx HXv HEv HRv HKv d0 d1 HF9 HL8a
  generalize V9.setCell ⟨bz + 1, 9, none⟩ (.slice x9 n9 c9) = W10 at *
  obtain ⟨s10, hs⟩ : ∃ x, takeR (listR 64 (numR 0 63)) s9 = x := ⟨_, rfl⟩
  have HS10 := hide hs
  rw [hs] at HR10 HL9
  clear hs
  have HI : Hid ((Tryz.prog.info? 57).map (·.size) = some (#[.string x0, .int .i64 x1, .int .i64 x2, .int .i64 x3, .int .i64 x4, .int .i64 x5, .int .i64 x6, .int .i64 x7, .slice x8 n8 c8, .slice x9 n9 c9] : Array Value).size) := sizeNd
  have HO1 := hide (onesNd x0 x1 x2 x3 x4 x5 x6 x7 x8 n8 c8 x9 n9 c9)
  go_wp2_with (first
    | (refine wpList_load_row rfl 57 _ rfl (bz + 1) rfl 57 #[.string x0, .int .i64 x1, .int .i64 x2, .int .i64 x3, .int .i64 x4, .int .i64 x5, .int .i64 x6, .int .i64 x7, .slice x8 n8 c8, .slice x9 n9 c9] (0, 0) _ HX10.out Tryz.underlying57 rfl HI.out ?_)
    | (refine wpList_store_row rfl 57 _ _ rfl bz #[.string x0, .int .i64 x1, .int .i64 x2, .int .i64 x3, .int .i64 x4, .int .i64 x5, .int .i64 x6, .int .i64 x7, .slice x8 n8 c8, .slice x9 n9 c9] rfl rfl 57 _ HE10.out HI.out rfl HO1.out ?_))
  have HX := hide (setRow_heap _ bz _ #[.string x0, .int .i64 x1, .int .i64 x2, .int .i64 x3, .int .i64 x4, .int .i64 x5, .int .i64 x6, .int .i64 x7, .slice x8 n8 c8, .slice x9 n9 c9] _ _ HE10.out)
  have HK := hide (keep_row W10 bz #[.string x0, .int .i64 x1, .int .i64 x2, .int .i64 x3, .int .i64 x4, .int .i64 x5, .int .i64 x6, .int .i64 x7, .slice x8 n8 c8, .slice x9 n9 c9])
  have hN : nodeR s = s10 := by
    have e1 : Rn1 s = s1 := by rw [← HS1.out, ← HS0.out]; unfold takeR; rw [if_pos HZ.out]; rfl
    have e2 : Rn2 s = s2 := by rw [← HS2.out, ← e1]; rfl
    have e3 : Rn3 s = s3 := by rw [← HS3.out, ← e2]; rfl
    have e4 : Rn4 s = s4 := by rw [← HS4.out, ← e3]; rfl
    have e5 : Rn5 s = s5 := by rw [← HS5.out, ← e4]; rfl
    have e6 : Rn6 s = s6 := by rw [← HS6.out, ← e5]; rfl
    have e7 : Rn7 s = s7 := by rw [← HS7.out, ← e6]; rfl
    have e8 : Rn8 s = s8 := by rw [← HS8.out, ← e7]; rfl
    have e9 : Rn9 s = s9 := by rw [← HS9.out, ← e8]; rfl
    rw [← HS10.out, ← e9]; rfl
  rw [hN]
  refine bodyPost_ret (resNd rfl _ _ bz _ rfl rfl HX.out) rfl ⟨HK10.out.trans HK.out (fun i e => .inr (by have := HBZ.out; have e : i = _ := e; omega)), _, rfl, ⟨_, _, _, _, _, _, _, _, _, _, _, _, _, _, rfl⟩, HR10.out.stay HK.out (fun j hj e => by have := HQ0.out; have := HBZ.out; have e : j = _ := e; omega), fun hz => ?_⟩
  have z9 : s9.fault = 0 := tk_ok (by rw [HS10.out]; exact hz)
  have z8 : s8.fault = 0 := tk_ok (by rw [HS9.out]; exact z9)
  have z7 : s7.fault = 0 := tk_ok (by rw [HS8.out]; exact z8)
  have z6 : s6.fault = 0 := tk_ok (by rw [HS7.out]; exact z7)
  have z5 : s5.fault = 0 := tk_ok (by rw [HS6.out]; exact z6)
  have z4 : s4.fault = 0 := tk_ok (by rw [HS5.out]; exact z5)
  have z3 : s3.fault = 0 := tk_ok (by rw [HS4.out]; exact z4)
  have z2 : s2.fault = 0 := tk_ok (by rw [HS3.out]; exact z3)
  have z1 : s1.fault = 0 := tk_ok (by rw [HS2.out]; exact z2)
  have e1 : Rn1 s = s1 := by rw [← HS1.out, ← HS0.out]; unfold takeR; rw [if_pos HZ.out]; rfl
  have e2 : Rn2 s = s2 := by rw [← HS2.out, ← e1]; rfl
  have e3 : Rn3 s = s3 := by rw [← HS3.out, ← e2]; rfl
  have e4 : Rn4 s = s4 := by rw [← HS4.out, ← e3]; rfl
  have e5 : Rn5 s = s5 := by rw [← HS5.out, ← e4]; rfl
  have e6 : Rn6 s = s6 := by rw [← HS6.out, ← e5]; rfl
  have e7 : Rn7 s = s7 := by rw [← HS7.out, ← e6]; rfl
  have e8 : Rn8 s = s8 := by rw [← HS8.out, ← e7]; rfl
  have e9 : Rn9 s = s9 := by rw [← HS9.out, ← e8]; rfl
  have t8 := vL_row (stable_L (T := 57) (by decide) s8 _ _ _ _ (HL8b.out z9) HK.out (fun j e => ⟨_, _, e ▸ HE10.out, .inr rfl⟩))
  have t9 := vL_row (stable_L (T := 57) (by decide) s9 _ _ _ _ (HL9.out hz) HK.out (fun j e => ⟨_, _, e ▸ HE10.out, .inr rfl⟩))
  refine ⟨x8, n8, c8, x9, n9, c9, ?_, ?_, ?_⟩
  · show Value.agg _ = Value.agg #[.string (str (rowV 40 s)), .int .i64 (iV (Rn1 s)), .int .i64 (iV (Rn2 s)), .int .i64 (iV (Rn3 s)), .int .i64 (iV (Rn4 s)), .int .i64 (iV (Rn5 s)), .int .i64 (iV (Rn6 s)), .int .i64 (iV (Rn7 s)), .slice x8 n8 c8, .slice x9 n9 c9]
    rw [e1, e2, e3, e4, e5, e6, e7, HF0.out z1, HF1.out z2, HF2.out z3, HF3.out z4, HF4.out z5, HF5.out z6, HF6.out z7, HF7.out z8, HS0.out]
    rfl
  · rw [nv_9, e8]
    exact t8
  · rw [nv_10, e9]
    exact t9
theorem ent_takeNode (args : Array Value) (w : World) : (callFunc 125 args).run Tryz.prog w = .ok (.enter 125 args) w :=
  callFunc_enter Tryz.func125 (by kernel_rfl) (by kernel_rfl) args w
theorem takesNode (wf : World) (b1 b2 b3 b4 b5 b6 : Nat) (hF : NF bf.2 wf b1 b2 b3 b4 b5 b6) : TakesFG (Lo bf wf) wf 125 (capN b1 b2 b3 b4 b5 b6) nodeR nodeV ShNd :=
  fun q s w1 ha hq h hz => takeNode wf w1 b1 b2 b3 b4 b5 b6 hF q s ha hq h hz
end Cd
end Go.Proofs.YtbjcckfhfbjchaaGreat
