import Derived.Test.YtfoahfgehmghcaaGreatDoorUTx5
import Derived.Test.YtfoahfgehmghcaaGreatDoorUKno
import Derived.Test.YtfoahfgehmghcaaGreatDoorSRk
import Derived.Great.Walk
/- The document's Text: the mathematics. -/
namespace Go.Proofs.YtfoahfgehmghcaaGreatDoor
namespace U
namespace Tr
open Go.RowKit

theorem join_two (x y : List UInt8) (r : List (List UInt8)) : Lib.join (x :: y :: r) [32] = x ++ 32 :: Lib.join (y :: r) [32] := by
  simp [Lib.join, List.intercalate, List.intersperse]
theorem join_one (x : List UInt8) : Lib.join [x] [32] = x := by simp [Lib.join, List.intercalate]
/-- Words behind a first one, each with a blank ahead. -/
def rest (ns : List (List UInt8)) : List UInt8 := (ns.map fun n => 32 :: n).flatten
theorem join_rest : ∀ (w : List UInt8) (ns : List (List UInt8)), Lib.join (w :: ns) [32] = w ++ rest ns
  | w, [] => by simp [join_one, rest]
  | w, n :: ns => by rw [join_two, join_rest n ns]; simp [rest]
theorem rest_app (a b : List (List UInt8)) : rest (a ++ b) = rest a ++ rest b := by simp [rest]
theorem line_rest (w : List UInt8) (ns : List (List UInt8)) : lineT (w :: ns) = w ++ rest ns ++ [10] := by unfold lineT; rw [join_rest]
/-- The plan's line, as the document writes it. -/
def planS (nm : List UInt8) (dl : Int) : List UInt8 := [112, 108, 97, 110, 32] ++ nm ++ [32, 100, 101, 97, 100, 108, 105, 110, 101, 32] ++ Lib.itoa dl ++ [10]
theorem planS_eq (nm : List UInt8) (dl : Int) : planS nm dl = lineT (planW nm dl) := by
  unfold planS planW
  rw [line_rest]
  simp [rest, kwPlan, kwDead]
def nodeS (nm : List UInt8) (la bu cl : Int) : List UInt8 := [110, 111, 100, 101, 32] ++ nm ++ [32, 108, 97, 110, 101, 32] ++ Lib.itoa la ++ [32, 98, 117, 100, 103, 101, 116, 32] ++ Lib.itoa bu ++ [32, 99, 108, 111, 115, 101, 32] ++ Lib.itoa cl
def beatS (be : Int) : List UInt8 := if be = 0 then [] else [32, 98, 101, 97, 116, 32] ++ Lib.itoa be
def backS (bs ca : Int) : List UInt8 := if bs = 1 ∧ ca = 1 then [] else [32, 98, 97, 99, 107, 111, 102, 102, 32] ++ Lib.itoa bs ++ [32, 116, 111, 32] ++ Lib.itoa ca
def jitS (ji : Int) : List UInt8 := if ji = 0 then [] else [32, 106, 105, 116, 116, 101, 114, 32] ++ Lib.itoa ji
theorem nodeS_eq (x : Pn) : nodeS x.nm x.la x.bu x.cl ++ beatS x.be ++ backS x.bs x.ca ++ jitS x.ji ++ [10] = lineT (nodeW x) := by
  unfold nodeW wNode
  rw [List.cons_append, List.cons_append, List.cons_append, line_rest]
  have e1 : rest (wBeat x.be) = beatS x.be := by unfold wBeat beatS; split <;> simp [rest, kwBeat]
  have e2 : rest (wBack x.bs x.ca) = backS x.bs x.ca := by unfold wBack backS; split <;> simp [rest, kwBack, kwTo]
  have e3 : rest (wJit x.ji) = jitS x.ji := by unfold wJit jitS; split <;> simp [rest, kwJit]
  rw [rest_app, rest_app, rest_app, e1, e2, e3]
  simp [nodeS, rest, kwNode, kwLane, kwBudget, kwClose]
theorem edge_eq (first : List UInt8) (z : List Int) (xs : List Gr.No) (h : z ≠ []) : first ++ rest (z.map (nameAt xs)) ++ [10] = edgeT first z xs := by
  unfold edgeT edgeW
  rw [if_neg h, line_rest]
/-- The text of the first so many nodes. -/
def upto (nm : List UInt8) (dl : Int) (xs : List Gr.No) (i : Nat) : List UInt8 := lineT (planW nm dl) ++ ((xs.take i).map (nodeT xs)).flatten
theorem upto_all (nm : List UInt8) (dl : Int) (xs : List Gr.No) : upto nm dl xs xs.length = textOf nm dl xs := by
  unfold upto textOf
  rw [List.take_length]
theorem upto_step (nm : List UInt8) (dl : Int) (xs : List Gr.No) (i : Nat) (x : Gr.No) (hx : xs[i]? = some x) : upto nm dl xs (i + 1) = upto nm dl xs i ++ nodeT xs x := by
  have hlt : i < xs.length := (List.getElem?_eq_some_iff.1 hx).1
  have e : xs.take (i + 1) = xs.take i ++ [x] := by
    rw [List.take_add_one, hx]; rfl
  unfold upto
  rw [e]
  simp
theorem upto_len (nm : List UInt8) (dl : Int) (xs : List Gr.No) (i : Nat) : (upto nm dl xs i).length ≤ (textOf nm dl xs).length := by
  unfold upto textOf
  rw [List.length_append, List.length_append]
  generalize nodeT xs = F
  have : ((xs.take i).map F).flatten.length ≤ (xs.map F).flatten.length := by
    conv => rhs; rw [← List.take_append_drop i xs]
    rw [List.map_append, List.flatten_append, List.length_append]
    omega
  omega
theorem upto_zero (nm : List UInt8) (dl : Int) (xs : List Gr.No) : upto nm dl xs 0 = lineT (planW nm dl) := by simp [upto]
/-- a node as it lies in memory, without its lists' places -/
def pn (x : Gr.No) : Pn := ⟨x.q.nm.data.toList, x.q.la, x.q.bu, x.q.cl, x.q.be, x.q.ba, x.q.ca, x.q.ji, x.nl, x.al⟩
theorem no_pn (x : Gr.No) : no (pn x) = er x := by
  obtain ⟨⟨nm, la, bu, cl, be, bs, ca, ji, ne, af⟩, nl, al⟩ := x
  unfold no pn er
  simp [ba_of]
theorem map_pn (xs : List Gr.No) : (xs.map pn).map no = xs.map er := by
  rw [List.map_map]
  exact List.map_congr_left fun x _ => no_pn x
theorem text_short {nm : List UInt8} {dl : Int} {xs : List Gr.No} (h : (Gr.chk (ba nm) dl xs).2 = 0) : (textOf nm dl xs).length ≤ 65536 := by
  have h1 : (Gr.chk (ba nm) dl ((xs.map pn).map no)).2 = 0 := by rw [map_pn, chk_er]; exact h
  have h2 := Bk.back h1
  rw [map_pn, txt_er] at h2
  have h3 := h2.2
  unfold txt at h3
  rw [if_pos h] at h3
  exact h3
end Tr
end U
end Go.Proofs.YtfoahfgehmghcaaGreatDoor

/- Law SourceOwns: the plan that is lent, a node behind its nodes. -/
namespace Go.Proofs.YtfoahfgehmghcaaGreatDoor
namespace So
open Go.RowKit

/-- the node behind the nodes -/
def spN : ByteArray := ⟨#[115, 112, 97, 114, 101]⟩
def sp : Gr.No := ⟨⟨spN, 0, 0, 0, 0, 0, 0, 0, (none, 0, 0), (none, 0, 0)⟩, [], []⟩
theorem sp_one : ∀ u ∈ sp.q.row, u.oneCell' = true := fun u hu => by
  simp only [Gr.Nd.row, sp, List.mem_cons, List.not_mem_nil, or_false] at hu
  rcases hu with rfl | rfl | rfl | rfl | rfl | rfl | rfl | rfl | rfl | rfl <;> rfl
theorem row_one (q : Gr.Nd) : ∀ u ∈ q.row, u.oneCell' = true := fun u hu => by
  simp only [Gr.Nd.row, List.mem_cons, List.not_mem_nil, or_false] at hu
  rcases hu with rfl | rfl | rfl | rfl | rfl | rfl | rfl | rfl | rfl | rfl <;> rfl
theorem setL_app : ∀ (vs l xs : List Value) (j : Nat), setL (l ++ xs) (l.length + j) vs = l ++ setL xs j vs
  | [], l, xs, j => rfl
  | v :: vs, l, xs, j => by
    rw [setL, setL, List.set_append_right _ _ (by omega), show l.length + j - l.length = j by omega, Nat.add_assoc, setL_app vs l _ (j + 1)]
theorem setL_flat (q : Gr.Nd) : ∀ (qs : List Gr.Nd) (i : Nat), i < qs.length → setL (U.flat qs) (i * 10) q.row = U.flat (qs.set i q)
  | [], i, h => by simp at h
  | p :: qs, 0, _ => by
    simp [U.flat, Gr.Nd.row, setL]
  | p :: qs, i + 1, h => by
    have e : U.flat (p :: qs) = p.row ++ U.flat qs := by simp [U.flat]
    have e2 : U.flat ((p :: qs).set (i + 1) q) = p.row ++ U.flat (qs.set i q) := by simp [U.flat]
    rw [e, e2, show (i + 1) * 10 = p.row.length + i * 10 by simp [Gr.Nd.row]; omega, setL_app, setL_flat q qs i (by simpa using h)]
/-- the plan that is lent: at Q, its nodes in gF -/
structure Fr (A Q gF cF n : Nat) (nm : ByteArray) (dl : Int) (W : World) (zs : List Gr.No) : Prop where
  qb : W.heap[Q]? = some (.cells #[.string nm, .int .i64 dl, .slice (some ⟨gF, 0, none⟩) n cF] 24 (0, 0))
  len : zs.length = n
  row : W.ownsRow A 32 10 (.slice (some ⟨gF, 0, none⟩) (n + 1) cF) (n + 1) (U.flat ((zs ++ [sp]).map (·.q)))
  ls : ∀ y ∈ zs, Ls2 A W y.q.ne y.nl 71 72 ∧ Ls2 A W y.q.af y.al 73 74
variable {A Q gF cF n : Nat} {nm : ByteArray} {dl : Int} {W W' : World} {zs : List Gr.No}
theorem Fr.keep (h : Fr A Q gF cF n nm dl W zs) (k : Keep (fun _ => False) W W') : Fr A Q gF cF n nm dl W' zs :=
  ⟨k.blk h.qb (fun f => f), h.len, ownsRow_new h.row k, fun y hy => ⟨(h.ls y hy).1.keep k (fun _ _ f => f.elim), (h.ls y hy).2.keep k (fun _ _ f => f.elim)⟩⟩
theorem Fr.below (h : Fr A Q gF cF n nm dl W zs) (k : Below W.heap.size W W') : Fr A Q gF cF n nm dl W' zs := h.keep (Keep.ofBelow k (Nat.le_refl _))
theorem Fr.node (h : Fr A Q gF cF n nm dl W zs) {i : Nat} {x : Gr.No} (hx : (zs ++ [sp])[i]? = some x) {j : Nat} {u : Value} (hu : x.q.row[j]? = some u) : W.cell? ⟨gF, i * 10 + j, none⟩ = some u := by
  have hl : (zs ++ [sp]).length = n + 1 := by simp [h.len]
  have hr : W.ownsRow A 32 10 (.slice (some ⟨gF, 0, none⟩) (zs ++ [sp]).length cF) (zs ++ [sp]).length (U.flat ((zs ++ [sp]).map (·.q))) := by rw [hl]; exact h.row
  exact nd_cell hr hx hu
theorem Fr.rd (h : Fr A Q gF cF n nm dl W zs) (hn : n ≤ 20000) (hz : ∀ y ∈ zs, y.nl.length ≤ 20000 ∧ y.al.length ≤ 20000) : Gr.RdP W.heap.size W (some ⟨gF, 0, none⟩, n, cF) zs := by
  refine ⟨h.len.symm, by show n ≤ _; omega, .inr ⟨gF, 0, rfl, (h.row.lt gF rfl).2, fun i x hx j u hu => ?_⟩, fun y hy => ⟨(h.ls y hy).1.rd (by have := (hz y hy).1; omega), (h.ls y hy).2.rd (by have := (hz y hy).2; omega)⟩⟩
  rw [Nat.zero_add]
  exact h.node (by rw [List.getElem?_append_left (List.getElem?_eq_some_iff.1 hx).1]; exact hx) hu
theorem Fr.cp (h : Fr A Q gF cF n nm dl W zs) : ∀ x ∈ zs, (x.q.ne.1 = none → x.q.ne.2.2 = 0) ∧ (x.q.af.1 = none → x.q.af.2.2 = 0) := fun x hx => by
  obtain ⟨⟨g1, c1, e1, _⟩, ⟨g2, c2, e2, _⟩⟩ := h.ls x hx
  exact ⟨(fun e => by rw [e1] at e; cases e), (fun e => by rw [e2] at e; cases e)⟩
/-- a node exchanged -/
theorem Fr.put (h : Fr A Q gF cF n nm dl W zs) {i : Nat} (hi : i < n) {x : Gr.No} (h1 : Ls2 A W x.q.ne x.nl 71 72) (h2 : Ls2 A W x.q.af x.al 73 74) :
    Fr A Q gF cF n nm dl (W.setCells gF (i * 10) x.q.row) (zs.set i x) ∧ Keep (fun q => q = gF) W (W.setCells gF (i * 10) x.q.row) ∧ W.there gF (i * 10) 10 ∧ A ≤ gF ∧ ∀ q cur, q = gF → W.heap[q]? ≠ some (.cells cur 3 (0, 0)) := by
  have kk := setCells_keep gF x.q.row (i * 10) W
  obtain ⟨hA, _, cur, hcur⟩ := U.own_blk h.row rfl
  have hne : ∀ {t : TypeId} {q : Nat} {cs : Array Value}, t ≠ 32 → W.heap[q]? = some (.cells cs t (0, 0)) → q ≠ gF := fun ht hc e => by
    rw [e, hcur] at hc
    injection hc with hc
    injection hc with _ hc
    exact ht hc.symm
  have hint : ∀ q cur, q = gF → W.heap[q]? ≠ some (.cells cur 3 (0, 0)) := fun q cur e hc => hne (by decide) hc e
  refine ⟨⟨kk.blk h.qb (hne (by decide) h.qb), by rw [List.length_set]; exact h.len, ?_, fun y hy => ?_⟩, kk, own_there h.row _ _ (by omega), hA, hint⟩
  · have := own_setCells x.q.row (i * 10) h.row
    rw [setL_flat x.q ((zs ++ [sp]).map (·.q)) i (by simp [h.len]; omega)] at this
    have e : ((zs ++ [sp]).map (·.q)).set i x.q = (zs.set i x ++ [sp]).map (·.q) := by
      rw [← List.map_set, List.set_append_left _ _ (by rw [h.len]; exact hi)]
    rw [e] at this
    exact this
  · rcases List.mem_or_eq_of_mem_set hy with hy | rfl
    · exact ⟨(h.ls y hy).1.keep kk hint, (h.ls y hy).2.keep kk hint⟩
    · exact ⟨h1.keep kk hint, h2.keep kk hint⟩
theorem Ls2.base {B : Nat} {w : World} {s : Option Addr × Nat × Nat} {z : List Int} {m1 m2 : Int} (h : Ls2 B w s z m1 m2) (hA : A ≤ B) : Ls2 A w s z m1 m2 := by
  obtain ⟨g, cap, e, h2⟩ := h
  exact ⟨g, cap, e, ownsRow_base h2 hA⟩
theorem RoE.rd {B : Nat} {w : World} {va : Option Addr} {vc : Nat} {fv : Value} {ys : List Gr.No} (h : RoE B w (.slice va ys.length vc) fv ys) (hn : ys.length ≤ 20000) (hz : ∀ y ∈ ys, y.nl.length ≤ 20000 ∧ y.al.length ≤ 20000) : Gr.RdP w.heap.size w (va, ys.length, vc) ys := by
  refine ⟨rfl, by show ys.length ≤ _; omega, ?_, fun y hy => ⟨(h.ls y hy).1.rd (by have := (hz y hy).1; omega), (h.ls y hy).2.rd (by have := (hz y hy).2; omega)⟩⟩
  by_cases e : ys.length = 0
  · exact .inl e
  · right
    have hr := h.nodes
    obtain ⟨g, cap, hv⟩ := own_form hr (by omega)
    injection hv with h1 h2 h3
    subst h1
    refine ⟨g, 0, rfl, (hr.lt g rfl).2, fun i x hx j u hu => ?_⟩
    rw [Nat.zero_add]
    exact nd_cell hr hx hu
theorem own_up {w : World} {b B e s n : Nat} {v : Value} {xs : List Value} (h : w.ownsRow b e s v n xs) (hg : ∀ g, v.ownBlock = some g → B ≤ g) : w.ownsRow B e s v n xs := by
  refine ⟨h.1, ?_⟩
  rcases h.2 with h' | ⟨g, cap, cur, h1, _, h3⟩
  · exact .inl h'
  · subst h1
    exact .inr ⟨g, cap, cur, rfl, hg g rfl, h3⟩
theorem slice_hi_runN (a : Option Addr) (n c hi : Nat) (h2 : hi ≤ c) (w : World) :
    (Instr.slice 22 (.slice a n c) none (some (.int .i64 (hi : Int))) none).run Tryz.prog w = .ok (.slice a hi c) w := by
  have h : (Instr.slice 22 (.slice a n c) none (some (.int .i64 (hi : Int))) none).run Tryz.prog w = .ok (.slice (if c = 0 then a else a.map (·.add 0)) hi c) w := by go_simp
  rw [h]
  cases a <;> simp [add_zero]
theorem txt_len (nm : List UInt8) (dl : Int) (xs : List Gr.No) : (U.txt nm dl xs).length ≤ 65536 := by
  unfold U.txt
  split
  · rename_i h
    exact U.Tr.text_short h
  · simp
end So
end Go.Proofs.YtfoahfgehmghcaaGreatDoor

/- Law SourceOwns: what stands between the calls. -/
namespace Go.Proofs.YtfoahfgehmghcaaGreatDoor
namespace So
open Go.RowKit

theorem Ls2.low {B : Nat} {w w' : World} {s : Option Addr × Nat × Nat} {z : List Int} {m1 m2 : Int} (h : Ls2 B w s z m1 m2) {S : Nat → Prop} (k : Keep S w w') (hS : ∀ q, S q → q < B) : Ls2 B w' s z m1 m2 := by
  obtain ⟨g, cap, e, h2⟩ := h
  refine ⟨g, cap, e, U.own_keep h2 k fun g hg s => ?_⟩
  have h3 := (U.own_blk h2 hg).1
  have h4 := hS g s
  omega
theorem RoE.keepT {B : Nat} {w w' : World} {va fv : Value} {ys : List Gr.No} {S : Nat → Prop} (h : RoE B w va fv ys) (k : Keep S w w') (hS : ∀ g cur t, S g → w.heap[g]? = some (.cells cur t (0, 0)) → t ≠ 32 ∧ t ≠ 3 ∧ t ≠ 30) : RoE B w' va fv ys := by
  refine ⟨U.own_keep h.nodes k fun g hg s => ?_, fun y hy => ⟨(h.ls y hy).1.keep k fun g cur s hc => (hS g cur _ s hc).2.1 rfl, (h.ls y hy).2.keep k fun g cur s hc => (hS g cur _ s hc).2.1 rfl⟩, U.own_keep h.full k fun g hg s => ?_⟩
  · obtain ⟨_, _, cur, hc⟩ := U.own_blk h.nodes hg
    exact (hS g cur _ s hc).1 rfl
  · obtain ⟨_, _, cur, hc⟩ := U.own_blk h.full hg
    exact (hS g cur _ s hc).2.2 rfl
theorem RoE.low {B : Nat} {w w' : World} {va fv : Value} {ys : List Gr.No} {S : Nat → Prop} (h : RoE B w va fv ys) (k : Keep S w w') (hS : ∀ q, S q → q < B) : RoE B w' va fv ys := by
  refine ⟨U.own_keep h.nodes k fun g hg s => ?_, fun y hy => ⟨(h.ls y hy).1.low k hS, (h.ls y hy).2.low k hS⟩, U.own_keep h.full k fun g hg s => ?_⟩
  · have h3 := (U.own_blk h.nodes hg).1
    have h4 := hS g s
    omega
  · have h3 := (U.own_blk h.full hg).1
    have h4 := hS g s
    omega
/-- between two calls: the plan that is lent, and what came in -/
structure S9 (A Q gF cF n : Nat) (nm : ByteArray) (dl : Int) (w2 : World) (zs : List Gr.No) (W : World) : Prop where
  fr : Fr A Q gF cF n nm dl W zs
  be : Below (A + 1 + 1) w2 W
  sz : A + 1 + 1 ≤ W.heap.size
variable {A Q gF cF n : Nat} {nm : ByteArray} {dl : Int} {w2 W W' : World} {zs : List Gr.No}
theorem S9.below (h : S9 A Q gF cF n nm dl w2 zs W) (b : Below W.heap.size W W') : S9 A Q gF cF n nm dl w2 zs W' :=
  ⟨h.fr.below b, h.be.trans (b.mono h.sz), Nat.le_trans h.sz b.size⟩
theorem S9.cells (h : S9 A Q gF cF n nm dl w2 zs W) : W.cell? ⟨Q, 0, none⟩ = some (.string nm) ∧ W.cell? ⟨Q, 1, none⟩ = some (.int .i64 dl) ∧ W.cell? ⟨Q, 2, none⟩ = some (.slice (some ⟨gF, 0, none⟩) n cF) :=
  ⟨cell_blk h.fr.qb 0 rfl, cell_blk h.fr.qb 1 rfl, cell_blk h.fr.qb 2 rfl⟩
/-- between two rounds of the loop that exchanges nodes -/
structure L9 (A Q gF cF n : Nat) (nm : ByteArray) (dl : Int) (w2 : World) (B2 O : Nat) (nm2 : ByteArray) (dl2 : Int) (va2 : Option Addr) (n2 vc2 : Nat) (f2 : Value) (os zs : List Gr.No) (W : World) : Prop where
  s9 : S9 A Q gF cF n nm dl w2 zs W
  ro : RoE B2 W (.slice va2 n2 vc2) f2 os
  ob : W.heap[O]? = some (.cells #[.string nm2, .int .i64 dl2, .slice va2 n2 vc2] 24 (0, 0))
  ok : ∀ y ∈ zs, y.nl.length ≤ 20000 ∧ y.al.length ≤ 20000 ∧ y.q.nm.size ≤ 9223372036854775807
variable {B2 O : Nat} {nm2 : ByteArray} {dl2 : Int} {va2 : Option Addr} {n2 vc2 : Nat} {f2 : Value} {os : List Gr.No}
theorem L9.below (h : L9 A Q gF cF n nm dl w2 B2 O nm2 dl2 va2 n2 vc2 f2 os zs W) (b : Below W.heap.size W W') : L9 A Q gF cF n nm dl w2 B2 O nm2 dl2 va2 n2 vc2 f2 os zs W' :=
  ⟨h.s9.below b, h.ro.below b, (Keep.ofBelow (S := fun _ => False) b (Nat.le_refl _)).blk h.ob (fun f => f), h.ok⟩
theorem L9.node (h : L9 A Q gF cF n nm dl w2 B2 O nm2 dl2 va2 n2 vc2 f2 os zs W) (ho : os.length = n2) {i : Nat} {x : Gr.No} (hx : os[i]? = some x) : ∃ g, va2 = some ⟨g, 0, none⟩ ∧ ∀ j u, x.q.row[j]? = some u → W.cell? ⟨g, i * 10 + j, none⟩ = some u := by
  have hi := (List.getElem?_eq_some_iff.1 hx).1
  subst ho
  have hr := h.ro.nodes
  obtain ⟨g, cap, hv⟩ := own_form hr (by omega)
  injection hv with h1 h2 h3
  subst h1
  exact ⟨g, rfl, fun j u hu => nd_cell hr hx hu⟩
theorem L9.put (h : L9 A Q gF cF n nm dl w2 B2 O nm2 dl2 va2 n2 vc2 f2 os zs W) {i : Nat} {x : Gr.No} (hi : i < n) (hx : os[i]? = some x) (hB : gF < B2) (hA : A + 1 + 1 ≤ gF) (hok : x.nl.length ≤ 20000 ∧ x.al.length ≤ 20000 ∧ x.q.nm.size ≤ 9223372036854775807) :
    L9 A Q gF cF n nm dl w2 B2 O nm2 dl2 va2 n2 vc2 f2 os (zs.set i x) (W.setCells gF (i * 10) x.q.row) ∧ W.there gF (i * 10) 10 := by
  have hm := List.mem_of_getElem? hx
  obtain ⟨p1, p2, p3, p4, p5⟩ := h.s9.fr.put hi ((h.ro.ls x hm).1.base (by omega)) ((h.ro.ls x hm).2.base (by omega))
  refine ⟨⟨⟨p1, h.s9.be.trans (p2.below h.s9.sz fun k e => by omega), Nat.le_trans h.s9.sz p2.size⟩, h.ro.low p2 (fun q e => by omega), p2.blk h.ob fun e => ?_, fun y hy => ?_⟩, p3⟩
  · have e : O = gF := e
    obtain ⟨_, _, cur, hc⟩ := U.own_blk h.s9.fr.row (g := gF) rfl
    rw [← e, h.ob] at hc
    injection hc with hc
    injection hc with _ hc
    exact absurd hc (by decide)
  · rcases List.mem_or_eq_of_mem_set hy with hy | rfl
    · exact h.ok y hy
    · exact hok
theorem er_nm {xs ys : List Gr.No} (h : ys.map U.er = xs.map U.er) (hz : ∀ x ∈ xs, x.q.nm.size ≤ 9223372036854775807) : ∀ y ∈ ys, y.q.nm.size ≤ 9223372036854775807 := fun y hy => by
  have h1 : U.er y ∈ xs.map U.er := by rw [← h]; exact List.mem_map_of_mem hy
  obtain ⟨x, hx, e⟩ := List.mem_map.1 h1
  have h2 := congrArg (fun z : Gr.No => z.q.nm) e
  have h2 : x.q.nm = y.q.nm := h2
  rw [← h2]
  exact hz x hx
/-- a plan that was read, its lists the caller's -/
structure Pd (W : World) (P : Nat) (r : (Nat × Nat) ⊕ U.Pl) (s : Option Addr × Nat × Nat) (xs : List Gr.No) (B M : Nat) : Prop where
  nx : Nx B M W s xs
  bl : W.heap[P]? = some (.cells #[.string (prNm r), .int .i64 (prDl r), .slice s.1 s.2.1 s.2.2] 24 (0, 0))
  er : xs.map U.er = prEs r
variable {P M : Nat} {r : (Nat × Nat) ⊕ U.Pl} {s : Option Addr × Nat × Nat} {xs : List Gr.No} {B : Nat}
theorem Pd.below (h : Pd W P r s xs B M) (b : Below W.heap.size W W') : Pd W' P r s xs B M := ⟨h.nx.below b, (Keep.ofBelow (S := fun _ => False) b (Nat.le_refl _)).blk h.bl (fun f => f), h.er⟩
theorem Pd.cells (h : Pd W P r s xs B M) : W.cell? ⟨P, 0, none⟩ = some (.string (prNm r)) ∧ W.cell? ⟨P, 1, none⟩ = some (.int .i64 (prDl r)) ∧ W.cell? ⟨P, 2, none⟩ = some (.slice s.1 s.2.1 s.2.2) :=
  ⟨cell_blk h.bl 0 rfl, cell_blk h.bl 1 rfl, cell_blk h.bl 2 rfl⟩
/-- one that the document read -/
structure Pe (W : World) (P : Nat) (r : (Nat × Nat) ⊕ U.Pl) (s : Option Addr × Nat × Nat) (xs : List Gr.No) : Prop where
  rd : Gr.RdP W.heap.size W s xs
  bl : W.heap[P]? = some (.cells #[.string (prNm r), .int .i64 (prDl r), .slice s.1 s.2.1 s.2.2] 24 (0, 0))
  er : xs.map U.er = prEs r
theorem Pe.below (h : Pe W P r s xs) (b : Below W.heap.size W W') : Pe W' P r s xs :=
  ⟨(h.rd.keep (Keep.ofBelow (S := fun _ => False) b (Nat.le_refl _)) (fun _ f => f.elim)).mono b.size, (Keep.ofBelow (S := fun _ => False) b (Nat.le_refl _)).blk h.bl (fun f => f), h.er⟩
theorem Pe.cells (h : Pe W P r s xs) : W.cell? ⟨P, 0, none⟩ = some (.string (prNm r)) ∧ W.cell? ⟨P, 1, none⟩ = some (.int .i64 (prDl r)) ∧ W.cell? ⟨P, 2, none⟩ = some (.slice s.1 s.2.1 s.2.2) :=
  ⟨cell_blk h.bl 0 rfl, cell_blk h.bl 1 rfl, cell_blk h.bl 2 rfl⟩
theorem rd_new {W : World} {s : Option Addr × Nat × Nat} {xs : List Gr.No} (h : Gr.RdP W.heap.size W s xs) {W' : World} (b : Below W.heap.size W W') : Gr.RdP W'.heap.size W' s xs :=
  (h.keep (Keep.ofBelow (S := fun _ => False) b (Nat.le_refl _)) (fun _ f => f.elim)).mono b.size
theorem pe_any3 {r : (Nat × Nat) ⊕ U.Pl} {w : World} {e : Ending} {w' : World} (h : U.ParseEnd r w e w') : ∃ (s : Option Addr × Nat × Nat) (xs : List Gr.No), e = .returned (.tuple #[.agg #[.string (prNm r), .int .i64 (prDl r), .slice s.1 s.2.1 s.2.2], .int .i64 (prP r : Nat), .int .i64 (prC r : Nat)]) ∧ Below w.heap.size w w' ∧ Gr.RdP w'.heap.size w' s xs ∧ xs.map U.er = prEs r := by
  obtain ⟨a, n, c, xs, h1, h2, h3, h4⟩ := pe_any h
  exact ⟨(a, n, c), xs, h1, h2, h3, h4⟩
end So
end Go.Proofs.YtfoahfgehmghcaaGreatDoor
