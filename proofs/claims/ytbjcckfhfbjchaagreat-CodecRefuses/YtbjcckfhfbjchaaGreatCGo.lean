import Derived.Test.YtbjcckfhfbjchaaGreatCGm
import Derived.BigQuiet
/- Codec: the laws' little, as memory of its own; a plan that may be. -/
namespace Go.Proofs.YtbjcckfhfbjchaaGreat
namespace Cd
open Go.RowKit Go.Deep

set_option maxRecDepth 10000 in
set_option maxHeartbeats 1000000 in
theorem little2_any (w : World) : Calls Tryz.prog 20 #[] w fun en w' => ∃ g, en = .returned (.agg #[.string ⟨#[112]⟩, .int .i64 100, .slice (some ⟨g, 0, none⟩) 1 1]) ∧ w'.heap[g]? = some (.cells litC 57 (0, 0)) ∧ w.heap.size ≤ g ∧ Below w.heap.size w w' := by
  have hx0 := heap_alloc_new w (.cells #[.string ⟨#[]⟩, .int .i64 0, .slice none 0 0] 30)
  have hb0 : Below w.heap.size w (w.alloc (.cells #[.string ⟨#[]⟩, .int .i64 0, .slice none 0 0] 30)) := (Below.refl _ _).alloc (Nat.le_refl _) _
  have HX0 := hide hx0
  have HB0 := hide hb0
  have HS0 := hide (blk_lt hx0)
  clear hx0 hb0
  go_enter Tryz.func20, Tryz.ntmps20
  go_upto_region 1 with fail
  generalize w.alloc (.cells #[.string ⟨#[]⟩, .int .i64 0, .slice none 0 0] 30) = w0 at *
  have HN := hide (heap_alloc_new w0 (.cells litC 57))
  have HB1 := hide (HB0.out.trans (((Below.refl w0.heap.size w0).alloc (Nat.le_refl _) (.cells litC 57)).mono HB0.out.size))
  have HX1 := hide (blkB HX0.out ((Below.refl w0.heap.size w0).alloc (Nat.le_refl _) (.cells litC 57)))
  have HI : Hid ((Tryz.prog.info? 30).map (·.size) = some (#[.string ⟨#[112]⟩, .int .i64 100, .slice (some ⟨w0.heap.size, 0, none⟩) 1 1] : Array Value).size) := sizePn
  have HO := hide (onesPn ⟨#[112]⟩ 100 (some ⟨w0.heap.size, 0, none⟩) 1 1)
  go_wp2_with (first
    | (refine Go.Great.wpList_buildSliceTo rfl 28 57 1 #[(0, .tmp 1)] rfl w0.heap.size rfl (some 2) (by kernel_rfl) Tryz.underlying28 litC (by kernel_rfl) ?_)
    | (refine wpList_store_row rfl 30 _ _ rfl w.heap.size #[.string ⟨#[112]⟩, .int .i64 100, .slice (some ⟨w0.heap.size, 0, none⟩) 1 1] rfl rfl 30 _ HX1.out HI.out rfl HO.out ?_))
  have HXr := hide (setRow_heap _ w.heap.size _ #[.string ⟨#[112]⟩, .int .i64 100, .slice (some ⟨w0.heap.size, 0, none⟩) 1 1] _ _ HX1.out)
  have hk := keep_row (w0.alloc (.cells litC 57)) w.heap.size #[.string ⟨#[112]⟩, .int .i64 100, .slice (some ⟨w0.heap.size, 0, none⟩) 1 1]
  have hn := hk.blk HN.out (by show ¬ _ = _; have := blk_lt HX0.out; omega)
  exact bodyPost_ret (resPn rfl _ _ w.heap.size _ rfl rfl HXr.out) rfl ⟨w0.heap.size, rfl, hn, HB0.out.size, HB1.out.trans (hk.below HB1.out.size fun i e => by have e : i = _ := e; omega)⟩
theorem lit_own {w : World} {g : Nat} (h : w.heap[g]? = some (.cells litC 57 (0, 0))) : NsV [litV] w (.slice (some ⟨g, 0, none⟩) 1 1) := by
  refine ⟨[litN.q], rfl, ⟨rfl, .inr ⟨g, 1, litC, rfl, Nat.zero_le _, h, Nat.le_refl _, by decide, rfl, rfl⟩⟩, fun i q d hq hd => ?_⟩
  cases i with
  | zero =>
    have hq : litN.q = q := by simpa using hq
    have hd : litV = d := by simpa using hd
    subst hq hd
    exact ⟨none, 0, 0, none, 0, 0, rfl, ⟨rfl, World.ownsRow_nil _ _ _ _⟩, ⟨rfl, World.ownsRow_nil _ _ _ _⟩⟩
  | succ i => simp at hq
end Cd
end Go.Proofs.YtbjcckfhfbjchaaGreat

/- Codec: the laws' planOf. -/
namespace Go.Proofs.YtbjcckfhfbjchaaGreat
namespace Cd
open Go.RowKit Go.Deep

/-- a node more behind a row of the call's own -/
theorem wp_app_nd {w : World} {ops : Array Oper} {rest : List Oper} {o : Oper} {a : Act} {Q : Exit → Act → World → Prop} (hgd : o.guard = none) (s x : Operand)
    (ho : o.op = .call { callee := .builtin .append, args := #[s, x], argTypes := #[28, 28] })
    (D : Nat) (v : Value) (qs : List Gr.Nd) (hs : a.eval s = v) (hown : w.ownsRow D 57 10 v qs.length (flat qs)) (B : Nat) (q : Gr.Nd) (hx : a.eval x = .slice (some ⟨B, 0, none⟩) 1 1) (hq : w.heap[B]? = some (.cells q.row.toArray 57 (0, 0))) (hn : qs.length ≤ 1000) (hD : D ≤ w.heap.size)
    (h : ∀ xa xc w', w'.ownsRow D 57 10 (.slice xa (qs.length + 1) xc) (qs ++ [q]).length (flat (qs ++ [q])) → Keep (fun k => v.ownBlock = some k) w w' → wpList Tryz.prog ops Q rest (a.put o.dst (.slice xa (qs.length + 1) xc)) w') : wpList Tryz.prog ops Q (o :: rest) a w := by
  obtain ⟨i0, hi, hz0, hz1, hz2⟩ := info_parts infoNd
  refine wpList_append_own2 hgd s x 28 ho D 57 i0 _ 10 120 Tryz.underlying28 hi hz0 hz1 hz2 rfl (by decide) v qs.length _ hs hown ⟨B, 0, none⟩ 1 1 q.row hx rfl (fun j u hu => ?_) (row_one q) (by unfold maxLen; omega) (by omega) hD ?_
  · have e : (⟨B, 0, none⟩ : Addr).add j = ⟨B, j, none⟩ := by rw [Addr.add_lit, Nat.zero_add]
    rw [e]
    exact cell_blk hq j (by simpa using hu)
  · intro v' w' h1 h2 _
    rw [← flat_snoc] at h1
    obtain ⟨xa, xc, rfl⟩ := ownsRow_shape h1
    refine h xa xc w' ?_ (Keep.grown h2 fun k e => e)
    rw [show (qs ++ [q]).length = qs.length + 1 by simp]
    exact h1
/-- a node's cells, named -/
theorem NdV.cut {d : Nv} {w : World} {v : Value} (h : NdV d w v) : ∃ q : Gr.Nd, v = .agg q.row.toArray ∧ q.ne.2.1 = d.1.2.length ∧ q.af.2.1 = d.2.length := by
  obtain ⟨a1, n1, c1, a2, n2, c2, e, h1, h2⟩ := h
  exact ⟨⟨_, _, _, _, _, _, _, _, (a1, n1, c1), (a2, n2, c2)⟩, e, h1.1, h2.1⟩
theorem NdV.keep {d : Nv} {w w' : World} {v : Value} {S : Nat → Prop} (h : NdV d w v) (k : Keep S w w') (hS : ∀ j, S j → ∃ cs t, w.heap[j]? = some (.cells cs t (0, 0)) ∧ (t = 136 ∨ t = 30)) : NdV d w' v := stable_N (T := 30) (by decide) d w w' v S h k hS
theorem NdV.keepN {d : Nv} {w w' : World} {v : Value} {S : Nat → Prop} (h : NdV d w v) (k : Keep S w w') (hS : ∀ j, S j → ∃ cs t, w.heap[j]? = some (.cells cs t (0, 0)) ∧ (t = 136 ∨ t = 57)) : NdV d w' v := stable_N (T := 57) (by decide) d w w' v S h k hS
theorem NdV.bel {d : Nv} {w w' : World} {v : Value} (h : NdV d w v) (hb : Below w.heap.size w w') : NdV d w' v := h.keep (Keep.ofBelow (S := fun _ => False) hb (Nat.le_refl _)) fun _ f => f.elim
theorem own_blkN {w : World} {b : Nat} {e : TypeId} {sz : Nat} {v : Value} {n : Nat} {xs : List Value} (h : w.ownsRow b e sz v n xs) {g : Nat} (hg : v.ownBlock = some g) : ∃ cs, w.heap[g]? = some (.cells cs e (0, 0)) := by
  rcases h.2 with ⟨e1, _⟩ | ⟨g', cap, cur, e1, _, h3, _⟩
  · rw [e1] at hg; cases hg
  · rw [e1] at hg
    simp only [Value.ownBlock, Option.some.injEq] at hg
    subst hg
    exact ⟨_, h3⟩
/-- what stands between two rounds: the plan at pb, its nodes -/
structure PQ (w wr : World) (o pb D : Nat) (NM : ByteArray) (dv : Int) (ds : List Nv) (qs : List Gr.Nd) (x : Value) : Prop where
  blk : wr.heap[pb]? = some (.cells #[.string NM, .int .i64 dv, x] 30 (0, 0))
  ob : wr.heap[o]? = some (.cells #[.string ⟨#[]⟩, .int .i64 0, .slice none 0 0] 30 (0, 0))
  ox : wr.ownsRow D 57 10 x qs.length (flat qs)
  ln : qs.length = ds.length
  nd : ∀ (i : Nat) (q : Gr.Nd) (d : Nv), qs[i]? = some q → ds[i]? = some d → NdV d wr (.agg q.row.toArray)
  bl : Below w.heap.size w wr
  sz : D ≤ wr.heap.size
variable {w wr wA : World} {o pb D : Nat} {NM : ByteArray} {dv : Int} {ds : List Nv} {qs : List Gr.Nd} {x : Value}
theorem PQ.bel (h : PQ w wr o pb D NM dv ds qs x) (hb : Below wr.heap.size wr wA) : PQ w wA o pb D NM dv ds qs x :=
  ⟨blkB h.blk hb, blkB h.ob hb, own_keep h.ox (Keep.ofBelow (S := fun _ => False) hb (Nat.le_refl _)) (fun _ f => f.elim), h.ln, fun i q d hq hd => (h.nd i q d hq hd).bel hb, h.bl.trans (hb.mono h.bl.size), Nat.le_trans h.sz hb.size⟩
theorem PQ.app (h : PQ w wr o pb D NM dv ds qs x) {q : Gr.Nd} {d : Nv} (hn : NdV d wr (.agg q.row.toArray)) {x' : Value} (ho : wA.ownsRow D 57 10 x' (qs ++ [q]).length (flat (qs ++ [q]))) (hk : Keep (fun k => x.ownBlock = some k) wr wA) (hp : pb < D) (hoD : o < D) (hop : o ≠ pb) (hw : w.heap.size ≤ pb) :
    PQ w (wA.setCell ⟨pb, 2, none⟩ x') o pb D NM dv (ds ++ [d]) (qs ++ [q]) x' := by
  have ks := keep_cell wA pb 2 x'
  have hxD : ∀ g, x.ownBlock = some g → D ≤ g := fun g e => (own_lo h.ox e).1
  have hbA : wA.heap[pb]? = some (.cells #[.string NM, .int .i64 dv, x] 30 (0, 0)) := hk.blk h.blk fun e => by have := hxD pb e; omega
  refine ⟨set_blk hbA 2 x', ks.blk (hk.blk h.ob fun e => by have := hxD o e; omega) hop, own_keep ho ks fun j e e2 => ?_, by simp [h.ln], fun i q' d' hq hd => ?_, ?_, ?_⟩
  · have e : j = pb := e; subst e; have := (own_lo ho e2).1; omega
  · have hnew : ∀ d q', NdV d wr (.agg q'.row.toArray) → NdV d (wA.setCell ⟨pb, 2, none⟩ x') (.agg (Gr.Nd.row q').toArray) := fun d q' g =>
      (g.keepN hk fun j e => by obtain ⟨cs, hcs⟩ := own_blkN h.ox e; exact ⟨cs, _, hcs, .inr rfl⟩).keep ks fun j e => by have e : j = pb := e; subst e; exact ⟨_, _, hbA, .inr rfl⟩
    by_cases hi : i < qs.length
    · rw [List.getElem?_append_left hi] at hq
      rw [List.getElem?_append_left (by rw [← h.ln]; exact hi)] at hd
      exact hnew _ _ (h.nd i q' d' hq hd)
    · rw [List.getElem?_append_right (by omega)] at hq
      rw [List.getElem?_append_right (by rw [← h.ln]; omega), ← h.ln] at hd
      cases hj : i - qs.length with
      | zero =>
        rw [hj] at hq hd
        have hq : q = q' := by simpa using hq
        have hd : d = d' := by simpa using hd
        subst hq hd
        exact hnew _ _ hn
      | succ j => rw [hj] at hq; simp at hq
  · have e1 := h.bl.trans (hk.below h.bl.size fun j e => by have := hxD j e; omega)
    exact e1.trans (ks.below e1.size fun j e => by have e : j = pb := e; omega)
  · have := hk.size; have := ks.size; have := h.sz; omega
end Cd
end Go.Proofs.YtbjcckfhfbjchaaGreat
