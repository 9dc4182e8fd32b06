/- PackWriterOwns: what lies in memory while two writers write. -/
import Derived.Test.YteaokgolnhdloaaPOwM
import Derived.Test.YteaokgolnhdloaaPRefW
import Derived.Laws.CopyOwn
namespace Go.Proofs.Yteaokgolnhdloaa
namespace Ow
open Go.RowKit

theorem wset_ltW {w : World} {p : Nat} {v : Value} {s : K.WS} (h : Wr w p v s) {k : Nat} (hk : Wset p v k) : k < w.heap.size := by
  rcases hk with rfl | hk
  · exact (Array.getElem?_eq_some_iff.1 h.blk).1
  · exact (h.row.lt k hk).2
theorem wset_ltV {w : World} {p : Nat} {v : Value} {s : K.WS} (h : Vr w p v s) {k : Nat} (hk : Wset p v k) : k < w.heap.size := by
  rcases hk with rfl | hk
  · exact (Array.getElem?_eq_some_iff.1 h.blk).1
  · exact (h.row.lt k hk).2
/-- two writers, a row of the caller's own, and rows that came out, each in blocks of its own -/
structure St (w0 w : World) (p : Nat) (vW : Value) (sW : K.WS) (q : Nat) (vV : Value) (sV : K.WS) (f m cap : Nat) (X : List Value) (Ks : List (Value × List Nat)) : Prop where
  wr : Wr w p vW sW
  vr : Vr w q vV sV
  row : w.ownsRow 0 5 1 (.slice (some ⟨f, 0, none⟩) m cap) m X
  wv : ∀ k, Wset p vW k → ¬ Wset q vV k
  wf : ∀ k, Wset p vW k → k ≠ f
  vf : ∀ k, Wset q vV k → k ≠ f
  gw : ∀ k, Wset p vW k → w0.heap.size ≤ k
  gv : ∀ k, Wset q vV k → w0.heap.size ≤ k
  gf : w0.heap.size ≤ f
  ks : ∀ r ∈ Ks, w.ownsRow 0 5 1 r.1 r.2.length (B8 r.2) ∧ ∀ k, r.1.ownBlock = some k → ¬ Wset p vW k ∧ ¬ Wset q vV k ∧ k ≠ f ∧ w0.heap.size ≤ k
  pw : Ks.Pairwise (fun a b => ∀ k, a.1.ownBlock = some k → b.1.ownBlock ≠ some k)
  bl : Below w0.heap.size w0 w
section
variable {w0 w w' : World} {p q f m cap : Nat} {vW vV : Value} {sW sV : K.WS} {X : List Value} {Ks : List (Value × List Nat)}
theorem St.flt (h : St w0 w p vW sW q vV sV f m cap X Ks) : f < w.heap.size := (h.row.lt f rfl).2
theorem St.atW (h : St w0 w p vW sW q vV sV f m cap X Ks) : WAt (Wset p vW) w p sW w := ⟨Keep.refl _ _, vW, h.wr, fun _ hk => .inl hk⟩
theorem St.atV (h : St w0 w p vW sW q vV sV f m cap X Ks) : VAt (Wset q vV) w q sV w := ⟨Keep.refl _ _, vV, h.vr, fun _ hk => .inl hk⟩
theorem St.wput (h : St w0 w p vW sW q vV sV f m cap X Ks) {s' : K.WS} (a : WAt (Wset p vW) w p s' w') : ∃ v', St w0 w' p v' s' q vV sV f m cap X Ks := by
  obtain ⟨v', hw, hs⟩ := a.wr
  have hsz := h.bl.size
  have hnot : ∀ k, k < w.heap.size → ¬ Wset p vW k → ¬ Wset p v' k := fun k h1 h2 h3 => by
    rcases hs k h3 with h4 | h4
    · exact h2 h4
    · omega
  refine ⟨v', hw, h.vr.keep a.keep (fun k hk hw => h.wv k hw hk), ownsRow_keep h.row a.keep (fun k hk e => h.wf k hk ?_), fun k hk hv => hnot k (wset_ltV h.vr hv) (fun h5 => h.wv k h5 hv) hk, fun k hk e => hnot k (by rw [e]; exact h.flt) (fun h5 => h.wf k h5 e) hk, h.vf, fun k hk => ?_, h.gv, h.gf, fun r hr => ?_, h.pw, h.bl.trans (a.keep.below hsz h.gw)⟩
  · simpa [Value.ownBlock] using e.symm
  · rcases hs k hk with h4 | h4
    · exact h.gw k h4
    · omega
  · obtain ⟨h1, h2⟩ := h.ks r hr
    exact ⟨ownsRow_keep h1 a.keep fun k hk e => (h2 k e).1 hk, fun k e => ⟨hnot k (h1.lt k e).2 (h2 k e).1, (h2 k e).2⟩⟩
theorem St.vput (h : St w0 w p vW sW q vV sV f m cap X Ks) {s' : K.WS} (a : VAt (Wset q vV) w q s' w') : ∃ v', St w0 w' p vW sW q v' s' f m cap X Ks := by
  obtain ⟨v', hw, hs⟩ := a.wr
  have hsz := h.bl.size
  have hnot : ∀ k, k < w.heap.size → ¬ Wset q vV k → ¬ Wset q v' k := fun k h1 h2 h3 => by
    rcases hs k h3 with h4 | h4
    · exact h2 h4
    · omega
  refine ⟨v', h.wr.keep a.keep (fun k hk hw => h.wv k hk hw), hw, ownsRow_keep h.row a.keep (fun k hk e => h.vf k hk ?_), fun k hk hv => hnot k (wset_ltW h.wr hk) (fun h5 => h.wv k hk h5) hv, h.wf, fun k hk e => hnot k (by rw [e]; exact h.flt) (fun h5 => h.vf k h5 e) hk, h.gw, fun k hk => ?_, h.gf, fun r hr => ?_, h.pw, h.bl.trans (a.keep.below hsz h.gv)⟩
  · simpa [Value.ownBlock] using e.symm
  · rcases hs k hk with h4 | h4
    · exact h.gv k h4
    · omega
  · obtain ⟨h1, h2⟩ := h.ks r hr
    exact ⟨ownsRow_keep h1 a.keep fun k hk e => (h2 k e).2.1 hk, fun k e => ⟨(h2 k e).1, hnot k (h1.lt k e).2 (h2 k e).2.1, (h2 k e).2.2⟩⟩
theorem St.put (h : St w0 w p vW sW q vV sV f m cap X Ks) {X' : List Value} (a : Keep (fun k => k = f) w w') (hr : w'.ownsRow 0 5 1 (.slice (some ⟨f, 0, none⟩) m cap) m X') : St w0 w' p vW sW q vV sV f m cap X' Ks := by
  refine ⟨h.wr.keep a h.wf, h.vr.keep a h.vf, hr, h.wv, h.wf, h.vf, h.gw, h.gv, h.gf, fun r hr => ?_, h.pw, h.bl.trans (a.below h.bl.size fun k e => by rw [e]; exact h.gf)⟩
  obtain ⟨h1, h2⟩ := h.ks r hr
  exact ⟨ownsRow_keep h1 a fun k hk e => (h2 k e).2.2.1 hk, h2⟩
theorem St.new (h : St w0 w p vW sW q vV sV f m cap X Ks) (b : Below w.heap.size w w') : St w0 w' p vW sW q vV sV f m cap X Ks := by
  have a : Keep (fun _ => False) w w' := Keep.ofBelow b (Nat.le_refl _)
  refine ⟨h.wr.keep a fun _ _ f => f, h.vr.keep a fun _ _ f => f, ownsRow_new h.row a, h.wv, h.wf, h.vf, h.gw, h.gv, h.gf, fun r hr => ?_, h.pw, h.bl.trans (b.mono h.bl.size)⟩
  obtain ⟨h1, h2⟩ := h.ks r hr
  exact ⟨ownsRow_new h1 a, h2⟩
theorem St.add (h : St w0 w p vW sW q vV sV f m cap X Ks) (b : Below w.heap.size w w') {v : Value} {l : List Nat} (r : w'.ownsRow w.heap.size 5 1 v l.length (B8 l)) : St w0 w' p vW sW q vV sV f m cap X ((v, l) :: Ks) := by
  have n := h.new b
  refine ⟨n.wr, n.vr, n.row, n.wv, n.wf, n.vf, n.gw, n.gv, n.gf, fun x hx => ?_, List.pairwise_cons.2 ⟨fun y hy k e1 e2 => ?_, n.pw⟩, n.bl⟩
  · rcases List.mem_cons.1 hx with rfl | hx
    · refine ⟨ownsRow_base r (Nat.zero_le _), fun k e => ?_⟩
      have h1 := (r.lt k e).1
      refine ⟨fun h2 => ?_, fun h2 => ?_, fun h2 => ?_, Nat.le_trans h.bl.size h1⟩
      · have := wset_ltW h.wr h2; omega
      · have := wset_ltV h.vr h2; omega
      · have := h.flt; omega
    · exact n.ks x hx
  · have h1 := (r.lt k e1).1
    have h2 := ((h.ks y hy).1.lt k e2).2
    omega
theorem St.begin {w1 w2 w3 w4 : World} {p q f m cap : Nat} {s1 s2 : K.WS} {X : List Value} (hb : Below w0.heap.size w0 w1) (h1 : WAt (fun k => w1.heap.size ≤ k) w1 p s1 w2) (h2 : VAt (fun k => w2.heap.size ≤ k) w2 q s2 w3) (b4 : Below w3.heap.size w3 w4) (h3 : w4.ownsRow w3.heap.size 5 1 (.slice (some ⟨f, 0, none⟩) m cap) m X) : ∃ v u, St w0 w4 p v s1 q u s2 f m cap X [] := by
  obtain ⟨v, hv, hs⟩ := h1.wr
  obtain ⟨u, hu, ht⟩ := h2.wr
  have k4 : Keep (fun _ => False) w3 w4 := Keep.ofBelow b4 (Nat.le_refl _)
  have k3 : Keep (fun k => w2.heap.size ≤ k) w2 w3 := h2.keep
  have z1 := hb.size
  have z2 := h1.keep.size
  have z3 := h2.keep.size
  have hv3 : Wr w3 p v s1 := hv.keep k3 fun k hk hle => by have := wset_ltW hv hk; omega
  have lv : ∀ k, Wset p v k → w1.heap.size ≤ k := fun k hk => (hs k hk).elim id id
  have lu : ∀ k, Wset q u k → w2.heap.size ≤ k := fun k hk => (ht k hk).elim id id
  have lf := (h3.lt f rfl).1
  refine ⟨v, u, hv3.keep k4 fun _ _ f => f, hu.keep k4 fun _ _ f => f, ownsRow_base h3 (Nat.zero_le _), fun k h5 h6 => ?_, fun k h5 h6 => ?_, fun k h5 h6 => ?_, fun k hk => ?_, fun k hk => ?_, ?_, (fun r hr => by cases hr), List.Pairwise.nil, ((hb.trans (h1.keep.below z1 fun i hi => by omega)).trans (h2.keep.below (by omega) fun i hi => by omega)).trans (b4.mono (by omega))⟩
  · have := wset_ltW hv h5; have := lu k h6; omega
  · have := wset_ltW hv h5; omega
  · have := wset_ltV hu h5; omega
  · have := lv k hk; omega
  · have := lu k hk; omega
  · omega
end
/-- what a row is read as -/
theorem rd_of {w : World} {a : Option Addr} {n c : Nat} {l : List Nat} (h : w.ownsRow 0 5 1 (.slice a n c) l.length (B8 l)) (hd : ∀ d ∈ l, d < 256) (hs : l.length < 281474976710656) : Rd w a n l ∧ (a = none → c = 0) := by
  obtain ⟨a', c', e, h1, h2, _⟩ := ownsRow_rd h hd hs
  injection e with e1 e2 e3
  subst e1 e2 e3
  exact ⟨h1, h2⟩
/-- the beginning of a row, read -/
theorem rd_pre {w : World} {f n m cap : Nat} {l : List Nat} (h : w.ownsRow 0 5 1 (.slice (some ⟨f, 0, none⟩) m cap) m (B8 l)) (hd : ∀ d ∈ l, d < 256) (hs : m < 281474976710656) (hn : n ≤ m) : Rd w (some ⟨f, 0, none⟩) n (l.take n) := by
  have hl : l.length = m := by have := h.1; rw [B8_length] at this; omega
  refine ⟨by rw [List.length_take]; omega, by omega, fun d hx => hd d (List.mem_of_mem_take hx), .inr ⟨f, 0, rfl, fun i hi => ?_⟩⟩
  have := h.cells (g := f) rfl i (.int .u8 ((l.getD i 0 : Nat) : Int)) (B8_at l i (by omega))
  rw [Addr.add_lit] at this
  rw [this]
  congr 3
  rw [List.getD_eq_getElem?_getD, List.getD_eq_getElem?_getD, List.getElem?_take, if_pos hi]
theorem size_u8 : (Try.prog.info? 5).map (·.size) = some 1 := by
  obtain ⟨i0, hi, hz0, hz1, hz2⟩ := info_parts info_u8
  rw [hi, Option.map_some, hz1]
/-- bytes copied over the beginning of a row -/
theorem wp_copyF {w : World} {ops : Array Oper} {rest : List Oper} {o : Oper} {a : Act} {Q : Exit → Act → World → Prop} (hgd : o.guard = none) (d s : Operand)
    (ho : o.op = .call { callee := .builtin .copy, args := #[d, s], argTypes := #[22, 22] })
    (f n m cap : Nat) (l : List Nat) (hn : n ≤ m) (hrow : w.ownsRow 0 5 1 (.slice (some ⟨f, 0, none⟩) m cap) m (B8 l)) (b : Option Addr) (k c : Nat) (lc : List Nat) (hr : Rd w b k lc)
    (hd : a.eval d = .slice (some ⟨f, 0, none⟩) n cap) (hs : a.eval s = .slice b k c)
    (h : ∀ w' x, w'.ownsRow 0 5 1 (.slice (some ⟨f, 0, none⟩) m cap) m (B8 (lc.take n ++ l.drop (min k n))) → Keep (fun i => i = f) w w' → wpList Try.prog ops Q rest (a.put o.dst x) w') : wpList Try.prog ops Q (o :: rest) a w := by
  have hl : l.length = m := by have := hrow.1; rw [B8_length] at this; omega
  have hk : k = lc.length := hr.1
  by_cases h0 : Nat.min k n = 0
  · refine wpList_copy_nothing hgd d s _ _ ho 5 Try.underlying22 size_u8 _ b n cap k c hd hs h0 ?_
    refine h w _ ?_ (Keep.refl _ _)
    have e : lc.take n ++ l.drop (min k n) = l := by
      have h1 : min k n = 0 := h0
      rw [h1, List.drop_zero]
      have : lc.take n = [] := List.eq_nil_of_length_eq_zero (by rw [List.length_take]; omega)
      rw [this]; rfl
    rw [e]
    exact hrow
  · have h1 : 0 < min k n := Nat.pos_of_ne_zero h0
    rcases hrow.2 with ⟨e, _⟩ | ⟨g, cap', cur, e, hbg, hg, hnc, hcm, hcs, htake⟩
    · cases e
    · injection e with e1 e2 e3
      injection e1 with e1
      injection e1 with e1
      subst e1
      subst e3
      rcases hr.2.2.2 with hz | ⟨b', off, rfl, hc⟩
      · omega
      · have hcl : (B8 (lc.take n)).length = Nat.min k n := by rw [B8_length, List.length_take]; show min n lc.length = min k n; omega
        refine wpList_copy_own hgd d s _ _ ho 5 Try.underlying22 size_u8 f 0 n cap ⟨b', off, none⟩ k c hd hs cur 5 hg (B8 (lc.take n)) hcl (fun j v hj => ?_) (by rw [hcl]; show 0 + min k n ≤ cur.size; omega) (B8_one _) ?_
        · have hj2 : j < min k n := by
            have := (List.getElem?_eq_some_iff.1 hj).1
            rw [hcl] at this
            exact this
          have h2 := B8_at (lc.take n) j (by rw [List.length_take]; omega)
          rw [hj] at h2
          rw [h2, Addr.add_lit, hc j (by omega)]
          congr 3
          rw [List.getD_eq_getElem?_getD, List.getD_eq_getElem?_getD, List.getElem?_take, if_pos (by omega)]
        · refine h _ _ ⟨?_, .inr ⟨f, cap, _, rfl, hbg, setRow_heap w f _ _ _ _ hg, hnc, hcm, ?_, ?_⟩⟩ ⟨rfl, rfl, rfl, by simp [World.setRow], fun i _ hi => setRow_other w f i _ hi⟩
          · rw [B8_length, List.length_append, List.length_take, List.length_drop]; omega
          · rw [← hcs]
            simp only [List.size_toArray, List.length_append, List.length_take, List.length_drop, hcl, Array.length_toList]
            show min 0 cur.size + (min k n + (cur.size - (0 + min k n))) = cur.size
            omega
          · have hj : (B8 (lc.take n)).length = min k n := hcl
            simp only [List.take_zero, List.nil_append]
            rw [hj, Nat.zero_add, List.take_append, List.take_of_length_le (by omega), hj, B8_append]
            congr 1
            have h3 : List.drop (min k n) (List.take (m * 1) cur.toList) = List.drop (min k n) (B8 l) := by rw [htake]
            rw [List.drop_take] at h3
            rw [h3]
            simp [B8, List.map_drop]
end Ow
end Go.Proofs.Yteaokgolnhdloaa
