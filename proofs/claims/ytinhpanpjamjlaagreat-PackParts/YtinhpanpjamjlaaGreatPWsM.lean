/- PackWrites: two writers in memory, the script beside them. -/
import Derived.Test.YtinhpanpjamjlaaGreatPPaO
import Derived.Test.YtinhpanpjamjlaaGreatPRefW
namespace Go.Proofs.YtinhpanpjamjlaaGreat
namespace Wm
open Go.RowKit Go.Deep

theorem wset_ltW {w : World} {p : Nat} {v : Value} {s : K.WS} (h : Wr w p v s) {k : Nat} (hk : Wset p v k) : k < w.heap.size := by
  rcases hk with rfl | hk
  · exact (Array.getElem?_eq_some_iff.1 h.blk).1
  · exact (h.row.lt k hk).2
theorem wset_ltV {w : World} {p : Nat} {v : Value} {s : K.WS} (h : Vr w p v s) {k : Nat} (hk : Wset p v k) : k < w.heap.size := by
  rcases hk with rfl | hk
  · exact (Array.getElem?_eq_some_iff.1 h.blk).1
  · exact (h.row.lt k hk).2
/-- two writers, each in blocks of its own -/
structure St (w0 w : World) (p : Nat) (vW : Value) (q : Nat) (vV : Value) (s : K.WS) (s' : K.WS) : Prop where
  wr : Wr w p vW s
  vr : Vr w q vV s'
  wv : ∀ k, Wset p vW k → ¬ Wset q vV k
  gw : ∀ k, Wset p vW k → w0.heap.size ≤ k
  gv : ∀ k, Wset q vV k → w0.heap.size ≤ k
  bl : Below w0.heap.size w0 w
section
variable {w0 w w' : World} {p q : Nat} {vW vV : Value} {sW sV : K.WS}
theorem St.atW (h : St w0 w p vW q vV sW sV) : WAt (Wset p vW) w p sW w := ⟨Keep.refl _ _, vW, h.wr, fun _ hk => .inl hk⟩
theorem St.atV (h : St w0 w p vW q vV sW sV) : VAt (Wset q vV) w q sV w := ⟨Keep.refl _ _, vV, h.vr, fun _ hk => .inl hk⟩
theorem St.wput (h : St w0 w p vW q vV sW sV) {s' : K.WS} (a : WAt (Wset p vW) w p s' w') : ∃ v', St w0 w' p v' q vV s' sV := by
  obtain ⟨v', hw, hs⟩ := a.wr
  have hsz := h.bl.size
  have hnot : ∀ k, k < w.heap.size → ¬ Wset p vW k → ¬ Wset p v' k := fun k h1 h2 h3 => by
    rcases hs k h3 with h4 | h4
    · exact h2 h4
    · omega
  refine ⟨v', hw, h.vr.keep a.keep (fun k hk hw => h.wv k hw hk), fun k hk hv => hnot k (wset_ltV h.vr hv) (fun h5 => h.wv k h5 hv) hk, fun k hk => ?_, h.gv, h.bl.trans (a.keep.below hsz h.gw)⟩
  rcases hs k hk with h4 | h4
  · exact h.gw k h4
  · omega
theorem St.vput (h : St w0 w p vW q vV sW sV) {s' : K.WS} (a : VAt (Wset q vV) w q s' w') : ∃ v', St w0 w' p vW q v' sW s' := by
  obtain ⟨v', hw, hs⟩ := a.wr
  have hsz := h.bl.size
  have hnot : ∀ k, k < w.heap.size → ¬ Wset q vV k → ¬ Wset q v' k := fun k h1 h2 h3 => by
    rcases hs k h3 with h4 | h4
    · exact h2 h4
    · omega
  refine ⟨v', h.wr.keep a.keep (fun k hk hw => h.wv k hk hw), hw, fun k hk hv => hnot k (wset_ltW h.wr hk) (fun h5 => h.wv k hk h5) hv, h.gw, fun k hk => ?_, h.bl.trans (a.keep.below hsz h.gv)⟩
  rcases hs k hk with h4 | h4
  · exact h.gv k h4
  · omega
theorem St.new (h : St w0 w p vW q vV sW sV) (b : Below w.heap.size w w') : St w0 w' p vW q vV sW sV := by
  have a : Keep (fun _ => False) w w' := Keep.ofBelow b (Nat.le_refl _)
  exact ⟨h.wr.keep a fun _ _ f => f, h.vr.keep a fun _ _ f => f, h.wv, h.gw, h.gv, h.bl.trans (b.mono h.bl.size)⟩
theorem St.begin {w1 w2 w3 : World} {p q : Nat} {s1 s2 : K.WS} (hb : Below w0.heap.size w0 w1) (h1 : WAt (fun k => w1.heap.size ≤ k) w1 p s1 w2) (h2 : VAt (fun k => w2.heap.size ≤ k) w2 q s2 w3) : ∃ v u, St w0 w3 p v q u s1 s2 := by
  obtain ⟨v, hv, hs⟩ := h1.wr
  obtain ⟨u, hu, ht⟩ := h2.wr
  have k3 : Keep (fun k => w2.heap.size ≤ k) w2 w3 := h2.keep
  have z1 := hb.size
  have z2 := h1.keep.size
  have z3 := h2.keep.size
  have hv3 : Wr w3 p v s1 := hv.keep k3 fun k hk hle => by have := wset_ltW hv hk; omega
  have lv : ∀ k, Wset p v k → w1.heap.size ≤ k := fun k hk => (hs k hk).elim id id
  have lu : ∀ k, Wset q u k → w2.heap.size ≤ k := fun k hk => (ht k hk).elim id id
  refine ⟨v, u, hv3, hu, fun k h5 h6 => ?_, fun k hk => ?_, fun k hk => ?_, (hb.trans (h1.keep.below z1 fun i hi => by omega)).trans (h2.keep.below (by omega) fun i hi => by omega)⟩
  · have := wset_ltW hv h5; have := lu k h6; omega
  · have := lv k hk; omega
  · have := lu k hk; omega
end
/-- a step stays as it is -/
theorem els_wide {D : Nat → Prop} {W w : World} {a : Option Addr} {n : Nat} {vs : List Value} (h : Els (fun k => k < W.heap.size) W a n vs) (hb : Below W.heap.size W w) (hD : ∀ k, k < W.heap.size → D k) : Els D w a n vs := els_keep h hb hD
theorem Sp.Ok.keep {q : Sp} {D : Nat → Prop} {W w : World} (h : q.Ok (fun k => k < W.heap.size) W) (hb : Below W.heap.size W w) (hD : ∀ k, k < W.heap.size → D k) : q.Ok D w :=
  ⟨h.w1, h.w2, h.n2, h.x, h.s, h.b.keep hb, h.b0, h.bn, fun h0 b off e => hD b (h.bd h0 b off e), els_wide h.l hb hD, h.ly, h.ln, els_wide h.t hb hD, h.ty, els_wide h.d hb hD, h.dl.1, fun i x l hx hl => by
    obtain ⟨a, n, c, e, he, hy⟩ := h.dl.2 i x l hx hl
    exact ⟨a, n, c, e, els_wide he hb hD, hy⟩⟩
theorem RdSp.row {W : World} {a : Option Addr} {n : Nat} {qs : List Sp} (h : RdSp W a n qs) {i : Nat} (hi : i < n) : ∃ q b off, qs[i]? = some q ∧ a = some ⟨b, off, none⟩ ∧ q.Ok (fun k => k < W.heap.size) W ∧ ∀ w, Below W.heap.size W w → w.rangeAt b (off + i * 11) q.row := by
  obtain ⟨q, hq⟩ : ∃ q, qs[i]? = some q := ⟨_, List.getElem?_eq_getElem (by have := h.1; omega)⟩
  rcases h.2.2.2 with h0 | ⟨b, off, e, hc⟩
  · omega
  · refine ⟨q, b, off, hq, e, h.2.2.1 q (List.mem_of_getElem? hq), fun w hb j u hu => ?_⟩
    have := hc i q hq j u hu
    rw [hb.cell (p := ⟨b, off + i * 11 + j, none⟩) (block_lt_of_cell this)]
    exact this
theorem St.dW {w0 w : World} {p q : Nat} {vW vV : Value} {sW sV : K.WS} (h : St w0 w p vW q vV sW sV) : ∀ k, k < w0.heap.size → (¬ Wset p vW k ∧ k < w.heap.size) := fun k hk => ⟨fun h1 => by have := h.gw k h1; omega, Nat.lt_of_lt_of_le hk h.bl.size⟩
theorem St.dV {w0 w : World} {p q : Nat} {vW vV : Value} {sW sV : K.WS} (h : St w0 w p vW q vV sW sV) : ∀ k, k < w0.heap.size → (¬ Wset q vV k ∧ k < w.heap.size) := fun k hk => ⟨fun h1 => by have := h.gv k h1; omega, Nat.lt_of_lt_of_le hk h.bl.size⟩
/-- what came out, read -/
theorem rd_out {w w' : World} {a : Option Addr} {n c : Nat} {l : List Nat} (h : w.ownsRow 0 5 1 (.slice a n c) l.length (B8 l)) (hd : ∀ d ∈ l, d < 256) (hs : l.length < 281474976710656) (hb : Below w.heap.size w w') : Rd w' a n l := by
  obtain ⟨a', c', e, h1, h2, _⟩ := ownsRow_rd h hd hs
  injection e with e1 e2 e3
  subst e1 e2 e3
  exact h1.keep hb
theorem info_step : (Tryz.prog.info? 35).map (·.size) = some 11 := by kernel_rfl
/-- the scripts' effect -/
def runS (qs : List Sp) (s : K.WS) : K.WS := qs.foldl (fun s q => q.eff s) s
theorem run_succ {qs : List Sp} {i : Nat} {q : Sp} (h : qs[i]? = some q) (s : K.WS) : runS (qs.take (i + 1)) s = q.eff (runS (qs.take i) s) := by
  unfold runS
  rw [List.take_add_one, h, Option.toList_some, List.foldl_append]
  rfl
end Wm
end Go.Proofs.YtinhpanpjamjlaaGreat
