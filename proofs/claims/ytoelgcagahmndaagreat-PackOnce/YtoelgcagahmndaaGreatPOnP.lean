import Derived.Test.YtoelgcagahmndaaGreatPTh4
import Derived.Test.YtoelgcagahmndaaGreatPWsM
/- PackOnce: two writers and two readers side by side. -/
namespace Go.Proofs.YtoelgcagahmndaaGreat
namespace Wm
open Go.RowKit Go.Deep

theorem MakeT (fn1 fn2 : FuncId) (cap1 cap2 : Array Value) (w : World) :
    Calls Tryz.prog 7 #[.func (.func fn1) #[] cap1, .func (.func fn2) #[] cap2] w fun en w' => en = .returned (.agg #[.func (.func fn1) #[] cap1, .func (.func fn2) #[] cap2]) ∧ Below w.heap.size w w' := by
  go_enter Tryz.func7, Tryz.ntmps7
  go_wp2
  simp [bodyPost, results, Tryz.results7, go_sem]
  exact (Below.refl _ _).alloc (Nat.le_refl _) _
theorem no3 {v : Value} {a : Option Addr} {n c : Nat} (h : v = .slice a n c) (x y : Int) : NoU #[v, .int .i64 x, .int .i64 y] := fun j z => by
  subst h
  match j with
  | 0 => simp
  | 1 => simp
  | 2 => simp
  | j + 3 => simp
theorem Wr.noU {w : World} {p : Nat} {v : Value} {s : K.WS} (h : Wr w p v s) : ∃ cs, w.heap[p]? = some (.cells cs 120 (0, 0)) ∧ NoU cs := by
  obtain ⟨a, c, e⟩ := ownsRow_shape h.row
  exact ⟨_, h.blk, no3 e _ _⟩
theorem Vr.noU {w : World} {p : Nat} {v : Value} {s : K.WS} (h : Vr w p v s) : ∃ cs, w.heap[p]? = some (.cells cs 48 (0, 0)) ∧ NoU cs := by
  obtain ⟨a, c, e⟩ := ownsRow_shape h.row
  exact ⟨_, h.blk, no3 e _ _⟩
theorem Rr.noU {w : World} {q : Nat} {s : K.RS} (h : Rr w q s) : ∃ cs, w.heap[q]? = some (.cells cs 108 (0, 0)) ∧ NoU cs := by
  obtain ⟨a, c, h1, _⟩ := h.ex
  exact ⟨_, h1, no3 rfl _ _⟩
theorem Qr.noU {w : World} {q : Nat} {s : K.RS} (h : Qr w q s) : ∃ cs, w.heap[q]? = some (.cells cs 59 (0, 0)) ∧ NoU cs := by
  obtain ⟨a, c, h1, _⟩ := h.ex
  exact ⟨_, h1, no3 rfl _ _⟩
theorem neT {w : World} {a b : Nat} {ca cb : Array Value} {ta tb : TypeId} (ha : w.heap[a]? = some (.cells ca ta (0, 0))) (hb : w.heap[b]? = some (.cells cb tb (0, 0))) (h : ta ≠ tb) : a ≠ b := fun e => by
  rw [e, hb] at ha
  injection ha with ha
  injection ha with _ ha
  exact h ha.symm
theorem Vr.not {w : World} {p : Nat} {v : Value} {s : K.WS} (hv : Vr w p v s) {g : Nat} {cs : Array Value} {t : TypeId} (hx : w.heap[g]? = some (.cells cs t (0, 0))) (h1 : t ≠ 48) (h2 : t ≠ 5) : ¬ Wset p v g := by
  rintro (e | e)
  · subst e
    rw [hv.blk] at hx
    injection hx with hx
    injection hx with _ hx
    exact h1 hx.symm
  · rcases hv.row.2 with ⟨e', _⟩ | ⟨g', cap, cur, e', _, hg', _⟩
    · rw [e'] at e; cases e
    · rw [e'] at e
      have e2 : g' = g := by simpa [Value.ownBlock] using e
      subst e2
      rw [hx] at hg'
      injection hg' with hg'
      injection hg' with _ hg'
      exact h2 hg'
/-- two writers and two readers; all made behind w0 -/
structure On (w0 w : World) (p : Nat) (v : Value) (q : Nat) (u : Value) (r m : Nat) (sW sV : K.WS) (sR sQ : K.RS) : Prop where
  st : St w0 w p v q u sW sV
  rr : Rr w r sR
  qr : Qr w m sQ
  rm : r < m
  rB : w0.heap.size ≤ r
  hv : ∀ k, v.ownBlock = some k → m < k
  hu : ∀ k, u.ownBlock = some k → m < k
section
variable {w0 w w' : World} {p q r m : Nat} {v u : Value} {sW sV : K.WS} {sR sQ : K.RS}
theorem St.wput' {v' : Value} {s' : K.WS} (h : St w0 w p v q u sW sV) (a : Keep (Wset p v) w w') (hw : Wr w' p v' s') (hs : ∀ k, Wset p v' k → Wset p v k ∨ w.heap.size ≤ k) : St w0 w' p v' q u s' sV := by
  have hsz := h.bl.size
  refine ⟨hw, h.vr.keep a (fun k hk hw => h.wv k hw hk), fun k hk hv => ?_, fun k hk => ?_, h.gv, h.bl.trans (a.below hsz h.gw)⟩
  · rcases hs k hk with h4 | h4
    · exact h.wv k h4 hv
    · have := wset_ltV h.vr hv; omega
  · rcases hs k hk with h4 | h4
    · exact h.gw k h4
    · omega
theorem St.vput' {v' : Value} {s' : K.WS} (h : St w0 w p v q u sW sV) (a : Keep (Wset q u) w w') (hw : Vr w' q v' s') (hs : ∀ k, Wset q v' k → Wset q u k ∨ w.heap.size ≤ k) : St w0 w' p v q v' sW s' := by
  have hsz := h.bl.size
  refine ⟨h.wr.keep a (fun k hk hw => h.wv k hk hw), hw, fun k hk hv => ?_, h.gw, fun k hk => ?_, h.bl.trans (a.below hsz h.gv)⟩
  · rcases hs k hv with h4 | h4
    · exact h.wv k hk h4
    · have := wset_ltW h.wr hk; omega
  · rcases hs k hk with h4 | h4
    · exact h.gv k h4
    · omega
theorem On.offW (h : On w0 w p v q u r m sW sV sR sQ) {x : Nat} (hx : x ≤ m) (hpx : p ≠ x) : ∀ k, Wset p v k → x < k ∨ ∃ cs T fr, w.heap[k]? = some (.cells cs T fr) ∧ NoU cs ∧ k ≠ x := fun k hk => by
  rcases hk with rfl | hk
  · obtain ⟨cs, h1, h2⟩ := Wr.noU h.st.wr
    exact .inr ⟨cs, _, _, h1, h2, hpx⟩
  · exact .inl (Nat.lt_of_le_of_lt hx (h.hv k hk))
theorem On.offV (h : On w0 w p v q u r m sW sV sR sQ) {x : Nat} (hx : x ≤ m) (hpx : q ≠ x) : ∀ k, Wset q u k → x < k ∨ ∃ cs T fr, w.heap[k]? = some (.cells cs T fr) ∧ NoU cs ∧ k ≠ x := fun k hk => by
  rcases hk with rfl | hk
  · obtain ⟨cs, h1, h2⟩ := Vr.noU h.st.vr
    exact .inr ⟨cs, _, _, h1, h2, hpx⟩
  · exact .inl (Nat.lt_of_le_of_lt hx (h.hu k hk))
theorem On.pr (h : On w0 w p v q u r m sW sV sR sQ) : p ≠ r ∧ p ≠ m ∧ q ≠ r ∧ q ≠ m := by
  obtain ⟨_, hr, _⟩ := Rr.noU h.rr
  obtain ⟨_, hm, _⟩ := Qr.noU h.qr
  exact ⟨neT h.st.wr.blk hr (by decide), neT h.st.wr.blk hm (by decide), neT h.st.vr.blk hr (by decide), neT h.st.vr.blk hm (by decide)⟩
theorem On.wput {s' : K.WS} (h : On w0 w p v q u r m sW sV sR sQ) (a : WAt (Wset p v) w p s' w') : ∃ v', On w0 w' p v' q u r m s' sV sR sQ := by
  obtain ⟨v', hw, hs⟩ := a.wr
  refine ⟨v', St.wput' h.st a.keep hw hs, Rr.off h.rr a.keep (h.offW (Nat.le_of_lt h.rm) h.pr.1), Qr.off h.qr a.keep (h.offW (Nat.le_refl _) h.pr.2.1), h.rm, h.rB, fun k hk => ?_, h.hu⟩
  rcases hs k (.inr hk) with h4 | h4
  · rcases h4 with h4 | h4
    · exact absurd (h4 ▸ hk) hw.ne
    · exact h.hv k h4
  · have := h.qr.lt; omega
theorem On.vput {s' : K.WS} (h : On w0 w p v q u r m sW sV sR sQ) (a : VAt (Wset q u) w q s' w') : ∃ u', On w0 w' p v q u' r m sW s' sR sQ := by
  obtain ⟨v', hw, hs⟩ := a.wr
  refine ⟨v', St.vput' h.st a.keep hw hs, Rr.off h.rr a.keep (h.offV (Nat.le_of_lt h.rm) h.pr.2.2.1), Qr.off h.qr a.keep (h.offV (Nat.le_refl _) h.pr.2.2.2), h.rm, h.rB, h.hv, fun k hk => ?_⟩
  rcases hs k (.inr hk) with h4 | h4
  · rcases h4 with h4 | h4
    · exact absurd (h4 ▸ hk) hw.ne
    · exact h.hu k h4
  · have := h.qr.lt; omega
theorem On.rtook {s' : K.RS} (h : On w0 w p v q u r m sW sV sR sQ) (hr : Rr w' r s') (hk : Keep (fun k => k = r) w w') : On w0 w' p v q u r m sW sV s' sQ := by
  obtain ⟨cs, h1, h2⟩ := Rr.noU h.rr
  have n1 : ¬ Wset p v r := h.st.wr.not h1 (by decide) (by decide)
  have n2 : ¬ Wset q u r := Vr.not h.st.vr h1 (by decide) (by decide)
  refine ⟨⟨h.st.wr.keep hk fun k hk e => n1 (e ▸ hk), h.st.vr.keep hk fun k hk e => n2 (e ▸ hk), h.st.wv, h.st.gw, h.st.gv, h.st.bl.trans (hk.below h.st.bl.size fun k e => by rw [e]; exact h.rB)⟩, hr, Qr.off h.qr hk fun k e => .inr ⟨cs, _, _, e ▸ h1, h2, by have : k = r := e; have := h.rm; omega⟩, h.rm, h.rB, h.hv, h.hu⟩
theorem On.qtook {s' : K.RS} (h : On w0 w p v q u r m sW sV sR sQ) (hr : Qr w' m s') (hk : Keep (fun k => k = m) w w') : On w0 w' p v q u r m sW sV sR s' := by
  obtain ⟨cs, h1, h2⟩ := Qr.noU h.qr
  have n1 : ¬ Wset p v m := h.st.wr.not h1 (by decide) (by decide)
  have n2 : ¬ Wset q u m := Vr.not h.st.vr h1 (by decide) (by decide)
  refine ⟨⟨h.st.wr.keep hk fun k hk e => n1 (e ▸ hk), h.st.vr.keep hk fun k hk e => n2 (e ▸ hk), h.st.wv, h.st.gw, h.st.gv, h.st.bl.trans (hk.below h.st.bl.size fun k e => by rw [e]; exact Nat.le_trans h.rB (Nat.le_of_lt h.rm))⟩, h.rr.stay hk (fun k hk e => by have : k = m := e; have := h.rm; omega), hr, h.rm, h.rB, h.hv, h.hu⟩
theorem On.new (h : On w0 w p v q u r m sW sV sR sQ) (b : Below w.heap.size w w') : On w0 w' p v q u r m sW sV sR sQ := ⟨h.st.new b, h.rr.below b, h.qr.below b, h.rm, h.rB, h.hv, h.hu⟩
end
/-- behind the form's put: the writers' state s, the readers' t, the boxes -/
structure Af (w : World) (p q r m xb cb tb fb : Nat) (s : K.WS) (t t' : K.RS) (c n0 : Int) (st0 : ByteArray) (n : Int) (st : ByteArray) (fc : Array Value) : Prop where
  wr : ∃ v, Wr w p v s
  vr : ∃ u, Vr w q u s
  rr : Rr w r t
  qr : Qr w m t'
  x : w.heap[xb]? = some (thB n st)
  c : w.heap[cb]? = some (numB c)
  t : w.heap[tb]? = some (thB n0 st0)
  f : w.heap[fb]? = some (.cells fc 37 (0, 0))
theorem Af.new {w w' : World} {p q r m xb cb tb fb : Nat} {s : K.WS} {t t' : K.RS} {c n0 : Int} {st0 : ByteArray} {n : Int} {st : ByteArray} {fc : Array Value} (h : Af w p q r m xb cb tb fb s t t' c n0 st0 n st fc) (b : Below w.heap.size w w') : Af w' p q r m xb cb tb fb s t t' c n0 st0 n st fc := by
  obtain ⟨v, hv⟩ := h.wr
  obtain ⟨u, hu⟩ := h.vr
  have a : Keep (fun _ => False) w w' := Keep.ofBelow b (Nat.le_refl _)
  exact ⟨⟨v, hv.keep a fun _ _ f => f⟩, ⟨u, hu.keep a fun _ _ f => f⟩, h.rr.below b, h.qr.below b, blkB h.x b, blkB h.c b, blkB h.t b, blkB h.f b⟩
theorem Af.atW {w : World} {p q r m xb cb tb fb : Nat} {s : K.WS} {t t' : K.RS} {c n0 : Int} {st0 : ByteArray} {n : Int} {st : ByteArray} {fc : Array Value} (h : Af w p q r m xb cb tb fb s t t' c n0 st0 n st fc) : ∃ v, WAt (Wset p v) w p s w := by
  obtain ⟨v, hv⟩ := h.wr
  exact ⟨v, Keep.refl _ _, v, hv, fun _ hk => .inl hk⟩
theorem Af.atV {w : World} {p q r m xb cb tb fb : Nat} {s : K.WS} {t t' : K.RS} {c n0 : Int} {st0 : ByteArray} {n : Int} {st : ByteArray} {fc : Array Value} (h : Af w p q r m xb cb tb fb s t t' c n0 st0 n st fc) : ∃ v, VAt (Wset q v) w q s w := by
  obtain ⟨v, hv⟩ := h.vr
  exact ⟨v, Keep.refl _ _, v, hv, fun _ hk => .inl hk⟩
theorem Put1.base {p cb tb : Nat} {v : Value} {s' : K.WS} {n : Int} {st : ByteArray} {c : Int} {w w1 w' : World} (h : Put1 p cb tb v s' n st c w1 w') (b : Below w.heap.size w w1) : Put1 p cb tb v s' n st c w w' := by
  obtain ⟨v', h1, h2⟩ := h.wr
  exact ⟨⟨v', h1, fun k hk => (h2 k hk).imp id fun h => Nat.le_trans b.size h⟩, h.cn, h.tl, (Keep.ofBelow b (Nat.le_refl _)).more h.keep⟩
/-- the law's boxes -/
structure Bx (w0 w : World) (xb cb tb fb : Nat) (n : Int) (st : ByteArray) (fc : Array Value) : Prop where
  x : w.heap[xb]? = some (thB n st)
  c : w.heap[cb]? = some (numB 0)
  t : w.heap[tb]? = some (thB 0 ⟨#[]⟩)
  f : w.heap[fb]? = some (.cells fc 37 (0, 0))
  gx : w0.heap.size ≤ xb
  gc : w0.heap.size ≤ cb
  gt : w0.heap.size ≤ tb
  xt : xb ≠ tb
  bl : Below w0.heap.size w0 w
theorem On.af0 {w00 w0 w : World} {p q r m xb cb tb fb : Nat} {v u : Value} {s : K.WS} {t t' : K.RS} {n : Int} {st : ByteArray} {fc : Array Value} (h : On w0 w p v q u r m s s t t') (b : Bx w00 w0 xb cb tb fb n st fc) : Af w p q r m xb cb tb fb s t t' 0 0 ⟨#[]⟩ n st fc := by
  have h1 : ∀ {k o}, w0.heap[k]? = some o → w.heap[k]? = some o := fun hk => blkB hk h.st.bl
  exact ⟨⟨v, h.st.wr⟩, ⟨u, h.st.vr⟩, h.rr, h.qr, h1 b.x, h1 b.c, h1 b.t, h1 b.f⟩
theorem On.af1 {w00 w0 w w' : World} {p q r m xb cb tb fb : Nat} {v u : Value} {s s1 : K.WS} {t t' : K.RS} {n : Int} {st : ByteArray} {fc : Array Value} (h : On w0 w p v q u r m s s1 t t') (b : Bx w00 w0 xb cb tb fb n st fc) (hp : Put1 p cb tb v s1 n st 1 w w') :
    Af w' p q r m xb cb tb fb s1 t t' 1 n st n st fc ∧ Below w00.heap.size w00 w' := by
  have h1 : ∀ {k o}, w0.heap[k]? = some o → w.heap[k]? = some o := fun hk => blkB hk h.st.bl
  have l1 : ∀ {k o}, w0.heap[k]? = some o → k < w0.heap.size := fun hk => (Array.getElem?_eq_some_iff.1 hk).1
  have lc := l1 b.c
  have lt := l1 b.t
  have lx := l1 b.x
  have lf := l1 b.f
  have rB := h.rB
  have hrm := h.rm
  obtain ⟨v', hv', hs'⟩ := hp.wr
  have nW : ∀ k, k < w0.heap.size → ¬ Wset p v k := fun k hk hw => by have := h.st.gw k hw; omega
  have nV : ∀ k, k < w0.heap.size → ¬ Wset q u k := fun k hk hw => by have := h.st.gv k hw; omega
  have off : ∀ x, x ≤ m → p ≠ x → w0.heap.size ≤ x → ∀ k, (Wset p v k ∨ k = cb ∨ k = tb) → x < k ∨ ∃ cs T fr, w.heap[k]? = some (.cells cs T fr) ∧ NoU cs ∧ k ≠ x := fun x hx hpx hxB k hk => by
    rcases hk with hk | rfl | rfl
    · exact h.offW hx hpx k hk
    · exact .inr ⟨_, _, _, h1 b.c, numB_no 0, by omega⟩
    · exact .inr ⟨_, _, _, h1 b.t, thB_no 0 _, by omega⟩
  have kp : ∀ {k o}, w0.heap[k]? = some o → k ≠ cb → k ≠ tb → w'.heap[k]? = some o := fun hk e1 e2 => hp.keep.blk (h1 hk) (by
    rintro (h | h | h)
    · exact nW _ (l1 hk) h
    · exact e1 h
    · exact e2 h)
  refine ⟨⟨⟨v', hv'⟩, ⟨u, h.st.vr.keep hp.keep fun k hk hs => ?_⟩, Rr.off h.rr hp.keep (off r (by omega) h.pr.1 rB), Qr.off h.qr hp.keep (off m (Nat.le_refl _) h.pr.2.1 (by omega)), kp b.x (neT b.x b.c (by decide)) b.xt, hp.cn, hp.tl, kp b.f (neT b.f b.c (by decide)) (neT b.f b.t (by decide))⟩, ?_⟩
  · rcases hs with hs | rfl | rfl
    · exact h.st.wv k hs hk
    · exact nV _ lc hk
    · exact nV _ lt hk
  · have hb := b.bl.trans (h.st.bl.mono b.bl.size)
    have hbs := b.bl.size
    exact hb.trans (hp.keep.below hb.size fun k hk => by
      rcases hk with hk | rfl | rfl
      · exact Nat.le_trans b.bl.size (h.st.gw k hk)
      · exact b.gc
      · exact b.gt)
theorem NewWriterX (m : Int) (w : World) :
    Calls Tryz.prog 30 #[.int .i64 m] w fun en w' => en = .returned (.pointer (some ⟨w.heap.size, 0, none⟩)) ∧ w' = w.alloc (.cells #[.slice none 0 0, .int .i64 (room m : Nat), .int .i64 0] 120) := by
  have h1 := max_run m 0 (max m 0) (by omega)
  have h2 := min_run (max m 0) 16777216 ((room m : Nat) : Int) (by unfold room; omega)
  generalize max m 0 = m1 at *
  generalize room m = m2 at *
  go_enter Tryz.func30, Tryz.ntmps30
  go_wp2
  go_ret
  exact ⟨rfl, rfl⟩
theorem RNewWriterX (m : Int) (w : World) :
    Calls Tryz.prog 13 #[.int .i64 m] w fun en w' => en = .returned (.pointer (some ⟨w.heap.size, 0, none⟩)) ∧ w' = w.alloc (.cells #[.slice none 0 0, .int .i64 (room m : Nat), .int .i64 0] 48) := by
  by_cases h0 : m < 0
  · have hr : room m = 0 := by unfold room; omega
    rw [hr]
    clear hr
    go_enter Tryz.func13, Tryz.ntmps13
    go_wp2
    go_ret
    exact ⟨rfl, rfl⟩
  · by_cases h1 : 16777216 < m
    · have hr : room m = 16777216 := by unfold room; omega
      rw [hr]
      clear hr
      go_enter Tryz.func13, Tryz.ntmps13
      go_wp2
      go_ret
      exact ⟨rfl, rfl⟩
    · have hr : ((room m : Nat) : Int) = m := by unfold room; omega
      rw [hr]
      clear hr
      go_enter Tryz.func13, Tryz.ntmps13
      go_wp2
      go_ret
      exact ⟨rfl, rfl⟩
theorem On.begin {w0 w8 w9 : World} {k r m : Nat} {sR sQ : K.RS} (hk : k ≤ 16777216)
    (h8 : Below ((w0.alloc (.cells #[.slice none 0 0, .int .i64 (k : Nat), .int .i64 0] 120)).alloc (.cells #[.slice none 0 0, .int .i64 (k : Nat), .int .i64 0] 48)).heap.size ((w0.alloc (.cells #[.slice none 0 0, .int .i64 (k : Nat), .int .i64 0] 120)).alloc (.cells #[.slice none 0 0, .int .i64 (k : Nat), .int .i64 0] 48)) w8)
    (hr : Rr w8 r sR) (gr : ((w0.alloc (.cells #[.slice none 0 0, .int .i64 (k : Nat), .int .i64 0] 120)).alloc (.cells #[.slice none 0 0, .int .i64 (k : Nat), .int .i64 0] 48)).heap.size ≤ r)
    (h9 : Below w8.heap.size w8 w9) (hm : Qr w9 m sQ) (gm : w8.heap.size ≤ m) :
    On w0 w9 w0.heap.size (.slice none 0 0) (w0.heap.size + 1) (.slice none 0 0) r m ⟨[], k, 0⟩ ⟨[], k, 0⟩ sR sQ := by
  have e1 := heap_alloc_new w0 (.cells #[.slice none 0 0, .int .i64 (k : Nat), .int .i64 0] 120)
  have e2 : ((w0.alloc (.cells #[.slice none 0 0, .int .i64 (k : Nat), .int .i64 0] 120)).alloc (.cells #[.slice none 0 0, .int .i64 (k : Nat), .int .i64 0] 48)).heap[w0.heap.size]? = _ := (Keep.alloc (fun _ => False) _ _).blk e1 fun f => f
  have e3 : ((w0.alloc (.cells #[.slice none 0 0, .int .i64 (k : Nat), .int .i64 0] 120)).alloc (.cells #[.slice none 0 0, .int .i64 (k : Nat), .int .i64 0] 48)).heap[w0.heap.size + 1]? = some (.cells #[.slice none 0 0, .int .i64 (k : Nat), .int .i64 0] 48 (0, 0)) := by
    have := heap_alloc_new (w0.alloc (.cells #[.slice none 0 0, .int .i64 (k : Nat), .int .i64 0] 120)) (.cells #[.slice none 0 0, .int .i64 (k : Nat), .int .i64 0] 48)
    simpa using this
  have hb : Below w0.heap.size w0 ((w0.alloc (.cells #[.slice none 0 0, .int .i64 (k : Nat), .int .i64 0] 120)).alloc (.cells #[.slice none 0 0, .int .i64 (k : Nat), .int .i64 0] 48)) := ((Below.refl _ _).alloc (Nat.le_refl _) _).alloc (by simp) _
  generalize (w0.alloc (.cells #[.slice none 0 0, .int .i64 (k : Nat), .int .i64 0] 120)).alloc (.cells #[.slice none 0 0, .int .i64 (k : Nat), .int .i64 0] 48) = w7 at *
  have hp := blkB (blkB e2 h8) h9
  have hq := blkB (blkB e3 h8) h9
  have z := h8.size
  have hs7 := hb.size
  have hbl := (hb.trans (h8.mono hb.size)).trans (h9.mono (by omega))
  have hrl := hr.lt
  refine ⟨⟨⟨hp, World.ownsRow_nil _ _ _ _, (fun d hd => by cases hd), Nat.zero_le _, hk⟩, ⟨hq, World.ownsRow_nil _ _ _ _, (fun d hd => by cases hd), Nat.zero_le _, hk⟩, ?_, ?_, ?_, hbl⟩, hr.below h9, hm, by omega, by omega, (fun k h => by cases h), fun k h => by cases h⟩
  · rintro k (rfl | h) (h' | h')
    · omega
    · cases h'
    · cases h
    · cases h
  · rintro k (rfl | h)
    · exact Nat.le_refl _
    · cases h
  · rintro k (rfl | h)
    · omega
    · cases h
end Wm
end Go.Proofs.YtoelgcagahmndaaGreat

/- PackOnce: its form's Put and Take. -/
namespace Go.Proofs.YtoelgcagahmndaaGreat
namespace Wm
open Go.RowKit Go.Deep

/-- the law's form, in memory -/
def onF (cb tb : Nat) : Array Value := #[.func (.func 28) #[] #[.pointer (some ⟨cb, 0, none⟩), .pointer (some ⟨tb, 0, none⟩)], .func (.func 29) #[] #[.pointer (some ⟨cb, 0, none⟩)]]
theorem putOnce1 (p cb tb : Nat) (v : Value) (s : K.WS) (n : Int) (hn : n ≤ 9223372036854775807) (st : ByteArray) (hst : st.size ≤ 140737488351232) (w : World) (h : Wr w p v s) (hc : w.heap[cb]? = some (numB 0)) (ht : w.heap[tb]? = some (thB 0 ⟨#[]⟩)) (hz : s.fault = 0) :
    Calls Tryz.prog 35 #[.agg (onF cb tb), .pointer (some ⟨p, 0, none⟩), .agg #[.int .i64 n, .string st]] w fun en w' => en = .returned (.tuple #[]) ∧ Put1 p cb tb v (layE n st s) n st 1 w w' := by
  refine PutT p _ _ _ _ n st v s w h (fun w' => Put1 p cb tb v (layE n st s) n st 1 w w') (fun h => absurd hz h) (fun _ w1 hb => ?_) ent_once1
  have := (once1 p cb tb v s n hn st hst 0 0 ⟨#[]⟩ (by decide) w1 (h.keep (S := fun _ => False) (Keep.ofBelow hb (Nat.le_refl _)) fun _ _ f => f) (blkB hc hb) (blkB ht hb)).mono fun en w' h => (⟨h.1, h.2.base hb⟩ : en = .returned (.tuple #[]) ∧ Put1 p cb tb v (layE n st s) n st (0 + 1) w w')
  exact this
theorem putOnce0 (p cb tb : Nat) (v : Value) (s : K.WS) (n : Int) (st : ByteArray) (w : World) (h : Wr w p v s) (hz : s.fault ≠ 0) :
    Calls Tryz.prog 35 #[.agg (onF cb tb), .pointer (some ⟨p, 0, none⟩), .agg #[.int .i64 n, .string st]] w fun en w' => en = .returned (.tuple #[]) ∧ Below w.heap.size w w' :=
  PutT p _ _ _ _ n st v s w h (fun w' => Below w.heap.size w w') (fun _ _ hb => hb) (fun h => absurd h hz) ent_once1
def cnt2 (t : K.RS) (c : Int) : Int := if t.fault = 0 then c + 100 else c
theorem takeOnce (r cb tb : Nat) (t : K.RS) (c : Int) (hw : IntKind.i64.wrap (c + 100) = c + 100) (w : World) (h : Rr w r t) (hc : w.heap[cb]? = some (numB c)) :
    Calls Tryz.prog 37 #[.agg (onF cb tb), .pointer (some ⟨r, 0, none⟩)] w fun en w' => en = .returned (.agg (if (takeR getE t).fault = 0 then #[.int .i64 (getN t), .string (getS t)] else zT)) ∧ Keep (fun k => k = r ∨ k = cb) w w' ∧ Tk2 r cb (takeR getE t) (cnt2 t c) w' := by
  have lc := (Array.getElem?_eq_some_iff.1 hc).1
  refine TakeT r _ _ _ _ (getN t) (getS t) (fun k => k = r ∨ k = cb) (Tk2 r cb (takeR getE t) (cnt2 t c)) t (takeR getE t) w h (fun k hk => by
    rcases hk with rfl | rfl
    · exact h.lt
    · exact lc) (Tk2.firm h.lt lc) (fun w1 h => h.rd) (fun hz w1 hb => ?_) (fun hz => ?_) ent_once2
  · have e1 : takeR getE t = getE t := by unfold takeR; rw [if_pos hz]
    have e2 : cnt2 t c = c + 100 := if_pos hz
    rw [e1, e2]
    exact once2 r cb t c hw w1 (h.below hb) (blkB hc hb)
  · have e1 : takeR getE t = t := by unfold takeR; rw [if_neg hz]
    have e2 : cnt2 t c = c := if_neg hz
    rw [e1, e2]
    exact ⟨hz, fun w1 hb => ⟨h.below hb, blkB hc hb⟩⟩
end Wm
end Go.Proofs.YtoelgcagahmndaaGreat
