import Derived.Test.YtoelgcagahmndaaGreatPTh4
import Derived.Test.YtoelgcagahmndaaGreatPTn2
import Derived.Deep.MidRow
import Derived.Laws.StructEq
import Derived.BigQuiet
import Derived.Test.YtoelgcagahmndaaGreatPWsM
/- PackThings: rows of things. -/
namespace Go.Proofs.YtoelgcagahmndaaGreat
namespace Wm
open Go.RowKit Go.Deep

abbrev Tg := Int × ByteArray
def Tg.row (x : Tg) : List Value := [.int .i64 x.1, .string x.2]
def flT (xs : List Tg) : List Value := (xs.map Tg.row).flatten
theorem flT_snoc (xs : List Tg) (x : Tg) : flT (xs ++ [x]) = flT xs ++ Tg.row x := by simp [flT]
theorem flT_get (qs : List Tg) (i j : Nat) (q : Tg) (u : Value) (hq : qs[i]? = some q) (hu : (Tg.row q)[j]? = some u) : (flT qs)[i * 2 + j]? = some u := by
  induction qs generalizing i with
  | nil => simp at hq
  | cons p qs ih =>
    have hl : ∀ q : Tg, (Tg.row q).length = 2 := fun q => rfl
    have e : flT (p :: qs) = Tg.row p ++ flT qs := by simp [flT]
    have hj : j < 2 := by rw [← hl q]; exact (List.getElem?_eq_some_iff.1 hu).1
    rw [e]
    cases i with
    | zero =>
      simp only [List.getElem?_cons_zero, Option.some.injEq] at hq
      subst hq
      rw [Nat.zero_mul, Nat.zero_add, List.getElem?_append_left (by rw [hl]; omega)]
      exact hu
    | succ i =>
      simp only [List.getElem?_cons_succ] at hq
      rw [List.getElem?_append_right (by rw [hl]; omega), hl, show (i + 1) * 2 + j - 2 = i * 2 + j by omega]
      exact ih i hq
/-- things that can be read, in blocks of D -/
def RdT (D : Nat → Prop) (w : World) (a : Option Addr) (n : Nat) (xs : List Tg) : Prop :=
  n = xs.length ∧ n ≤ 140737488351232 ∧ (n = 0 ∨ ∃ b off, a = some ⟨b, off, none⟩ ∧ D b ∧ ∀ i x, xs[i]? = some x → w.rangeAt b (off + i * 2) (Tg.row x))
theorem RdT.keep {D S : Nat → Prop} {w w' : World} {a : Option Addr} {n : Nat} {xs : List Tg} (h : RdT D w a n xs) (hk : Keep S w w') (hD : ∀ k, D k → ¬ S k) : RdT D w' a n xs := by
  refine ⟨h.1, h.2.1, h.2.2.imp id ?_⟩
  rintro ⟨b, off, e, hd, hc⟩
  exact ⟨b, off, e, hd, fun i x hx j u hu => hk.cell (hc i x hx j u hu) (hD b hd)⟩
theorem RdT.mono {D E : Nat → Prop} {w : World} {a : Option Addr} {n : Nat} {xs : List Tg} (h : RdT D w a n xs) (hD : ∀ k, D k → E k) : RdT E w a n xs :=
  ⟨h.1, h.2.1, h.2.2.imp id fun ⟨b, off, e, hd, hc⟩ => ⟨b, off, e, hD b hd, hc⟩⟩
theorem RdT.front {D : Nat → Prop} {w : World} {a : Option Addr} {n : Nat} {xs : List Tg} (h : RdT D w a n xs) {k : Nat} (hk : k ≤ n) : RdT D w a k (xs.take k) := by
  have h1 := h.1
  have h2 := h.2.1
  refine ⟨by rw [List.length_take]; omega, by omega, ?_⟩
  rcases h.2.2 with h0 | ⟨b, off, e, hd, hc⟩
  · left; omega
  · right
    refine ⟨b, off, e, hd, fun i x hx => hc i x ?_⟩
    rw [List.getElem?_take] at hx
    split at hx
    · exact hx
    · cases hx
theorem own_rdT {w : World} {b : Nat} {v : Value} {xs : List Tg} (h : w.ownsRow b 33 2 v xs.length (flT xs)) (hl : xs.length ≤ 16777217) : ∃ a c, v = .slice a xs.length c ∧ xs.length ≤ c ∧ RdT (fun k => v.ownBlock = some k) w a xs.length xs := by
  rcases h.2 with ⟨rfl, h0⟩ | ⟨g, cap, cur, rfl, e2, e3, e4, e5, e6, e7⟩
  · exact ⟨none, 0, by rw [h0], by omega, rfl, by omega, .inl h0⟩
  · refine ⟨_, _, rfl, ?_, rfl, by omega, .inr ⟨g, 0, rfl, rfl, fun i x hx j u hu => ?_⟩⟩
    · exact e4
    · have := flT_get xs i j x u hx hu
      rw [← e7, List.getElem?_take] at this
      split at this
      · rw [Nat.zero_add, cell_of_row _ _ _ _ _ _ e3]; simpa using this
      · cases this
theorem info_thingX : (Tryz.prog.info? 33).map (fun i => (i.zero, i.size, i.bytes)) = some (some (.agg #[.int .i64 0, .string ⟨#[]⟩]), 2, 24) := by kernel_rfl
/-- a thing more behind a row of the call's own -/
theorem append_thing {w : World} {b : Nat} {v : Value} {xs : List Tg} (h : w.ownsRow b 33 2 v xs.length (flT xs)) (hb : b ≤ w.heap.size) (hl : xs.length ≤ 16777216) (x : Tg) {B : Nat} (hB : w.heap[B]? = some (thB x.1 x.2)) (ty : TypeId) :
    ∃ a c w', (Builtin.append_ #[22, 22] ty #[v, .slice (some ⟨B, 0, none⟩) 1 1]).run Tryz.prog w = .ok (.slice a (xs.length + 1) c) w' ∧ w'.ownsRow b 33 2 (.slice a (xs.length + 1) c) (xs.length + 1) (flT (xs ++ [x])) ∧ w.grownBy w' v.ownBlock ∧ NewBlk w v (.slice a (xs.length + 1) c) := by
  obtain ⟨i0, hi, hz0, hz1, hz2⟩ := info_parts info_thingX
  obtain ⟨y0, y1⟩ := cells2 hB
  obtain ⟨v', w', h1, h2, h3, h4⟩ := run_append_own_at (P := Tryz.prog) w b 22 ty 33 i0 _ 2 24 Tryz.underlying22 hi hz0 hz1 hz2 rfl (by decide) v xs.length _ h ⟨B, 0, none⟩ 1 1 (Tg.row x) rfl (fun j u hu => by
      match j, hu with
      | 0, hu => rw [show u = .int .i64 x.1 by simpa [Tg.row] using hu.symm]; simpa [Addr.add] using y0
      | 1, hu => rw [show u = .string x.2 by simpa [Tg.row] using hu.symm]; simpa [Addr.add] using y1) (fun u hu => by simp [Tg.row] at hu; rcases hu with rfl | rfl <;> rfl) (by unfold maxLen; omega) (by omega) hb
  obtain ⟨a, c, e⟩ := ownsRow_shape h2
  subst e
  exact ⟨a, c, w', h1, by rw [flT_snoc]; exact h2, h3, h4.2.imp id fun e k hk => by rw [e] at hk; injection hk with hk; omega⟩
set_option maxRecDepth 10000 in
theorem things_same (D E : Nat → Prop) (a b : Option Addr) (n c d : Nat) (xs : List Tg) (w : World) (h1 : RdT D w a n xs) (h2 : RdT E w b n xs) :
    Calls Tryz.prog 19 #[.slice a n c, .slice b n d] w fun en w' => en = .returned (.bool true) ∧ ∃ m, w' = w.drewN m := by
  have HA := hide h1
  have HB := hide h2
  have hn := h1.2.1
  clear h1 h2
  go_enter Tryz.func19, Tryz.ntmps19
  go_wp2
  go_loopw [5] (fun i wx => ∃ k m : Nat, k ≤ n ∧ i = .int .i64 (k : Nat) ∧ wx = w.drewN m) (fun i _ => n - (intOf i).toNat)
  case atStart => exact ⟨0, 0, Nat.zero_le _, rfl, rfl⟩
  case round =>
    obtain ⟨k, m, hk, rfl, rfl⟩ := hrel
    by_cases hlt : k < n
    · obtain ⟨x, hx⟩ : ∃ x, xs[k]? = some x := ⟨_, List.getElem?_eq_getElem (by have h := HA.out.1; omega)⟩
      obtain ⟨b1, o1, rfl, e1⟩ : ∃ b1 o1, a = some ⟨b1, o1, none⟩ ∧ w.rangeAt b1 (o1 + k * 2) (Tg.row x) := by
        rcases HA.out.2.2 with h0 | ⟨b1, o1, rfl, _, hr⟩
        · omega
        · exact ⟨b1, o1, rfl, hr k _ hx⟩
      obtain ⟨b2, o2, rfl, e2⟩ : ∃ b2 o2, b = some ⟨b2, o2, none⟩ ∧ w.rangeAt b2 (o2 + k * 2) (Tg.row x) := by
        rcases HB.out.2.2 with h0 | ⟨b2, o2, rfl, _, hr⟩
        · omega
        · exact ⟨b2, o2, rfl, hr k _ hx⟩
      obtain ⟨nn, st⟩ := x
      have i1 : w.cell? ⟨b1, o1 + k * 2, none⟩ = some (.int .i64 nn) := e1 0 _ rfl
      have i2 : w.cell? ⟨b1, o1 + k * 2 + 1, none⟩ = some (.string st) := e1 1 _ rfl
      have j1 : w.cell? ⟨b2, o2 + k * 2, none⟩ = some (.int .i64 nn) := e2 0 _ rfl
      have j2 : w.cell? ⟨b2, o2 + k * 2 + 1, none⟩ = some (.string st) := e2 1 _ rfl
      have hne : ∀ w, (binOp .neq 33 (.agg #[.int .i64 nn, .string st]) (.agg #[.int .i64 nn, .string st])).run Tryz.prog w = .ok (.bool false) w := fun w => by simp [go_sem, Op.eqFields]
      clear hx e1 e2
      go_wp2
      go_region
      all_goals go_wp2
      all_goals exact ⟨⟨k + 1, m + 1, by omega, by go_num, rfl⟩, by simp [intOf]; omega⟩
    · go_wp2
      go_ret
      exact ⟨rfl, m, rfl⟩
/-- the first of n at which F is not 0, or n: one only -/
theorem stop_uniq {F : Nat → Nat} {n j k : Nat} (h1 : ∀ i, i < j → F i = 0) (h2 : ∀ i, i < k → F i = 0) (e1 : j = n ∨ F j ≠ 0) (e2 : k = n ∨ F k ≠ 0) (l1 : j ≤ n) (l2 : k ≤ n) : j = k := by
  rcases Nat.lt_trichotomy j k with h | h | h
  · rcases e1 with e | e
    · omega
    · exact absurd (h2 j h) e
  · exact h
  · rcases e2 with e | e
    · omega
    · exact absurd (h1 k h) e
end Wm
end Go.Proofs.YtoelgcagahmndaaGreat

/- PackOnce: two writers and two readers side by side. -/
namespace Go.Proofs.YtoelgcagahmndaaGreat
namespace Wm
open Go.RowKit Go.Deep

theorem MakeT (fn1 fn2 : FuncId) (cap1 cap2 : Array Value) (w : World) :
    Calls Tryz.prog 7 #[.func (.func fn1) #[] cap1, .func (.func fn2) #[] cap2] w fun en w' => en = .returned (.agg #[.func (.func fn1) #[] cap1, .func (.func fn2) #[] cap2]) ∧ Below w.heap.size w w' := by
  go_enter Tryz.func7, Tryz.ntmps7
  go_wp2
  simp [bodyPost, results, Tryz.results7, go_sem]
  exact (Below.refl _ _).alloc (Nat.le_refl _) _
theorem no3 {v : Value} {a : Option Addr} {n c : Nat} (h : v = .slice a n c) (x y : Int) : NoU #[v, .int .i64 x, .int .i64 y] := fun j z => by
  subst h
  match j with
  | 0 => simp
  | 1 => simp
  | 2 => simp
  | j + 3 => simp
theorem Wr.noU {w : World} {p : Nat} {v : Value} {s : K.WS} (h : Wr w p v s) : ∃ cs, w.heap[p]? = some (.cells cs 120 (0, 0)) ∧ NoU cs := by
  obtain ⟨a, c, e⟩ := ownsRow_shape h.row
  exact ⟨_, h.blk, no3 e _ _⟩
theorem Vr.noU {w : World} {p : Nat} {v : Value} {s : K.WS} (h : Vr w p v s) : ∃ cs, w.heap[p]? = some (.cells cs 48 (0, 0)) ∧ NoU cs := by
  obtain ⟨a, c, e⟩ := ownsRow_shape h.row
  exact ⟨_, h.blk, no3 e _ _⟩
theorem Rr.noU {w : World} {q : Nat} {s : K.RS} (h : Rr w q s) : ∃ cs, w.heap[q]? = some (.cells cs 108 (0, 0)) ∧ NoU cs := by
  obtain ⟨a, c, h1, _⟩ := h.ex
  exact ⟨_, h1, no3 rfl _ _⟩
theorem Qr.noU {w : World} {q : Nat} {s : K.RS} (h : Qr w q s) : ∃ cs, w.heap[q]? = some (.cells cs 59 (0, 0)) ∧ NoU cs := by
  obtain ⟨a, c, h1, _⟩ := h.ex
  exact ⟨_, h1, no3 rfl _ _⟩
theorem neT {w : World} {a b : Nat} {ca cb : Array Value} {ta tb : TypeId} (ha : w.heap[a]? = some (.cells ca ta (0, 0))) (hb : w.heap[b]? = some (.cells cb tb (0, 0))) (h : ta ≠ tb) : a ≠ b := fun e => by
  rw [e, hb] at ha
  injection ha with ha
  injection ha with _ ha
  exact h ha.symm
theorem Vr.not {w : World} {p : Nat} {v : Value} {s : K.WS} (hv : Vr w p v s) {g : Nat} {cs : Array Value} {t : TypeId} (hx : w.heap[g]? = some (.cells cs t (0, 0))) (h1 : t ≠ 48) (h2 : t ≠ 5) : ¬ Wset p v g := by
  rintro (e | e)
  · subst e
    rw [hv.blk] at hx
    injection hx with hx
    injection hx with _ hx
    exact h1 hx.symm
  · rcases hv.row.2 with ⟨e', _⟩ | ⟨g', cap, cur, e', _, hg', _⟩
    · rw [e'] at e; cases e
    · rw [e'] at e
      have e2 : g' = g := by simpa [Value.ownBlock] using e
      subst e2
      rw [hx] at hg'
      injection hg' with hg'
      injection hg' with _ hg'
      exact h2 hg'
/-- two writers and two readers; all made behind w0 -/
structure On (w0 w : World) (p : Nat) (v : Value) (q : Nat) (u : Value) (r m : Nat) (sW sV : K.WS) (sR sQ : K.RS) : Prop where
  st : St w0 w p v q u sW sV
  rr : Rr w r sR
  qr : Qr w m sQ
  rm : r < m
  rB : w0.heap.size ≤ r
  hv : ∀ k, v.ownBlock = some k → m < k
  hu : ∀ k, u.ownBlock = some k → m < k
section
variable {w0 w w' : World} {p q r m : Nat} {v u : Value} {sW sV : K.WS} {sR sQ : K.RS}
theorem St.wput' {v' : Value} {s' : K.WS} (h : St w0 w p v q u sW sV) (a : Keep (Wset p v) w w') (hw : Wr w' p v' s') (hs : ∀ k, Wset p v' k → Wset p v k ∨ w.heap.size ≤ k) : St w0 w' p v' q u s' sV := by
  have hsz := h.bl.size
  refine ⟨hw, h.vr.keep a (fun k hk hw => h.wv k hw hk), fun k hk hv => ?_, fun k hk => ?_, h.gv, h.bl.trans (a.below hsz h.gw)⟩
  · rcases hs k hk with h4 | h4
    · exact h.wv k h4 hv
    · have := wset_ltV h.vr hv; omega
  · rcases hs k hk with h4 | h4
    · exact h.gw k h4
    · omega
theorem St.vput' {v' : Value} {s' : K.WS} (h : St w0 w p v q u sW sV) (a : Keep (Wset q u) w w') (hw : Vr w' q v' s') (hs : ∀ k, Wset q v' k → Wset q u k ∨ w.heap.size ≤ k) : St w0 w' p v q v' sW s' := by
  have hsz := h.bl.size
  refine ⟨h.wr.keep a (fun k hk hw => h.wv k hk hw), hw, fun k hk hv => ?_, h.gw, fun k hk => ?_, h.bl.trans (a.below hsz h.gv)⟩
  · rcases hs k hv with h4 | h4
    · exact h.wv k hk h4
    · have := wset_ltW h.wr hk; omega
  · rcases hs k hk with h4 | h4
    · exact h.gv k h4
    · omega
theorem On.offW (h : On w0 w p v q u r m sW sV sR sQ) {x : Nat} (hx : x ≤ m) (hpx : p ≠ x) : ∀ k, Wset p v k → x < k ∨ ∃ cs T fr, w.heap[k]? = some (.cells cs T fr) ∧ NoU cs ∧ k ≠ x := fun k hk => by
  rcases hk with rfl | hk
  · obtain ⟨cs, h1, h2⟩ := Wr.noU h.st.wr
    exact .inr ⟨cs, _, _, h1, h2, hpx⟩
  · exact .inl (Nat.lt_of_le_of_lt hx (h.hv k hk))
theorem On.offV (h : On w0 w p v q u r m sW sV sR sQ) {x : Nat} (hx : x ≤ m) (hpx : q ≠ x) : ∀ k, Wset q u k → x < k ∨ ∃ cs T fr, w.heap[k]? = some (.cells cs T fr) ∧ NoU cs ∧ k ≠ x := fun k hk => by
  rcases hk with rfl | hk
  · obtain ⟨cs, h1, h2⟩ := Vr.noU h.st.vr
    exact .inr ⟨cs, _, _, h1, h2, hpx⟩
  · exact .inl (Nat.lt_of_le_of_lt hx (h.hu k hk))
theorem On.pr (h : On w0 w p v q u r m sW sV sR sQ) : p ≠ r ∧ p ≠ m ∧ q ≠ r ∧ q ≠ m := by
  obtain ⟨_, hr, _⟩ := Rr.noU h.rr
  obtain ⟨_, hm, _⟩ := Qr.noU h.qr
  exact ⟨neT h.st.wr.blk hr (by decide), neT h.st.wr.blk hm (by decide), neT h.st.vr.blk hr (by decide), neT h.st.vr.blk hm (by decide)⟩
theorem On.wput {s' : K.WS} (h : On w0 w p v q u r m sW sV sR sQ) (a : WAt (Wset p v) w p s' w') : ∃ v', On w0 w' p v' q u r m s' sV sR sQ := by
  obtain ⟨v', hw, hs⟩ := a.wr
  refine ⟨v', St.wput' h.st a.keep hw hs, Rr.off h.rr a.keep (h.offW (Nat.le_of_lt h.rm) h.pr.1), Qr.off h.qr a.keep (h.offW (Nat.le_refl _) h.pr.2.1), h.rm, h.rB, fun k hk => ?_, h.hu⟩
  rcases hs k (.inr hk) with h4 | h4
  · rcases h4 with h4 | h4
    · exact absurd (h4 ▸ hk) hw.ne
    · exact h.hv k h4
  · have := h.qr.lt; omega
theorem On.vput {s' : K.WS} (h : On w0 w p v q u r m sW sV sR sQ) (a : VAt (Wset q u) w q s' w') : ∃ u', On w0 w' p v q u' r m sW s' sR sQ := by
  obtain ⟨v', hw, hs⟩ := a.wr
  refine ⟨v', St.vput' h.st a.keep hw hs, Rr.off h.rr a.keep (h.offV (Nat.le_of_lt h.rm) h.pr.2.2.1), Qr.off h.qr a.keep (h.offV (Nat.le_refl _) h.pr.2.2.2), h.rm, h.rB, h.hv, fun k hk => ?_⟩
  rcases hs k (.inr hk) with h4 | h4
  · rcases h4 with h4 | h4
    · exact absurd (h4 ▸ hk) hw.ne
    · exact h.hu k h4
  · have := h.qr.lt; omega
theorem On.rtook {s' : K.RS} (h : On w0 w p v q u r m sW sV sR sQ) (hr : Rr w' r s') (hk : Keep (fun k => k = r) w w') : On w0 w' p v q u r m sW sV s' sQ := by
  obtain ⟨cs, h1, h2⟩ := Rr.noU h.rr
  have n1 : ¬ Wset p v r := h.st.wr.not h1 (by decide) (by decide)
  have n2 : ¬ Wset q u r := Vr.not h.st.vr h1 (by decide) (by decide)
  refine ⟨⟨h.st.wr.keep hk fun k hk e => n1 (e ▸ hk), h.st.vr.keep hk fun k hk e => n2 (e ▸ hk), h.st.wv, h.st.gw, h.st.gv, h.st.bl.trans (hk.below h.st.bl.size fun k e => by rw [e]; exact h.rB)⟩, hr, Qr.off h.qr hk fun k e => .inr ⟨cs, _, _, e ▸ h1, h2, by have : k = r := e; have := h.rm; omega⟩, h.rm, h.rB, h.hv, h.hu⟩
theorem On.qtook {s' : K.RS} (h : On w0 w p v q u r m sW sV sR sQ) (hr : Qr w' m s') (hk : Keep (fun k => k = m) w w') : On w0 w' p v q u r m sW sV sR s' := by
  obtain ⟨cs, h1, h2⟩ := Qr.noU h.qr
  have n1 : ¬ Wset p v m := h.st.wr.not h1 (by decide) (by decide)
  have n2 : ¬ Wset q u m := Vr.not h.st.vr h1 (by decide) (by decide)
  refine ⟨⟨h.st.wr.keep hk fun k hk e => n1 (e ▸ hk), h.st.vr.keep hk fun k hk e => n2 (e ▸ hk), h.st.wv, h.st.gw, h.st.gv, h.st.bl.trans (hk.below h.st.bl.size fun k e => by rw [e]; exact Nat.le_trans h.rB (Nat.le_of_lt h.rm))⟩, h.rr.stay hk (fun k hk e => by have : k = m := e; have := h.rm; omega), hr, h.rm, h.rB, h.hv, h.hu⟩
theorem On.new (h : On w0 w p v q u r m sW sV sR sQ) (b : Below w.heap.size w w') : On w0 w' p v q u r m sW sV sR sQ := ⟨h.st.new b, h.rr.below b, h.qr.below b, h.rm, h.rB, h.hv, h.hu⟩
end
/-- behind the form's put: the writers' state s, the readers' t, the boxes -/
structure Af (w : World) (p q r m xb cb tb fb : Nat) (s : K.WS) (t t' : K.RS) (c n0 : Int) (st0 : ByteArray) (n : Int) (st : ByteArray) (fc : Array Value) : Prop where
  wr : ∃ v, Wr w p v s
  vr : ∃ u, Vr w q u s
  rr : Rr w r t
  qr : Qr w m t'
  x : w.heap[xb]? = some (thB n st)
  c : w.heap[cb]? = some (numB c)
  t : w.heap[tb]? = some (thB n0 st0)
  f : w.heap[fb]? = some (.cells fc 37 (0, 0))
theorem Af.new {w w' : World} {p q r m xb cb tb fb : Nat} {s : K.WS} {t t' : K.RS} {c n0 : Int} {st0 : ByteArray} {n : Int} {st : ByteArray} {fc : Array Value} (h : Af w p q r m xb cb tb fb s t t' c n0 st0 n st fc) (b : Below w.heap.size w w') : Af w' p q r m xb cb tb fb s t t' c n0 st0 n st fc := by
  obtain ⟨v, hv⟩ := h.wr
  obtain ⟨u, hu⟩ := h.vr
  have a : Keep (fun _ => False) w w' := Keep.ofBelow b (Nat.le_refl _)
  exact ⟨⟨v, hv.keep a fun _ _ f => f⟩, ⟨u, hu.keep a fun _ _ f => f⟩, h.rr.below b, h.qr.below b, blkB h.x b, blkB h.c b, blkB h.t b, blkB h.f b⟩
theorem Af.atW {w : World} {p q r m xb cb tb fb : Nat} {s : K.WS} {t t' : K.RS} {c n0 : Int} {st0 : ByteArray} {n : Int} {st : ByteArray} {fc : Array Value} (h : Af w p q r m xb cb tb fb s t t' c n0 st0 n st fc) : ∃ v, WAt (Wset p v) w p s w := by
  obtain ⟨v, hv⟩ := h.wr
  exact ⟨v, Keep.refl _ _, v, hv, fun _ hk => .inl hk⟩
theorem Af.atV {w : World} {p q r m xb cb tb fb : Nat} {s : K.WS} {t t' : K.RS} {c n0 : Int} {st0 : ByteArray} {n : Int} {st : ByteArray} {fc : Array Value} (h : Af w p q r m xb cb tb fb s t t' c n0 st0 n st fc) : ∃ v, VAt (Wset q v) w q s w := by
  obtain ⟨v, hv⟩ := h.vr
  exact ⟨v, Keep.refl _ _, v, hv, fun _ hk => .inl hk⟩
theorem Put1.base {p cb tb : Nat} {v : Value} {s' : K.WS} {n : Int} {st : ByteArray} {c : Int} {w w1 w' : World} (h : Put1 p cb tb v s' n st c w1 w') (b : Below w.heap.size w w1) : Put1 p cb tb v s' n st c w w' := by
  obtain ⟨v', h1, h2⟩ := h.wr
  exact ⟨⟨v', h1, fun k hk => (h2 k hk).imp id fun h => Nat.le_trans b.size h⟩, h.cn, h.tl, (Keep.ofBelow b (Nat.le_refl _)).more h.keep⟩
/-- the law's boxes -/
structure Bx (w0 w : World) (xb cb tb fb : Nat) (n : Int) (st : ByteArray) (fc : Array Value) : Prop where
  x : w.heap[xb]? = some (thB n st)
  c : w.heap[cb]? = some (numB 0)
  t : w.heap[tb]? = some (thB 0 ⟨#[]⟩)
  f : w.heap[fb]? = some (.cells fc 37 (0, 0))
  gx : w0.heap.size ≤ xb
  gc : w0.heap.size ≤ cb
  gt : w0.heap.size ≤ tb
  xt : xb ≠ tb
  bl : Below w0.heap.size w0 w
theorem On.af0 {w00 w0 w : World} {p q r m xb cb tb fb : Nat} {v u : Value} {s : K.WS} {t t' : K.RS} {n : Int} {st : ByteArray} {fc : Array Value} (h : On w0 w p v q u r m s s t t') (b : Bx w00 w0 xb cb tb fb n st fc) : Af w p q r m xb cb tb fb s t t' 0 0 ⟨#[]⟩ n st fc := by
  have h1 : ∀ {k o}, w0.heap[k]? = some o → w.heap[k]? = some o := fun hk => blkB hk h.st.bl
  exact ⟨⟨v, h.st.wr⟩, ⟨u, h.st.vr⟩, h.rr, h.qr, h1 b.x, h1 b.c, h1 b.t, h1 b.f⟩
theorem On.af1 {w00 w0 w w' : World} {p q r m xb cb tb fb : Nat} {v u : Value} {s s1 : K.WS} {t t' : K.RS} {n : Int} {st : ByteArray} {fc : Array Value} (h : On w0 w p v q u r m s s1 t t') (b : Bx w00 w0 xb cb tb fb n st fc) (hp : Put1 p cb tb v s1 n st 1 w w') :
    Af w' p q r m xb cb tb fb s1 t t' 1 n st n st fc ∧ Below w00.heap.size w00 w' := by
  have h1 : ∀ {k o}, w0.heap[k]? = some o → w.heap[k]? = some o := fun hk => blkB hk h.st.bl
  have l1 : ∀ {k o}, w0.heap[k]? = some o → k < w0.heap.size := fun hk => (Array.getElem?_eq_some_iff.1 hk).1
  have lc := l1 b.c
  have lt := l1 b.t
  have lx := l1 b.x
  have lf := l1 b.f
  have rB := h.rB
  have hrm := h.rm
  obtain ⟨v', hv', hs'⟩ := hp.wr
  have nW : ∀ k, k < w0.heap.size → ¬ Wset p v k := fun k hk hw => by have := h.st.gw k hw; omega
  have nV : ∀ k, k < w0.heap.size → ¬ Wset q u k := fun k hk hw => by have := h.st.gv k hw; omega
  have off : ∀ x, x ≤ m → p ≠ x → w0.heap.size ≤ x → ∀ k, (Wset p v k ∨ k = cb ∨ k = tb) → x < k ∨ ∃ cs T fr, w.heap[k]? = some (.cells cs T fr) ∧ NoU cs ∧ k ≠ x := fun x hx hpx hxB k hk => by
    rcases hk with hk | rfl | rfl
    · exact h.offW hx hpx k hk
    · exact .inr ⟨_, _, _, h1 b.c, numB_no 0, by omega⟩
    · exact .inr ⟨_, _, _, h1 b.t, thB_no 0 _, by omega⟩
  have kp : ∀ {k o}, w0.heap[k]? = some o → k ≠ cb → k ≠ tb → w'.heap[k]? = some o := fun hk e1 e2 => hp.keep.blk (h1 hk) (by
    rintro (h | h | h)
    · exact nW _ (l1 hk) h
    · exact e1 h
    · exact e2 h)
  refine ⟨⟨⟨v', hv'⟩, ⟨u, h.st.vr.keep hp.keep fun k hk hs => ?_⟩, Rr.off h.rr hp.keep (off r (by omega) h.pr.1 rB), Qr.off h.qr hp.keep (off m (Nat.le_refl _) h.pr.2.1 (by omega)), kp b.x (neT b.x b.c (by decide)) b.xt, hp.cn, hp.tl, kp b.f (neT b.f b.c (by decide)) (neT b.f b.t (by decide))⟩, ?_⟩
  · rcases hs with hs | rfl | rfl
    · exact h.st.wv k hs hk
    · exact nV _ lc hk
    · exact nV _ lt hk
  · have hb := b.bl.trans (h.st.bl.mono b.bl.size)
    have hbs := b.bl.size
    exact hb.trans (hp.keep.below hb.size fun k hk => by
      rcases hk with hk | rfl | rfl
      · exact Nat.le_trans b.bl.size (h.st.gw k hk)
      · exact b.gc
      · exact b.gt)
theorem NewWriterX (m : Int) (w : World) :
    Calls Tryz.prog 30 #[.int .i64 m] w fun en w' => en = .returned (.pointer (some ⟨w.heap.size, 0, none⟩)) ∧ w' = w.alloc (.cells #[.slice none 0 0, .int .i64 (room m : Nat), .int .i64 0] 120) := by
  have h1 := max_run m 0 (max m 0) (by omega)
  have h2 := min_run (max m 0) 16777216 ((room m : Nat) : Int) (by unfold room; omega)
  generalize max m 0 = m1 at *
  generalize room m = m2 at *
  go_enter Tryz.func30, Tryz.ntmps30
  go_wp2
  go_ret
  exact ⟨rfl, rfl⟩
theorem RNewWriterX (m : Int) (w : World) :
    Calls Tryz.prog 13 #[.int .i64 m] w fun en w' => en = .returned (.pointer (some ⟨w.heap.size, 0, none⟩)) ∧ w' = w.alloc (.cells #[.slice none 0 0, .int .i64 (room m : Nat), .int .i64 0] 48) := by
  by_cases h0 : m < 0
  · have hr : room m = 0 := by unfold room; omega
    rw [hr]
    clear hr
    go_enter Tryz.func13, Tryz.ntmps13
    go_wp2
    go_ret
    exact ⟨rfl, rfl⟩
  · by_cases h1 : 16777216 < m
    · have hr : room m = 16777216 := by unfold room; omega
      rw [hr]
      clear hr
      go_enter Tryz.func13, Tryz.ntmps13
      go_wp2
      go_ret
      exact ⟨rfl, rfl⟩
    · have hr : ((room m : Nat) : Int) = m := by unfold room; omega
      rw [hr]
      clear hr
      go_enter Tryz.func13, Tryz.ntmps13
      go_wp2
      go_ret
      exact ⟨rfl, rfl⟩
theorem On.begin {w0 w8 w9 : World} {k r m : Nat} {sR sQ : K.RS} (hk : k ≤ 16777216)
    (h8 : Below ((w0.alloc (.cells #[.slice none 0 0, .int .i64 (k : Nat), .int .i64 0] 120)).alloc (.cells #[.slice none 0 0, .int .i64 (k : Nat), .int .i64 0] 48)).heap.size ((w0.alloc (.cells #[.slice none 0 0, .int .i64 (k : Nat), .int .i64 0] 120)).alloc (.cells #[.slice none 0 0, .int .i64 (k : Nat), .int .i64 0] 48)) w8)
    (hr : Rr w8 r sR) (gr : ((w0.alloc (.cells #[.slice none 0 0, .int .i64 (k : Nat), .int .i64 0] 120)).alloc (.cells #[.slice none 0 0, .int .i64 (k : Nat), .int .i64 0] 48)).heap.size ≤ r)
    (h9 : Below w8.heap.size w8 w9) (hm : Qr w9 m sQ) (gm : w8.heap.size ≤ m) :
    On w0 w9 w0.heap.size (.slice none 0 0) (w0.heap.size + 1) (.slice none 0 0) r m ⟨[], k, 0⟩ ⟨[], k, 0⟩ sR sQ := by
  have e1 := heap_alloc_new w0 (.cells #[.slice none 0 0, .int .i64 (k : Nat), .int .i64 0] 120)
  have e2 : ((w0.alloc (.cells #[.slice none 0 0, .int .i64 (k : Nat), .int .i64 0] 120)).alloc (.cells #[.slice none 0 0, .int .i64 (k : Nat), .int .i64 0] 48)).heap[w0.heap.size]? = _ := (Keep.alloc (fun _ => False) _ _).blk e1 fun f => f
  have e3 : ((w0.alloc (.cells #[.slice none 0 0, .int .i64 (k : Nat), .int .i64 0] 120)).alloc (.cells #[.slice none 0 0, .int .i64 (k : Nat), .int .i64 0] 48)).heap[w0.heap.size + 1]? = some (.cells #[.slice none 0 0, .int .i64 (k : Nat), .int .i64 0] 48 (0, 0)) := by
    have := heap_alloc_new (w0.alloc (.cells #[.slice none 0 0, .int .i64 (k : Nat), .int .i64 0] 120)) (.cells #[.slice none 0 0, .int .i64 (k : Nat), .int .i64 0] 48)
    simpa using this
  have hb : Below w0.heap.size w0 ((w0.alloc (.cells #[.slice none 0 0, .int .i64 (k : Nat), .int .i64 0] 120)).alloc (.cells #[.slice none 0 0, .int .i64 (k : Nat), .int .i64 0] 48)) := ((Below.refl _ _).alloc (Nat.le_refl _) _).alloc (by simp) _
  generalize (w0.alloc (.cells #[.slice none 0 0, .int .i64 (k : Nat), .int .i64 0] 120)).alloc (.cells #[.slice none 0 0, .int .i64 (k : Nat), .int .i64 0] 48) = w7 at *
  have hp := blkB (blkB e2 h8) h9
  have hq := blkB (blkB e3 h8) h9
  have z := h8.size
  have hs7 := hb.size
  have hbl := (hb.trans (h8.mono hb.size)).trans (h9.mono (by omega))
  have hrl := hr.lt
  refine ⟨⟨⟨hp, World.ownsRow_nil _ _ _ _, (fun d hd => by cases hd), Nat.zero_le _, hk⟩, ⟨hq, World.ownsRow_nil _ _ _ _, (fun d hd => by cases hd), Nat.zero_le _, hk⟩, ?_, ?_, ?_, hbl⟩, hr.below h9, hm, by omega, by omega, (fun k h => by cases h), fun k h => by cases h⟩
  · rintro k (rfl | h) (h' | h')
    · omega
    · cases h'
    · cases h
    · cases h
  · rintro k (rfl | h)
    · exact Nat.le_refl _
    · cases h
  · rintro k (rfl | h)
    · omega
    · cases h
end Wm
end Go.Proofs.YtoelgcagahmndaaGreat

/- PackThings: the functions of its form. -/
namespace Go.Proofs.YtoelgcagahmndaaGreat
namespace Wm
open Go.RowKit Go.Deep

theorem wpList_append_run {ops : Array Oper} {rest : List Oper} {o : Oper} {a : Act} {w : World} {Q : Exit → Act → World → Prop} (hg : o.guard = none) (d x : Operand) (t : TypeId) (hop : o.op = Op.call { callee := Callee.builtin Builtin.append, args := #[d, x], argTypes := #[t, t] })
    (v u : Value) (hd : a.eval d = v) (hx : a.eval x = u) {v' : Value} {w' : World} (hr : (Builtin.append_ #[t, t] o.type #[v, u]).run Tryz.prog w = .ok v' w') (h : wpList Tryz.prog ops Q rest (a.put o.dst v') w') : wpList Tryz.prog ops Q (o :: rest) a w :=
  wpList_plain hg fun _ hK => by
    unfold Oper.wp
    simp [execOp, hop, resolve, invoke, builtin, hd, hx, hr, Result.andThen]
    exact hK _ _ h
def slB (v : Value) : Obj := .cells #[v] 22 (0, 0)
/-- a writer, and the things that were handed to the form -/
structure Pq (w : World) (p : Nat) (v : Value) (pb : Nat) (vp : Value) (s : K.WS) (ys : List Tg) : Prop where
  wr : Wr w p v s
  pu : w.heap[pb]? = some (slB vp)
  row : w.ownsRow 0 33 2 vp ys.length (flT ys)
def Sq (p : Nat) (v : Value) (pb : Nat) (vp : Value) (k : Nat) : Prop := Wset p v k ∨ k = pb ∨ vp.ownBlock = some k
/-- what puts leave -/
structure Ps (w : World) (p : Nat) (v : Value) (pb : Nat) (vp : Value) (s' : K.WS) (ys : List Tg) (w' : World) : Prop where
  ex : ∃ v' vp', Pq w' p v' pb vp' s' ys ∧ ∀ k, Sq p v' pb vp' k → Sq p v pb vp k ∨ w.heap.size ≤ k
  keep : Keep (Sq p v pb vp) w w'
section
variable {w w1 w2 : World} {p pb : Nat} {v vp : Value} {s s1 s2 : K.WS} {ys y1 y2 : List Tg}
theorem Ps.refl (h : Pq w p v pb vp s ys) : Ps w p v pb vp s ys w := ⟨⟨v, vp, h, fun _ h => .inl h⟩, Keep.refl _ _⟩
theorem Ps.base (h : Ps w1 p v pb vp s ys w2) (b : Below w.heap.size w w1) : Ps w p v pb vp s ys w2 := by
  obtain ⟨v', vp', h1, h2⟩ := h.ex
  exact ⟨⟨v', vp', h1, fun k hk => (h2 k hk).imp id fun h => Nat.le_trans b.size h⟩, (Keep.ofBelow b (Nat.le_refl _)).more h.keep⟩
theorem Pq.new (h : Pq w p v pb vp s ys) (b : Below w.heap.size w w1) : Pq w1 p v pb vp s ys := ⟨h.wr.keep (S := fun _ => False) (Keep.ofBelow b (Nat.le_refl _)) fun _ _ f => f, blkB h.pu b, ownsRow_keepB h.row b⟩
theorem Ps.trans {v1 vp1 : Value} (hs : ∀ k, Sq p v1 pb vp1 k → Sq p v pb vp k ∨ w.heap.size ≤ k) (hk : Keep (Sq p v pb vp) w w1) (h : Ps w1 p v1 pb vp1 s2 y2 w2) : Ps w p v pb vp s2 y2 w2 := by
  obtain ⟨v', vp', h1, h2⟩ := h.ex
  refine ⟨⟨v', vp', h1, fun k h3 => ?_⟩, hk.trans h.keep hs⟩
  rcases h2 k h3 with h4 | h4
  · exact hs k h4
  · exact .inr (Nat.le_trans hk.size h4)
theorem Pq.wnp (h : Pq w p v pb vp s ys) : ¬ Wset p v pb := h.wr.not h.pu (by decide) (by decide)
theorem Pq.rowW (h : Pq w p v pb vp s ys) : ∀ k, vp.ownBlock = some k → ¬ Wset p v k := fun k hk => by
  rcases h.row.2 with ⟨rfl, _⟩ | ⟨g, cap, cur, rfl, _, e3, _⟩
  · cases hk
  · cases hk
    exact h.wr.not e3 (by decide) (by decide)
theorem Pq.rowP (h : Pq w p v pb vp s ys) : vp.ownBlock ≠ some pb := fun hk => by
  rcases h.row.2 with ⟨rfl, _⟩ | ⟨g, cap, cur, rfl, _, e3, _⟩
  · cases hk
  · cases hk
    exact neT e3 h.pu (by decide) rfl
end
theorem slB_cell {w : World} {b : Nat} {v : Value} (h : w.heap[b]? = some (slB v)) : w.cell? ⟨b, 0, none⟩ = some v ∧ w.frozen? ⟨b, 0, none⟩ = false := by
  refine ⟨by rw [cell_of_row _ _ _ _ _ _ h]; rfl, frozen_of_row w b 0 _ _ h⟩
set_option maxRecDepth 100000 in
theorem thg1 (p pb : Nat) (v vp : Value) (s : K.WS) (ys : List Tg) (hl : ys.length ≤ 16777216) (n : Int) (hn : n ≤ 9223372036854775807) (st : ByteArray) (hst : st.size ≤ 140737488351232) (w : World) (h : Pq w p v pb vp s ys) :
    Calls Tryz.prog 8 #[.pointer (some ⟨p, 0, none⟩), .agg #[.int .i64 n, .string st], .pointer (some ⟨pb, 0, none⟩)] w fun en w' => en = .returned (.tuple #[]) ∧ Ps w p v pb vp (layE n st s) (ys ++ [(n, st)]) w' := by
  have HB : Hid (Below w.heap.size w (w.alloc (.cells #[.int .i64 n, .string st] 33))) := (Below.refl _ _).alloc (Nat.le_refl _) _
  have HX := hide (heap_alloc_new w (.cells #[.int .i64 n, .string st] 33))
  have HQ := hide (h.new HB.out)
  have HLR : Hid (∀ k, vp.ownBlock = some k → k < w.heap.size) := fun k hk => (h.row.lt k hk).2
  have hpl := (Array.getElem?_eq_some_iff.1 h.pu).1
  have HI2 : Hid (∀ a b : Value, (Tryz.prog.info? 33).map (·.size) = some (#[a, b] : Array Value).size) := fun a b => by rw [info_thing]; rfl
  clear h
  go_enter Tryz.func8, Tryz.ntmps8
  go_upto_region 1 with fail
  change Code.wp _ _ _ _ (w.alloc (.cells #[.int .i64 n, .string st] 33))
  generalize w.alloc (.cells #[.int .i64 n, .string st] 33) = W at *
  obtain ⟨k0, _⟩ := slB_cell HQ.out.pu
  have hb1 : Below W.heap.size W (W.alloc (.cells #[.int .i64 n, .string st] 33)) := (Below.refl _ _).alloc (Nat.le_refl _) _
  have HQ1 := hide (HQ.out.new hb1)
  have HB1 := hide hb1
  obtain ⟨a2, c2, W2, hr2, ho2, hg2, hn2⟩ := append_thing HQ1.out.row (Nat.zero_le _) hl (n, st) (heap_alloc_new W (.cells #[.int .i64 n, .string st] 33)) 22
  have HR2 := hide hr2
  have HO2 := hide ho2
  have HG2 := hide hg2
  have HN2 := hide hn2
  clear hb1 hr2 ho2 hg2 hn2
  have hk2 : Keep (fun k => vp.ownBlock = some k) (W.alloc (.cells #[.int .i64 n, .string st] 33)) W2 := Keep.grown HG2.out fun k e => e
  have HK2 := hide hk2
  have hp2 := hk2.blk HQ1.out.pu HQ1.out.rowP
  have HP2 := hide hp2
  obtain ⟨_, f2⟩ := slB_cell hp2
  obtain ⟨q2, _⟩ := slB_cell hp2
  clear hk2 hp2
  go_upto_region 2 with (first
    | (refine wpList_load_row rfl 33 _ rfl w.heap.size rfl 33 #[.int .i64 n, .string st] (0, 0) _ HX.out Tryz.underlying33 rfl (HI2.out _ _) ?_)
    | (refine wpList_append_run rfl _ _ 22 rfl _ _ rfl rfl HR2.out ?_))
  change Code.wp _ _ _ _ (W2.setCell ⟨pb, 0, none⟩ (.slice a2 (ys.length + 1) c2))
  have HK3 := hide (keep_cell W2 pb 0 (.slice a2 (ys.length + 1) c2))
  have hp3 : (W2.setCell ⟨pb, 0, none⟩ (.slice a2 (ys.length + 1) c2)).heap[pb]? = some (slB (.slice a2 (ys.length + 1) c2)) := set_blk HP2.out 0 _
  have ho3 : (W2.setCell ⟨pb, 0, none⟩ (.slice a2 (ys.length + 1) c2)).ownsRow 0 33 2 (.slice a2 (ys.length + 1) c2) (ys ++ [(n, st)]).length (flT (ys ++ [(n, st)])) := by
    rw [List.length_append]
    refine ownsRow_keepS HO2.out HK3.out fun i e hi => ?_
    have e' : i = pb := e
    subst e'
    rcases HO2.out.2 with ⟨e1, _⟩ | ⟨g, cap, cur, e1, _, e3, _⟩
    · rw [e1] at hi; cases hi
    · rw [e1] at hi
      cases hi
      exact neT e3 HP2.out (by decide) rfl
  have hw3 : Wr (W2.setCell ⟨pb, 0, none⟩ (.slice a2 (ys.length + 1) c2)) p v s := (HQ1.out.wr.keep HK2.out fun k hk e => HQ1.out.rowW k e hk).keep HK3.out fun k hk e => HQ1.out.wnp (e ▸ hk)
  have HQ3 : Hid (Pq (W2.setCell ⟨pb, 0, none⟩ (.slice a2 (ys.length + 1) c2)) p v pb (.slice a2 (ys.length + 1) c2) s (ys ++ [(n, st)])) := ⟨hw3, hp3, ho3⟩
  have HX3 := hide (HK3.out.blk (HK2.out.blk (blkB HX.out HB1.out) (fun e => by have := HLR.out _ e; omega)) (by show ¬ _ = _; omega))
  have HKw : Hid (Keep (Sq p v pb vp) w (W2.setCell ⟨pb, 0, none⟩ (.slice a2 (ys.length + 1) c2))) := by
    have h1 := Keep.ofBelow (S := Sq p v pb vp) (HB.out.trans (HB1.out.mono HB.out.size)) (Nat.le_refl _)
    exact (h1.trans HK2.out fun i e => .inl (.inr (.inr e))).trans HK3.out fun i e => .inl (.inr (.inl e))
  have HSq : Hid (∀ k, Sq p v pb (.slice a2 (ys.length + 1) c2) k → Sq p v pb vp k ∨ w.heap.size ≤ k) := fun k hk => by
    rcases hk with hk | hk | hk
    · exact .inl (.inl hk)
    · exact .inl (.inr (.inl hk))
    · rcases HN2.out with h1 | h1
      · rw [h1] at hk; exact .inl (.inr (.inr hk))
      · have h2 := h1 k hk
        have h3 := HB1.out.size
        have h4 := HB.out.size
        exact .inr (by omega)
  clear hp3 ho3 hw3 HP2 HK2 HK3 HO2 HN2 HG2 HR2 HQ1 HB1 HQ k0 f2 q2 HX
  generalize W2.setCell ⟨pb, 0, none⟩ (.slice a2 (ys.length + 1) c2) = W3 at *
  go_wp2_with (refine wpList_load_row rfl 33 _ rfl w.heap.size rfl 33 #[.int .i64 n, .string st] (0, 0) _ HX3.out Tryz.underlying33 rfl (HI2.out _ _) ?_)
  go_at_call 9
  refine (lay_any (Wset p v) W3 p s n hn st hst W3 ⟨Keep.refl _ _, v, HQ3.out.wr, fun _ hk => .inl hk⟩).mono ?_
  rintro e w4 ⟨rfl, h4⟩
  have H4 := hide h4
  clear h4
  go_wp2
  go_end0
  obtain ⟨v', hv', hs'⟩ := H4.out.wr
  have h5 : Pq w4 p v' pb (.slice a2 (ys.length + 1) c2) (layE n st s) (ys ++ [(n, st)]) := ⟨hv', H4.out.keep.blk HQ3.out.pu HQ3.out.wnp, ownsRow_keepS HQ3.out.row H4.out.keep fun i hi e => HQ3.out.rowW i e hi⟩
  refine ⟨rfl, Ps.trans HSq.out HKw.out ⟨⟨v', _, h5, fun k hk => ?_⟩, (Keep.refl _ _).trans H4.out.keep fun i h => .inl (.inl h)⟩⟩
  · rcases hk with hk | hk | hk
    · exact (hs' k hk).imp .inl id
    · exact .inl (.inr (.inl hk))
    · exact .inl (.inr (.inr hk))
/-- what the form's take does: one more call -/
theorem ent_thg1 (args : Array Value) (w : World) : (callFunc 8 args).run Tryz.prog w = .ok (.enter 8 args) w :=
  callFunc_enter Tryz.func8 rfl rfl args w
theorem ent_thg2 (args : Array Value) (w : World) : (callFunc 10 args).run Tryz.prog w = .ok (.enter 10 args) w :=
  callFunc_enter Tryz.func10 rfl rfl args w
set_option maxRecDepth 100000 in
theorem thg2 (r cb : Nat) (s : K.RS) (c : Int) (hw : IntKind.i64.wrap (c + 1) = c + 1) (w : World) (h : Rr w r s) (hc : w.heap[cb]? = some (numB c)) :
    Calls Tryz.prog 10 #[.pointer (some ⟨r, 0, none⟩), .pointer (some ⟨cb, 0, none⟩)] w fun en w' => en = .returned (.agg #[.int .i64 (getN s), .string (getS s)]) ∧ Keep (fun k => k = r ∨ k = cb) w w' ∧ Tk2 r cb (getE s) (c + 1) w' := by
  have hrc : r ≠ cb := fun e => by
    obtain ⟨a, c', h1, _⟩ := h.ex
    rw [e, hc] at h1
    injection h1 with h1
    injection h1 with _ h1
    exact absurd h1 (by decide)
  have hrl := h.lt
  have hcl := (Array.getElem?_eq_some_iff.1 hc).1
  have HB : Hid (Below w.heap.size w (w.alloc (.cells #[.int .i64 0, .string ⟨#[]⟩] 33))) := (Below.refl _ _).alloc (Nat.le_refl _) _
  have HX := hide (heap_alloc_new w (.cells #[.int .i64 0, .string ⟨#[]⟩] 33))
  have HC := hide (blkB hc HB.out)
  have HR := hide (h.below HB.out)
  have HI2 : Hid (∀ a b : Value, (Tryz.prog.info? 33).map (·.size) = some (#[a, b] : Array Value).size) := fun a b => by rw [info_thing]; rfl
  have HNb : Hid (∀ W : World, Rr W r s → W.heap[cb]? = some (numB c) → Rr (W.setCell ⟨cb, 0, none⟩ (.int .i64 (c + 1))) r s) := fun W h1 h2 => Rr.off h1 (keep_cell W cb 0 _) (fun k e => .inr ⟨_, _, _, e ▸ h2, numB_no c, fun e2 => hrc (e2 ▸ e)⟩)
  clear h hc
  go_enter Tryz.func10, Tryz.ntmps10
  go_upto_region 1 with fail
  change Code.wp _ _ _ _ (w.alloc (.cells #[.int .i64 0, .string ⟨#[]⟩] 33))
  generalize w.alloc (.cells #[.int .i64 0, .string ⟨#[]⟩] 33) = W at *
  generalize hg : w.heap.size = g at *
  have HG := hide hg
  clear hg
  obtain ⟨k0, f0⟩ := numB_cell HC.out
  go_upto_region 2 with fail
  clear k0 f0
  have HR1 := hide (HNb.out W HR.out HC.out)
  have hk1 := keep_cell W cb 0 (.int .i64 (c + 1))
  have HC1 := hide (numB_set HC.out (c + 1))
  have HX1 := hide (hk1.blk HX.out (by show ¬ _ = _; omega))
  have HK1 := hide hk1
  clear hk1 HC HX HR HNb
  generalize W.setCell ⟨cb, 0, none⟩ (.int .i64 (c + 1)) = W1 at *
  go_wp2_with fail
  refine (get_any r s _ HR1.out).mono ?_
  rintro e w2 ⟨rfl, hr2, hk2⟩
  have HR2 := hide hr2
  have HX2 := hide (hk2.blk HX1.out (by show ¬ _ = _; omega))
  have HC2 := hide (hk2.blk HC1.out (fun e => hrc e.symm))
  have HK2 := hide hk2
  clear hr2 hk2 HR1 HX1 HC1
  go_wp2_with (refine wpList_store_row rfl 33 _ _ rfl g #[.int .i64 (getN s), .string (getS s)] rfl rfl 33 _ HX2.out (HI2.out _ _) rfl (one2 _ _) ?_)
  have HX := hide (setRow_heap w2 g _ #[.int .i64 (getN s), .string (getS s)] _ _ HX2.out)
  have HK := hide (keep_row w2 g #[.int .i64 (getN s), .string (getS s)])
  refine bodyPost_ret (res2 rfl _ _ g _ _ rfl HX.out) rfl ⟨rfl, ?_, HR2.out.stay HK.out (fun k hk e => by have : k = g := e; omega), HK.out.blk HC2.out (by show ¬ _ = _; omega)⟩
  have h1 := Keep.ofBelow (S := fun k => k = r ∨ k = cb) HB.out (by rw [HG.out]; exact Nat.le_refl _)
  exact ((h1.trans HK1.out fun i e => .inl (.inr e)).trans HK2.out fun i e => .inl (.inl e)).trans HK.out fun i e => .inr (by have : i = g := e; rw [HG.out]; omega)
end Wm
end Go.Proofs.YtoelgcagahmndaaGreat

/- PackThings: what is put: putAll, Lists' put. -/
namespace Go.Proofs.YtoelgcagahmndaaGreat
namespace Wm
open Go.RowKit Go.Deep

/-- the law's form, in memory -/
def thF (pb cb : Nat) : Array Value := #[.func (.func 8) #[] #[.pointer (some ⟨pb, 0, none⟩)], .func (.func 10) #[] #[.pointer (some ⟨cb, 0, none⟩)]]
def layF (xs : List Tg) : List (K.WS → K.WS) := xs.map fun x => layE x.1 x.2
def Fit (xs : List Tg) : Prop := ∀ x ∈ xs, x.1 ≤ 9223372036854775807 ∧ x.2.size ≤ 140737488351232
theorem Pq.notT {w : World} {p pb : Nat} {v vp : Value} {s : K.WS} {ys : List Tg} (h : Pq w p v pb vp s ys) {b : Nat} {cs : Array Value} {t : TypeId} (hb : w.heap[b]? = some (.cells cs t (0, 0))) (h1 : t ≠ 120) (h2 : t ≠ 5) (h3 : t ≠ 22) (h4 : t ≠ 33) : ¬ Sq p v pb vp b := by
  rintro (hk | hk | hk)
  · exact h.wr.not hb h1 h2 hk
  · exact neT hb h.pu h3 hk
  · rcases h.row.2 with ⟨rfl, _⟩ | ⟨g, cap, cur, rfl, _, e3, _⟩
    · cases hk
    · cases hk
      exact neT hb e3 h4 rfl
theorem Pq.lt {w : World} {p pb : Nat} {v vp : Value} {s : K.WS} {ys : List Tg} (h : Pq w p v pb vp s ys) {k : Nat} (hk : Sq p v pb vp k) : k < w.heap.size := by
  rcases hk with hk | rfl | hk
  · exact wset_ltW h.wr hk
  · exact (Array.getElem?_eq_some_iff.1 h.pu).1
  · exact (h.row.lt k hk).2
theorem putThg (p pb cb : Nat) (v vp : Value) (s : K.WS) (hz : s.fault = 0) (ys : List Tg) (hl : ys.length ≤ 16777216) (n : Int) (hn : n ≤ 9223372036854775807) (st : ByteArray) (hst : st.size ≤ 140737488351232) (w : World) (h : Pq w p v pb vp s ys) :
    Calls Tryz.prog 35 #[.agg (thF pb cb), .pointer (some ⟨p, 0, none⟩), .agg #[.int .i64 n, .string st]] w fun en w' => en = .returned (.tuple #[]) ∧ Ps w p v pb vp (layE n st s) (ys ++ [(n, st)]) w' := by
  refine PutT p _ _ _ _ n st v s w h.wr (fun w' => Ps w p v pb vp (layE n st s) (ys ++ [(n, st)]) w') (fun h => absurd hz h) (fun _ w1 hb => ?_) ent_thg1
  exact (thg1 p pb v vp s ys hl n hn st hst w1 (h.new hb)).mono fun en w' h => ⟨h.1, h.2.base hb⟩
/-- what all puts leave: k of the things were handed on -/
structure Pa (w : World) (p : Nat) (v : Value) (pb : Nat) (vp : Value) (s : K.WS) (xs : List Tg) (w' : World) : Prop where
  ex : ∃ k, k ≤ xs.length ∧ Ps w p v pb vp (allW ((layF xs).take k) s) (xs.take k) w' ∧ (∀ i, i < k → (allW ((layF xs).take i) s).fault = 0) ∧ (k = xs.length ∨ (allW ((layF xs).take k) s).fault ≠ 0)
set_option maxRecDepth 10000 in
theorem putAllT (p pb cb : Nat) (v vp : Value) (s : K.WS) (a : Option Addr) (n c : Nat) (xs : List Tg) (D : Nat → Prop) (w : World) (h : Pq w p v pb vp s []) (hr : RdT D w a n xs) (hx : Fit xs) (hD : ∀ k, D k → ¬ Sq p v pb vp k ∧ k < w.heap.size) (hn : n ≤ 16777216) :
    Calls Tryz.prog 49 #[.pointer (some ⟨p, 0, none⟩), .agg (thF pb cb), .slice a n c] w fun en w' => en = .returned (.tuple #[]) ∧ Pa w p v pb vp s xs w' := by
  have HRd := hide hr
  have HFx := hide hx
  have HD := hide hD
  have HNX := hide hr.1
  have HI2 : Hid (∀ a b : Value, (Tryz.prog.info? 33).map (·.size) = some (#[a, b] : Array Value).size) := fun a b => by rw [info_thing]; rfl
  have HIF : Hid ((Tryz.prog.info? 37).map (·.size) = some (thF pb cb).size) := by show _ = _; kernel_rfl
  have hba := (Below.refl w.heap.size w).alloc (Nat.le_refl _) (.cells (thF pb cb) 37)
  have HH := hide (h.new hba)
  have HX := hide (heap_alloc_new w (.cells (thF pb cb) 37))
  have HK0 := hide (Keep.ofBelow (S := Sq p v pb vp) hba (Nat.le_refl _))
  clear hr hx hD h hba
  go_enter Tryz.func49, Tryz.ntmps49
  go_wp2
  change Code.wp _ _ _ _ (w.alloc (.cells (thF pb cb) 37))
  generalize w.alloc (.cells (thF pb cb) 37) = wa at *
  obtain ⟨bx, hbx⟩ : ∃ bx, w.heap.size = bx := ⟨_, rfl⟩
  rw [hbx]
  rw [hbx] at HX
  clear hbx
  go_loopw [11] (fun i wx => ∃ k : Nat, k ≤ n ∧ i = .int .i64 (k : Nat) ∧ (∀ i, i < k → (allW ((layF xs).take i) s).fault = 0) ∧ Hid (∃ v1 vp1, Pq wx p v1 pb vp1 (allW ((layF xs).take k) s) (xs.take k) ∧ (∀ k, Sq p v1 pb vp1 k → Sq p v pb vp k ∨ w.heap.size ≤ k) ∧ Keep (Sq p v pb vp) w wx ∧ wx.heap[bx]? = some (.cells (thF pb cb) 37 (0, 0)))) (fun i _ => n - (intOf i).toNat)
  case atStart => exact ⟨0, Nat.zero_le _, rfl, (fun i hi => by omega), v, vp, HH.out, fun _ h => .inl h, HK0.out, HX.out⟩
  case round =>
    clear HH HX HK0
    obtain ⟨k, hk, rfl, hf0, HI⟩ := hrel
    obtain ⟨v1, vp1, HQ⟩ : ∃ v1 vp1, Hid (Pq wr p v1 pb vp1 (allW ((layF xs).take k) s) (xs.take k) ∧ (∀ k, Sq p v1 pb vp1 k → Sq p v pb vp k ∨ w.heap.size ≤ k) ∧ Keep (Sq p v pb vp) w wr ∧ wr.heap[bx]? = some (.cells (thF pb cb) 37 (0, 0))) := HI.out
    have HF0 := hide hf0
    clear HI hf0
    by_cases hlt : k < n
    · obtain ⟨x, hx⟩ : ∃ x, xs[k]? = some x := ⟨_, List.getElem?_eq_getElem (by have := HNX.out; omega)⟩
      obtain ⟨b, off, rfl, hrow⟩ : ∃ b off, a = some ⟨b, off, none⟩ ∧ wr.rangeAt b (off + k * 2) (Tg.row x) := by
        rcases (RdT.keep HRd.out HQ.out.2.2.1 fun k hk => (HD.out k hk).1).2.2 with h0 | ⟨b, off, rfl, db, hr⟩
        · omega
        · exact ⟨b, off, rfl, hr k x hx⟩
      have HFX := hide (HFx.out x (List.mem_of_getElem? hx))
      have hfk : (layF xs)[k]? = some (layE x.1 x.2) := by unfold layF; rw [List.getElem?_map, hx]; rfl
      have HSC := hide (allW_succ (layF xs) k _ hfk s)
      have HTK : Hid (xs.take (k + 1) = xs.take k ++ [x]) := by show _ = _; rw [List.take_add_one, hx]; rfl
      have HTL : Hid ((xs.take k).length = k) := by show _ = _; rw [List.length_take]; have := HNX.out; omega
      obtain ⟨nn, st⟩ := x
      have HRW : Hid (wr.rangeAt b (off + k * 2) [.int .i64 nn, .string st]) := hrow
      clear hx hrow hfk
      obtain ⟨hx5, hb5⟩ : _ ∧ _ := ⟨setRow_heap (wr.alloc (.cells #[.int .i64 0, .string ⟨#[]⟩] 33)) wr.heap.size _ #[.int .i64 nn, .string st] _ _ (heap_alloc_new wr (.cells #[.int .i64 0, .string ⟨#[]⟩] 33)), (show Below wr.heap.size wr ((wr.alloc (.cells #[.int .i64 0, .string ⟨#[]⟩] 33)).setRow wr.heap.size #[.int .i64 nn, .string st]) from ((Below.refl _ _).alloc (Nat.le_refl _) _).trans ((keep_row _ _ _).below (by simp) fun k e => by rw [e]; exact Nat.le_refl _))⟩
      have HX5 := hide hx5
      have HB5 := hide hb5
      clear hx5 hb5
      go_upto_region 4 with (first
        | (refine wpList_load_mid rfl 33 _ rfl b (off + k * 2) rfl [.int .i64 nn, .string st] _ HRW.out Tryz.underlying33 rfl (HI2.out _ _) ?_)
        | (refine wpList_store_row rfl 33 _ _ rfl wr.heap.size #[.int .i64 nn, .string st] rfl rfl 33 _ (heap_alloc_new _ _) (HI2.out _ _) rfl (one2 _ _) ?_))
      change Code.wp _ _ _ _ ((wr.alloc (.cells #[.int .i64 0, .string ⟨#[]⟩] 33)).setRow wr.heap.size #[.int .i64 nn, .string st])
      generalize (wr.alloc (.cells #[.int .i64 0, .string ⟨#[]⟩] 33)).setRow wr.heap.size #[.int .i64 nn, .string st] = W5 at *
      have HQ5 := hide (HQ.out.1.new HB5.out)
      have HK5 := hide (HQ.out.2.2.1.more (Keep.ofBelow (S := Sq p v pb vp) HB5.out (Nat.le_refl _)))
      have HS5 := hide HQ.out.2.1
      have HX6 := hide (blkB HQ.out.2.2.2 HB5.out)
      have HST := hide (allW_stop (layF xs) k s)
      generalize wr.heap.size = tb at *
      clear HQ HRW HB5
      generalize hsk : allW ((layF xs).take k) s = sk at *
      have HSK := hide hsk
      clear hsk
      obtain ⟨av, cv, hav, _⟩ := ownsRow_rd HQ5.out.wr.row HQ5.out.wr.byt (by have := HQ5.out.wr.len; have := HQ5.out.wr.top; omega)
      subst hav
      have c0 := cell0 HQ5.out.wr.blk
      have c2 := cell2 HQ5.out.wr.blk
      by_cases hz : sk.fault = 0
      · have HZ := hide hz
        have c2' : W5.cell? ⟨p, 2, none⟩ = some (.int .i64 0) := by rw [c2, hz]; rfl
        clear c2 hz
        have HTW : Hid (thingW (layE nn st) sk = if (layE nn st sk).laid.length = sk.laid.length then (layE nn st sk).fail 22 else layE nn st sk) := by show _ = _; unfold thingW; rw [if_pos HZ.out]
        have HPU := hide (putThg p pb cb _ vp1 sk HZ.out (xs.take k) (by rw [HTL.out]; omega) nn HFX.out.1 st HFX.out.2 W5 HQ5.out)
        have HNb := hide (HQ5.out.notT HX6.out (by decide) (by decide) (by decide) (by decide))
        go_wp2_with (first
          | (refine wpList_load_row rfl 37 _ rfl bx rfl 37 (thF pb cb) (0, 0) _ HX6.out Tryz.underlying37 rfl HIF.out ?_)
          | (refine wpList_load_row rfl 33 _ rfl tb rfl 33 #[.int .i64 nn, .string st] (0, 0) _ HX5.out Tryz.underlying33 rfl (HI2.out _ _) ?_))
        go_at_call 35
        refine (HPU.out).mono ?_
        rintro e w6 ⟨rfl, h6⟩
        obtain ⟨v2, vp2, hq6, hs6⟩ := h6.ex
        have HX7 := hide (h6.keep.blk HX6.out HNb.out)
        have HK6 := hide (HK5.out.trans h6.keep HS5.out)
        have HS6 : Hid (∀ k, Sq p v2 pb vp2 k → Sq p v pb vp k ∨ w.heap.size ≤ k) := fun k hk => by
          rcases hs6 k hk with h1 | h1
          · exact HS5.out k h1
          · exact .inr (Nat.le_trans HK5.out.size h1)
        have HQ6 := hide hq6
        clear h6 hs6 HPU HX6 HX5 HK5 HS5 hq6 c0 c2'
        obtain ⟨a2, cc2, ha2, _⟩ := ownsRow_rd HQ6.out.wr.row HQ6.out.wr.byt (by have := HQ6.out.wr.len; have := HQ6.out.wr.top; omega)
        subst ha2
        have d0 := cell0 HQ6.out.wr.blk
        have hl2 : (layE nn st sk).laid.length ≤ 16777216 := Nat.le_trans HQ6.out.wr.len HQ6.out.wr.top
        have hl1 : sk.laid.length ≤ 16777216 := Nat.le_trans HQ5.out.wr.len HQ5.out.wr.top
        have HF1 : Hid (∀ i, i < k + 1 → (allW ((layF xs).take i) s).fault = 0) := fun i hi => by
          rcases Nat.lt_or_ge i k with h | h
          · exact HF0.out i h
          · obtain rfl : i = k := by omega
            rw [HSK.out]; exact HZ.out
        clear HQ5
        by_cases hq : (layE nn st sk).laid.length = sk.laid.length
        · have hqq : (((layE nn st sk).laid.length : Int) == (sk.laid.length : Int)) = true := by rw [hq]; exact beq_self_eq_true _
          have HQq := hide hq
          clear hq
          go_wp2_with fail
          refine (Fail_any (Wset p (.slice a2 (layE nn st sk).laid.length cc2)) w6 p (layE nn st sk) _ ⟨Keep.refl _ _, _, HQ6.out.wr, fun _ hk => .inl hk⟩).mono ?_
          rintro e w7 ⟨rfl, h7⟩
          obtain ⟨v3, hv3, hs3⟩ := h7.wr
          have HQ7 : Hid (Pq w7 p v3 pb vp2 ((layE nn st sk).fail 22) (xs.take k ++ [(nn, st)])) := ⟨hv3, h7.keep.blk HQ6.out.pu HQ6.out.wnp, ownsRow_keepS HQ6.out.row h7.keep fun i hi e => HQ6.out.rowW i e hi⟩
          have HX8 := hide (h7.keep.blk HX7.out fun h => HQ6.out.notT HX7.out (by decide) (by decide) (by decide) (by decide) (.inl h))
          have HK7 := hide (HK6.out.trans h7.keep fun i h => HS6.out i (.inl h))
          have HS7 : Hid (∀ k, Sq p v3 pb vp2 k → Sq p v pb vp k ∨ w.heap.size ≤ k) := fun k hk => by
            rcases hk with hk | hk | hk
            · rcases hs3 k hk with h1 | h1
              · exact HS6.out k (.inl h1)
              · exact .inr (Nat.le_trans HK6.out.size h1)
            · exact HS6.out k (.inr (.inl hk))
            · exact HS6.out k (.inr (.inr hk))
          clear h7 hv3 hs3
          go_wp2_with fail
          go_roundw
          case rel => exact ⟨k + 1, by omega, by go_num, HF1.out, v3, vp2, by rw [HSC.out, HTW.out, if_pos HQq.out, HTK.out]; exact HQ7.out, HS7.out, HK7.out, HX8.out⟩
          case measure => simp [intOf]; omega
        · have hqq : (((layE nn st sk).laid.length : Int) == (sk.laid.length : Int)) = false := by rw [beq_eq_false_iff_ne]; omega
          have HQq := hide hq
          clear hq
          go_wp2
          refine ⟨⟨k + 1, by omega, by go_num, HF1.out, _, vp2, ?_, HS6.out, HK6.out, HX7.out⟩, by simp [intOf]; omega⟩
          rw [HSC.out, HTW.out, if_neg HQq.out, HTK.out]
          exact HQ6.out
      · have hzz : (((sk.fault : Nat) : Int) == 0) = false := by simpa using hz
        have HZ := hide hz
        clear hz
        go_wp2
        first | go_end0 | refine bodyPost_ret (results_none rfl _ _ _) rfl ?_
        refine ⟨rfl, ⟨k, by have := HNX.out; omega, ?_, HF0.out, .inr (by rw [HSK.out]; exact HZ.out)⟩⟩
        rw [HSK.out]
        exact Ps.trans HS5.out HK5.out (Ps.refl HQ5.out)
    · obtain rfl : k = n := by omega
      go_wp2
      go_end0
      exact ⟨rfl, ⟨k, by have := HNX.out; omega, Ps.trans HQ.out.2.1 HQ.out.2.2.1 (Ps.refl HQ.out.1), HF0.out, .inl HNX.out⟩⟩
end Wm
end Go.Proofs.YtoelgcagahmndaaGreat
