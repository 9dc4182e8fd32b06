import Derived.Test.YtoelgcagahmndaaGreatPPu1
import Derived.Test.YtoelgcagahmndaaGreatPTkB
import Derived.Test.YtoelgcagahmndaaGreatPRefWh
import Derived.Test.YtoelgcagahmndaaGreatPPu6
/- The law's laid of a step: the document's writer, plain values (written by laid_gen.py). -/
namespace Go.Proofs.YtoelgcagahmndaaGreat
namespace Wm
open Go.RowKit Go.Deep

set_option maxRecDepth 100000 in
theorem laid_num (S : Nat → Prop) (w0 : World) (p : Nat) (s : K.WS) (wh : Int) (le mo nn : Int) (hnn : nn ≤ 9223372036854775807) (x4 x5 x6 x7 x8 x9 x10 : Value) (w : World) (h : VAt S w0 p s w) (h1 : -9223372036854775808 ≤ wh) (h2 : wh ≤ 9223372036854775807) (hk : ((pk wh : Nat) : Int) = 0)  :
    Calls Tryz.prog 32 #[.pointer (some ⟨p, 0, none⟩), .agg #[.int .i64 wh, .int .i64 le, .int .i64 mo, .int .i64 nn, x4, x5, x6, x7, x8, x9, x10]] w fun en w' => en = .returned (.tuple #[]) ∧ VAt S w0 p (putW (numW le mo nn) s) w' := by
  have hb0 := (Below.refl w.heap.size w).alloc (Nat.le_refl _) (.cells #[.int .i64 wh, .int .i64 le, .int .i64 mo, .int .i64 nn, x4, x5, x6, x7, x8, x9, x10] 74)
  have HA := hide (h.below hb0)
  have HX := hide (heap_alloc_new w (.cells #[.int .i64 wh, .int .i64 le, .int .i64 mo, .int .i64 nn, x4, x5, x6, x7, x8, x9, x10] 74))
  clear hb0 h
  go_enter Tryz.func32, Tryz.ntmps32
  go_upto_region 1 with fail
  generalize w.alloc (.cells #[.int .i64 wh, .int .i64 le, .int .i64 mo, .int .i64 nn, x4, x5, x6, x7, x8, x9, x10] 74) = W at *
  generalize w.heap.size = g at *
  obtain ⟨y0, y1, y2, y3, y4, y5, y6, y7, y8, y9, y10⟩ := cells11 HX.out
  go_wp2_with fail
  refine (pick_any wh h1 h2 _).mono ?_
  rintro e w1 ⟨rfl, rfl⟩
  rw [hk]
  go_wp2_with fail
  refine (RNumber_any S w0 p le mo nn hnn s _ HA.out).mono ?_
  rintro e w2 ⟨rfl, h2⟩
  have H2 := hide h2
  clear h2
  go_wp2_with fail
  go_end0
  exact ⟨rfl, H2.out⟩
set_option maxRecDepth 100000 in
theorem laid_word (S : Nat → Prop) (w0 : World) (p : Nat) (s : K.WS) (wh : Int) (X : Nat) (hX : X < 18446744073709551616) (x1 x2 x3 x5 x6 x7 x8 x9 x10 : Value) (w : World) (h : VAt S w0 p s w) (h1 : -9223372036854775808 ≤ wh) (h2 : wh ≤ 9223372036854775807) (hk : ((pk wh : Nat) : Int) = 1)  :
    Calls Tryz.prog 32 #[.pointer (some ⟨p, 0, none⟩), .agg #[.int .i64 wh, x1, x2, x3, .int .u64 (X : Nat), x5, x6, x7, x8, x9, x10]] w fun en w' => en = .returned (.tuple #[]) ∧ VAt S w0 p (putW (wordW X) s) w' := by
  have hb0 := (Below.refl w.heap.size w).alloc (Nat.le_refl _) (.cells #[.int .i64 wh, x1, x2, x3, .int .u64 (X : Nat), x5, x6, x7, x8, x9, x10] 74)
  have HA := hide (h.below hb0)
  have HX := hide (heap_alloc_new w (.cells #[.int .i64 wh, x1, x2, x3, .int .u64 (X : Nat), x5, x6, x7, x8, x9, x10] 74))
  clear hb0 h
  go_enter Tryz.func32, Tryz.ntmps32
  go_upto_region 1 with fail
  generalize w.alloc (.cells #[.int .i64 wh, x1, x2, x3, .int .u64 (X : Nat), x5, x6, x7, x8, x9, x10] 74) = W at *
  generalize w.heap.size = g at *
  obtain ⟨y0, y1, y2, y3, y4, y5, y6, y7, y8, y9, y10⟩ := cells11 HX.out
  go_wp2_with fail
  refine (pick_any wh h1 h2 _).mono ?_
  rintro e w1 ⟨rfl, rfl⟩
  rw [hk]
  go_wp2_with fail
  refine (RWord_any S w0 p X hX s _ HA.out).mono ?_
  rintro e w2 ⟨rfl, h2⟩
  have H2 := hide h2
  clear h2
  go_wp2_with fail
  go_end0
  exact ⟨rfl, H2.out⟩
set_option maxRecDepth 100000 in
theorem laid_flag (S : Nat → Prop) (w0 : World) (p : Nat) (s : K.WS) (wh : Int) (F : Bool) (x1 x2 x3 x4 x6 x7 x8 x9 x10 : Value) (w : World) (h : VAt S w0 p s w) (h1 : -9223372036854775808 ≤ wh) (h2 : wh ≤ 9223372036854775807) (hk : ((pk wh : Nat) : Int) = 2)  :
    Calls Tryz.prog 32 #[.pointer (some ⟨p, 0, none⟩), .agg #[.int .i64 wh, x1, x2, x3, x4, .bool F, x6, x7, x8, x9, x10]] w fun en w' => en = .returned (.tuple #[]) ∧ VAt S w0 p (putW (flagW F) s) w' := by
  have hb0 := (Below.refl w.heap.size w).alloc (Nat.le_refl _) (.cells #[.int .i64 wh, x1, x2, x3, x4, .bool F, x6, x7, x8, x9, x10] 74)
  have HA := hide (h.below hb0)
  have HX := hide (heap_alloc_new w (.cells #[.int .i64 wh, x1, x2, x3, x4, .bool F, x6, x7, x8, x9, x10] 74))
  clear hb0 h
  go_enter Tryz.func32, Tryz.ntmps32
  go_upto_region 1 with fail
  generalize w.alloc (.cells #[.int .i64 wh, x1, x2, x3, x4, .bool F, x6, x7, x8, x9, x10] 74) = W at *
  generalize w.heap.size = g at *
  obtain ⟨y0, y1, y2, y3, y4, y5, y6, y7, y8, y9, y10⟩ := cells11 HX.out
  go_wp2_with fail
  refine (pick_any wh h1 h2 _).mono ?_
  rintro e w1 ⟨rfl, rfl⟩
  rw [hk]
  go_wp2_with fail
  refine (RFlag_any S w0 p F s _ HA.out).mono ?_
  rintro e w2 ⟨rfl, h2⟩
  have H2 := hide h2
  clear h2
  go_wp2_with fail
  go_end0
  exact ⟨rfl, H2.out⟩
set_option maxRecDepth 100000 in
theorem laid_text (S : Nat → Prop) (w0 : World) (p : Nat) (s : K.WS) (wh : Int) (mo : Int) (st : ByteArray) (hst : st.size ≤ 140737488351232) (x1 x3 x4 x5 x7 x8 x9 x10 : Value) (w : World) (h : VAt S w0 p s w) (h1 : -9223372036854775808 ≤ wh) (h2 : wh ≤ 9223372036854775807) (hk : ((pk wh : Nat) : Int) = 3)  :
    Calls Tryz.prog 32 #[.pointer (some ⟨p, 0, none⟩), .agg #[.int .i64 wh, x1, .int .i64 mo, x3, x4, x5, .string st, x7, x8, x9, x10]] w fun en w' => en = .returned (.tuple #[]) ∧ VAt S w0 p (putW (textW mo (sb st)) s) w' := by
  have hb0 := (Below.refl w.heap.size w).alloc (Nat.le_refl _) (.cells #[.int .i64 wh, x1, .int .i64 mo, x3, x4, x5, .string st, x7, x8, x9, x10] 74)
  have HA := hide (h.below hb0)
  have HX := hide (heap_alloc_new w (.cells #[.int .i64 wh, x1, .int .i64 mo, x3, x4, x5, .string st, x7, x8, x9, x10] 74))
  clear hb0 h
  go_enter Tryz.func32, Tryz.ntmps32
  go_upto_region 1 with fail
  generalize w.alloc (.cells #[.int .i64 wh, x1, .int .i64 mo, x3, x4, x5, .string st, x7, x8, x9, x10] 74) = W at *
  generalize w.heap.size = g at *
  obtain ⟨y0, y1, y2, y3, y4, y5, y6, y7, y8, y9, y10⟩ := cells11 HX.out
  go_wp2_with fail
  refine (pick_any wh h1 h2 _).mono ?_
  rintro e w1 ⟨rfl, rfl⟩
  rw [hk]
  go_wp2_with fail
  refine (RText_any S w0 p mo st hst s _ HA.out).mono ?_
  rintro e w2 ⟨rfl, h2⟩
  have H2 := hide h2
  clear h2
  go_wp2_with fail
  go_end0
  exact ⟨rfl, H2.out⟩
set_option maxRecDepth 100000 in
theorem laid_blob (S : Nat → Prop) (w0 : World) (p : Nat) (s : K.WS) (wh : Int) (mo : Int) (aB : Option Addr) (nB cB : Nat) (lB : List Nat) (hn : nB ≤ 140737488351232) (hB0 : aB = none → cB = 0) (x1 x3 x4 x5 x6 x8 x9 x10 : Value) (w : World) (h : VAt S w0 p s w) (h1 : -9223372036854775808 ≤ wh) (h2 : wh ≤ 9223372036854775807) (hk : ((pk wh : Nat) : Int) = 4) (hR : Rd w aB nB lB) :
    Calls Tryz.prog 32 #[.pointer (some ⟨p, 0, none⟩), .agg #[.int .i64 wh, x1, .int .i64 mo, x3, x4, x5, x6, .slice aB nB cB, x8, x9, x10]] w fun en w' => en = .returned (.tuple #[]) ∧ VAt S w0 p (putW (textW mo lB) s) w' := by
  have hb0 := (Below.refl w.heap.size w).alloc (Nat.le_refl _) (.cells #[.int .i64 wh, x1, .int .i64 mo, x3, x4, x5, x6, .slice aB nB cB, x8, x9, x10] 74)
  have HA := hide (h.below hb0)
  have HX := hide (heap_alloc_new w (.cells #[.int .i64 wh, x1, .int .i64 mo, x3, x4, x5, x6, .slice aB nB cB, x8, x9, x10] 74))
  have HR := hide (hR.keep hb0)
  have HB0 := hide hB0
  clear hR hB0
  clear hb0 h
  go_enter Tryz.func32, Tryz.ntmps32
  go_upto_region 1 with fail
  generalize w.alloc (.cells #[.int .i64 wh, x1, .int .i64 mo, x3, x4, x5, x6, .slice aB nB cB, x8, x9, x10] 74) = W at *
  generalize w.heap.size = g at *
  obtain ⟨y0, y1, y2, y3, y4, y5, y6, y7, y8, y9, y10⟩ := cells11 HX.out
  go_wp2_with fail
  refine (pick_any wh h1 h2 _).mono ?_
  rintro e w1 ⟨rfl, rfl⟩
  rw [hk]
  go_wp2_with fail
  refine (RBlob_any S w0 p mo aB nB cB lB s _ HA.out HR.out HB0.out hn).mono ?_
  rintro e w2 ⟨rfl, h2⟩
  have H2 := hide h2
  clear h2
  go_wp2_with fail
  go_end0
  exact ⟨rfl, H2.out⟩
set_option maxRecDepth 100000 in
theorem laid_fail (S : Nat → Prop) (w0 : World) (p : Nat) (s : K.WS) (wh : Int)  (x1 x2 x3 x4 x5 x6 x7 x8 x9 x10 : Value) (w : World) (h : VAt S w0 p s w) (h1 : -9223372036854775808 ≤ wh) (h2 : wh ≤ 9223372036854775807) (hk : ((pk wh : Nat) : Int) = 9)  :
    Calls Tryz.prog 32 #[.pointer (some ⟨p, 0, none⟩), .agg #[.int .i64 wh, x1, x2, x3, x4, x5, x6, x7, x8, x9, x10]] w fun en w' => en = .returned (.tuple #[]) ∧ VAt S w0 p (s.fail 22) w' := by
  have hb0 := (Below.refl w.heap.size w).alloc (Nat.le_refl _) (.cells #[.int .i64 wh, x1, x2, x3, x4, x5, x6, x7, x8, x9, x10] 74)
  have HA := hide (h.below hb0)
  have HX := hide (heap_alloc_new w (.cells #[.int .i64 wh, x1, x2, x3, x4, x5, x6, x7, x8, x9, x10] 74))
  clear hb0 h
  go_enter Tryz.func32, Tryz.ntmps32
  go_upto_region 1 with fail
  generalize w.alloc (.cells #[.int .i64 wh, x1, x2, x3, x4, x5, x6, x7, x8, x9, x10] 74) = W at *
  generalize w.heap.size = g at *
  obtain ⟨y0, y1, y2, y3, y4, y5, y6, y7, y8, y9, y10⟩ := cells11 HX.out
  go_wp2_with fail
  refine (pick_any wh h1 h2 _).mono ?_
  rintro e w1 ⟨rfl, rfl⟩
  rw [hk]
  go_wp2_with fail
  refine (wrong_any S w0 p s 22 _ HA.out).mono ?_
  rintro e w2 ⟨rfl, h2⟩
  have H2 := hide h2
  clear h2
  go_wp2_with fail
  go_end0
  exact ⟨rfl, H2.out⟩
set_option maxRecDepth 100000 in
theorem laid_look (S : Nat → Prop) (w0 : World) (p : Nat) (s : K.WS) (wh : Int)  (x1 x2 x3 x4 x5 x6 x7 x8 x9 x10 : Value) (w : World) (h : VAt S w0 p s w) (h1 : -9223372036854775808 ≤ wh) (h2 : wh ≤ 9223372036854775807) (hk : ((pk wh : Nat) : Int) = 10)  :
    Calls Tryz.prog 32 #[.pointer (some ⟨p, 0, none⟩), .agg #[.int .i64 wh, x1, x2, x3, x4, x5, x6, x7, x8, x9, x10]] w fun en w' => en = .returned (.tuple #[]) ∧ VAt S w0 p (s) w' := by
  have hb0 := (Below.refl w.heap.size w).alloc (Nat.le_refl _) (.cells #[.int .i64 wh, x1, x2, x3, x4, x5, x6, x7, x8, x9, x10] 74)
  have HA := hide (h.below hb0)
  have HX := hide (heap_alloc_new w (.cells #[.int .i64 wh, x1, x2, x3, x4, x5, x6, x7, x8, x9, x10] 74))
  clear hb0 h
  go_enter Tryz.func32, Tryz.ntmps32
  go_upto_region 1 with fail
  generalize w.alloc (.cells #[.int .i64 wh, x1, x2, x3, x4, x5, x6, x7, x8, x9, x10] 74) = W at *
  generalize w.heap.size = g at *
  obtain ⟨y0, y1, y2, y3, y4, y5, y6, y7, y8, y9, y10⟩ := cells11 HX.out
  go_wp2_with fail
  refine (pick_any wh h1 h2 _).mono ?_
  rintro e w1 ⟨rfl, rfl⟩
  rw [hk]
  go_wp2_with fail
  go_end0
  exact ⟨rfl, HA.out⟩
end Wm
end Go.Proofs.YtoelgcagahmndaaGreat

/- The law's laid of a step: lists (written by laidl_gen.py). -/
namespace Go.Proofs.YtoelgcagahmndaaGreat
namespace Wm
open Go.RowKit Go.Deep

theorem els_keepS {D T : Nat → Prop} {w w' : World} {a : Option Addr} {n : Nat} {vs : List Value} (h : Els D w a n vs) (hk : Keep T w w') (hD : ∀ b, D b → ¬ T b) : Els D w' a n vs := by
  refine ⟨h.1, h.2.1, h.2.2.imp id ?_⟩
  rintro ⟨b, off, e, hd, hc⟩
  exact ⟨b, off, e, hd, fun i v hv => hk.cell (hc i v hv) (hD b hd)⟩
/-- a call on the document's writer: what lies beside it stays -/
theorem v_step {S : Nat → Prop} {w0 W : World} {p g : Nat} {s : K.WS} {cs : Array Value} {t : TypeId} {a : Option Addr} {n : Nat} {vs : List Value} (h : VAt S w0 p s W) (hx : W.heap[g]? = some (.cells cs t (0, 0))) (h1 : t ≠ 48) (h2 : t ≠ 5) (hE : Els (fun b => ¬ S b ∧ b < w0.heap.size) W a n vs) :
    ∃ v, VAt (Wset p v) W p s W ∧ ∀ s' w', VAt (Wset p v) W p s' w' → VAt S w0 p s' w' ∧ w'.heap[g]? = some (.cells cs t (0, 0)) ∧ Els (fun b => ¬ S b ∧ b < w0.heap.size) w' a n vs := by
  obtain ⟨v, hv, hs⟩ := h.wr
  refine ⟨v, ⟨Keep.refl _ _, v, hv, fun _ hk => .inl hk⟩, fun s' w' h' => ?_⟩
  obtain ⟨v', hv', hs'⟩ := h'.wr
  have hg : ¬ Wset p v g := by
    rintro (e | e)
    · subst e
      rw [hv.blk] at hx
      injection hx with hx
      injection hx with _ hx
      exact h1 hx.symm
    · rcases hv.row.2 with ⟨e', _⟩ | ⟨g', cap, cur, e', _, hg', _⟩
      · rw [e'] at e; cases e
      · rw [e'] at e
        have e2 : g' = g := by simpa [Value.ownBlock] using e
        subst e2
        rw [hx] at hg'
        injection hg' with hg'
        injection hg' with _ hg'
        exact h2 hg'
  refine ⟨⟨h.keep.trans h'.keep hs, v', hv', fun k hk => ?_⟩, h'.keep.blk hx hg, els_keepS hE h'.keep fun b hb hw => ?_⟩
  · rcases hs' k hk with h5 | h5
    · exact hs k h5
    · exact .inr (Nat.le_trans h.keep.size h5)
  · rcases hs b hw with h5 | h5
    · exact hb.1 h5
    · exact Nat.not_lt.2 h5 hb.2
set_option maxRecDepth 100000 in
set_option maxHeartbeats 4000000 in
theorem laid_list (S : Nat → Prop) (w0 : World) (p : Nat) (s : K.WS) (wh : Int) (le mo : Int) (aL : Option Addr) (nL cL : Nat) (L : List Int) (x3 x4 x5 x6 x7 x9 x10 : Value) (w : World) (h : VAt S w0 p s w) (h1 : -9223372036854775808 ≤ wh) (h2 : wh ≤ 9223372036854775807) (hk : ((pk wh : Nat) : Int) = 5) (hE : Els (fun b => ¬ S b ∧ b < w0.heap.size) w aL nL (iv L)) (hY : ∀ y ∈ L, y ≤ 9223372036854775807) :
    Calls Tryz.prog 32 #[.pointer (some ⟨p, 0, none⟩), .agg #[.int .i64 wh, .int .i64 le, .int .i64 mo, x3, x4, x5, x6, x7, .slice aL nL cL, x9, x10]] w fun en w' => en = .returned (.tuple #[]) ∧ VAt S w0 p (putsW (L.map (numW le 9223372036854775807)) (putW (headW mo nL) s)) w' := by
  have hb0 := (Below.refl w.heap.size w).alloc (Nat.le_refl _) (.cells #[.int .i64 wh, .int .i64 le, .int .i64 mo, x3, x4, x5, x6, x7, .slice aL nL cL, x9, x10] 74)
  have HA := hide (h.below hb0)
  have HX := hide (heap_alloc_new w (.cells #[.int .i64 wh, .int .i64 le, .int .i64 mo, x3, x4, x5, x6, x7, .slice aL nL cL, x9, x10] 74))
  have HE := hide (els_keep hE hb0 fun _ h => h)
  have HLn : Hid (nL = L.length) := by show _ = _; have := hE.1; unfold iv at this; rw [List.length_map] at this; exact this
  have hnL := hE.2.1
  have HY := hide hY
  clear hb0 h hE hY
  go_enter Tryz.func32, Tryz.ntmps32
  go_upto_region 1 with fail
  generalize w.alloc (.cells #[.int .i64 wh, .int .i64 le, .int .i64 mo, x3, x4, x5, x6, x7, .slice aL nL cL, x9, x10] 74) = W at *
  generalize w.heap.size = g at *
  obtain ⟨y0, y1, y2, y3, y4, y5, y6, y7, y8, y9, y10⟩ := cells11 HX.out
  go_wp2_with fail
  refine (pick_any wh h1 h2 _).mono ?_
  rintro e w1 ⟨rfl, rfl⟩
  rw [hk]
  go_wp2_with fail
  obtain ⟨v, hv, hst⟩ := v_step HA.out HX.out (by decide) (by decide) HE.out
  have HST := hide hst
  refine (RHead_any (Wset p v) _ p mo nL hnL s _ hv).mono ?_
  rintro e w2 ⟨rfl, h2⟩
  have I2 := hide (HST.out _ _ h2)
  clear h2 HST hv hst HA HX HE y0 y1 y2 y3 y4 y5 y6 y7 y8 y9 y10
  generalize hs2 : putW (headW mo nL) s = s2 at *
  have HS2 := hide hs2
  clear hs2
  go_wp2_with fail
  go_loopw [4] (fun kv wr => ∃ k : Nat, kv = .int .i64 (k : Nat) ∧ k ≤ nL ∧ Hid (VAt S w0 p (putsW ((L.map (numW le 9223372036854775807)).take k) s2) wr ∧ wr.heap[g]? = some (.cells #[.int .i64 wh, .int .i64 le, .int .i64 mo, x3, x4, x5, x6, x7, .slice aL nL cL, x9, x10] 74 (0, 0)) ∧ Els (fun b => ¬ S b ∧ b < w0.heap.size) wr aL nL (iv L))) (fun kv _ => nL - (intOf kv).toNat)
  case atStart => exact ⟨0, rfl, Nat.zero_le _, I2.out⟩
  case round => as_aux_lemma =>
    clear I2
    obtain ⟨k, rfl, hk2, HD⟩ := hrel
    obtain ⟨y0, y1, y2, y3, y4, y5, y6, y7, y8, y9, y10⟩ := cells11 HD.out.2.1
    by_cases hlt : k < nL
    · have hlt' : (k : Int) < (nL : Int) := by omega
      obtain ⟨y, hy⟩ : ∃ y, L[k]? = some y := ⟨_, List.getElem?_eq_getElem (by have := HLn.out; omega)⟩
      have hiv : (iv L)[k]? = some (.int .i64 y) := by unfold iv; rw [List.getElem?_map, hy]; rfl
      have HF : Hid (putsW ((L.map (numW le 9223372036854775807)).take (k + 1)) s2 = putW (numW le 9223372036854775807 y) (putsW ((L.map (numW le 9223372036854775807)).take k) s2)) := puts_succ _ k _ (by rw [List.getElem?_map, hy]; rfl) s2
      have hyb := HY.out y (List.mem_of_getElem? hy)
      obtain ⟨b, off, eA, HC⟩ : ∃ b off, aL = some ⟨b, off, none⟩ ∧ Hid (∀ W' : World, Els (fun b => ¬ S b ∧ b < w0.heap.size) W' aL nL (iv L) → W'.cell? ⟨b, off + k, none⟩ = some (.int .i64 y)) := by
        rcases HD.out.2.2.2.2 with h0 | ⟨b, off, e, _, hc⟩
        · omega
        · refine ⟨b, off, e, fun W' hE' => ?_⟩
          rcases hE'.2.2 with h0 | ⟨b', off', e', _, hc'⟩
          · omega
          · rw [e] at e'
            injection e' with e'
            injection e' with e1 e2
            subst e1 e2
            exact hc' k _ hiv
      subst eA
      go_upto_region 17 with fail
      clear y0 y1 y2 y3 y4 y5 y6 y7 y8 y9 y10 hiv hy
      have HDd : Hid (VAt S w0 p (putsW ((L.map (numW le 9223372036854775807)).take k) s2) wr.drew ∧ wr.drew.heap[g]? = some (.cells #[.int .i64 wh, .int .i64 le, .int .i64 mo, x3, x4, x5, x6, x7, .slice (some ⟨b, off, none⟩) nL cL, x9, x10] 74 (0, 0)) ∧ Els (fun b => ¬ S b ∧ b < w0.heap.size) wr.drew (some ⟨b, off, none⟩) nL (iv L)) := ⟨HD.out.1.drew, HD.out.2.1, els_keep HD.out.2.2 (Below.refl _ _).drew fun _ h => h⟩
      obtain ⟨v3, hv3, hst3⟩ := v_step HDd.out.1 HDd.out.2.1 (by decide) (by decide) HDd.out.2.2
      have HST3 := hide hst3
      have HV3 := hide hv3
      clear hv3 hst3
      have HS : Hid (∀ W' : World, W'.heap[g]? = some (.cells #[.int .i64 wh, .int .i64 le, .int .i64 mo, x3, x4, x5, x6, x7, .slice (some ⟨b, off, none⟩) nL cL, x9, x10] 74 (0, 0)) → W'.cell? ⟨b, off + k, none⟩ = some (.int .i64 y) → (fun W' : World => W'.cell? ⟨g, 1, none⟩ = some (.int .i64 le) ∧ W'.cell? ⟨g, 8, none⟩ = some (.slice (some ⟨b, off, none⟩) nL cL) ∧ W'.cell? ⟨b, off + k, none⟩ = some (.int .i64 y)) W') := fun W' k k2 => ⟨(cells11 k).2.1, (cells11 k).2.2.2.2.2.2.2.2.1, k2⟩
      go_region_held3 (fun W' : World => W'.cell? ⟨g, 1, none⟩ = some (.int .i64 le) ∧ W'.cell? ⟨g, 8, none⟩ = some (.slice (some ⟨b, off, none⟩) nL cL) ∧ W'.cell? ⟨b, off + k, none⟩ = some (.int .i64 y)) (first | (exact HS.out _ HDd.out.2.1 (HC.out _ HDd.out.2.2)) | (exact HS.out _ I3.out.2.1 (HC.out _ I3.out.2.2)) | (exact HS.out _ HD.out.2.1 (HC.out _ HD.out.2.2)) | go_keep)
        (first | (go_at_call 63; refine (RNumber_any (Wset p v3) _ p le 9223372036854775807 y hyb _ _ HV3.out).mono ?_; rintro e w3 ⟨rfl, h3⟩; rw [← HF.out] at h3; have I3 := hide (HST3.out _ _ h3); clear h3))
      go_wp2_with fail
      go_roundw
      · exact ⟨k + 1, rfl, by omega, I3.out⟩
      · show nL - ((k : Int) + 1).toNat < nL - (k : Int).toNat
        omega
    · obtain rfl : k = nL := by omega
      have hge : ¬ ((k : Int) < (k : Int)) := by omega
      have HZ : Hid (VAt S w0 p (putsW (L.map (numW le 9223372036854775807)) s2) wr) := by
        have := HD.out.1
        rw [List.take_of_length_le (by rw [List.length_map]; have := HLn.out; omega)] at this
        exact this
      clear HD
      go_wp2_with fail
      go_end0
      refine ⟨rfl, ?_⟩
      rw [HS2.out]
      exact HZ.out
set_option maxRecDepth 100000 in
set_option maxHeartbeats 4000000 in
theorem laid_texts (S : Nat → Prop) (w0 : World) (p : Nat) (s : K.WS) (wh : Int) (mo nn : Int) (aL : Option Addr) (nL cL : Nat) (T : List ByteArray) (x1 x4 x5 x6 x7 x8 x10 : Value) (w : World) (h : VAt S w0 p s w) (h1 : -9223372036854775808 ≤ wh) (h2 : wh ≤ 9223372036854775807) (hk : ((pk wh : Nat) : Int) = 6) (hE : Els (fun b => ¬ S b ∧ b < w0.heap.size) w aL nL (sv T)) (hY : ∀ y ∈ T, y.size ≤ 140737488351232) :
    Calls Tryz.prog 32 #[.pointer (some ⟨p, 0, none⟩), .agg #[.int .i64 wh, x1, .int .i64 mo, .int .i64 nn, x4, x5, x6, x7, x8, .slice aL nL cL, x10]] w fun en w' => en = .returned (.tuple #[]) ∧ VAt S w0 p (putsW (T.map fun t => textW nn (sb t)) (putW (headW mo nL) s)) w' := by
  have hb0 := (Below.refl w.heap.size w).alloc (Nat.le_refl _) (.cells #[.int .i64 wh, x1, .int .i64 mo, .int .i64 nn, x4, x5, x6, x7, x8, .slice aL nL cL, x10] 74)
  have HA := hide (h.below hb0)
  have HX := hide (heap_alloc_new w (.cells #[.int .i64 wh, x1, .int .i64 mo, .int .i64 nn, x4, x5, x6, x7, x8, .slice aL nL cL, x10] 74))
  have HE := hide (els_keep hE hb0 fun _ h => h)
  have HLn : Hid (nL = T.length) := by show _ = _; have := hE.1; unfold sv at this; rw [List.length_map] at this; exact this
  have hnL := hE.2.1
  have HY := hide hY
  clear hb0 h hE hY
  go_enter Tryz.func32, Tryz.ntmps32
  go_upto_region 1 with fail
  generalize w.alloc (.cells #[.int .i64 wh, x1, .int .i64 mo, .int .i64 nn, x4, x5, x6, x7, x8, .slice aL nL cL, x10] 74) = W at *
  generalize w.heap.size = g at *
  obtain ⟨y0, y1, y2, y3, y4, y5, y6, y7, y8, y9, y10⟩ := cells11 HX.out
  go_wp2_with fail
  refine (pick_any wh h1 h2 _).mono ?_
  rintro e w1 ⟨rfl, rfl⟩
  rw [hk]
  go_wp2_with fail
  obtain ⟨v, hv, hst⟩ := v_step HA.out HX.out (by decide) (by decide) HE.out
  have HST := hide hst
  refine (RHead_any (Wset p v) _ p mo nL hnL s _ hv).mono ?_
  rintro e w2 ⟨rfl, h2⟩
  have I2 := hide (HST.out _ _ h2)
  clear h2 HST hv hst HA HX HE y0 y1 y2 y3 y4 y5 y6 y7 y8 y9 y10
  generalize hs2 : putW (headW mo nL) s = s2 at *
  have HS2 := hide hs2
  clear hs2
  go_wp2_with fail
  go_loopw [5] (fun kv wr => ∃ k : Nat, kv = .int .i64 (k : Nat) ∧ k ≤ nL ∧ Hid (VAt S w0 p (putsW ((T.map fun t => textW nn (sb t)).take k) s2) wr ∧ wr.heap[g]? = some (.cells #[.int .i64 wh, x1, .int .i64 mo, .int .i64 nn, x4, x5, x6, x7, x8, .slice aL nL cL, x10] 74 (0, 0)) ∧ Els (fun b => ¬ S b ∧ b < w0.heap.size) wr aL nL (sv T))) (fun kv _ => nL - (intOf kv).toNat)
  case atStart => exact ⟨0, rfl, Nat.zero_le _, I2.out⟩
  case round => as_aux_lemma =>
    clear I2
    obtain ⟨k, rfl, hk2, HD⟩ := hrel
    obtain ⟨y0, y1, y2, y3, y4, y5, y6, y7, y8, y9, y10⟩ := cells11 HD.out.2.1
    by_cases hlt : k < nL
    · have hlt' : (k : Int) < (nL : Int) := by omega
      obtain ⟨y, hy⟩ : ∃ y, T[k]? = some y := ⟨_, List.getElem?_eq_getElem (by have := HLn.out; omega)⟩
      have hiv : (sv T)[k]? = some (.string y) := by unfold sv; rw [List.getElem?_map, hy]; rfl
      have HF : Hid (putsW ((T.map fun t => textW nn (sb t)).take (k + 1)) s2 = putW (textW nn (sb y)) (putsW ((T.map fun t => textW nn (sb t)).take k) s2)) := puts_succ _ k _ (by rw [List.getElem?_map, hy]; rfl) s2
      have hyb := HY.out y (List.mem_of_getElem? hy)
      obtain ⟨b, off, eA, HC⟩ : ∃ b off, aL = some ⟨b, off, none⟩ ∧ Hid (∀ W' : World, Els (fun b => ¬ S b ∧ b < w0.heap.size) W' aL nL (sv T) → W'.cell? ⟨b, off + k, none⟩ = some (.string y)) := by
        rcases HD.out.2.2.2.2 with h0 | ⟨b, off, e, _, hc⟩
        · omega
        · refine ⟨b, off, e, fun W' hE' => ?_⟩
          rcases hE'.2.2 with h0 | ⟨b', off', e', _, hc'⟩
          · omega
          · rw [e] at e'
            injection e' with e'
            injection e' with e1 e2
            subst e1 e2
            exact hc' k _ hiv
      subst eA
      go_upto_region 23 with fail
      clear y0 y1 y2 y3 y4 y5 y6 y7 y8 y9 y10 hiv hy
      have HDd : Hid (VAt S w0 p (putsW ((T.map fun t => textW nn (sb t)).take k) s2) wr.drew ∧ wr.drew.heap[g]? = some (.cells #[.int .i64 wh, x1, .int .i64 mo, .int .i64 nn, x4, x5, x6, x7, x8, .slice (some ⟨b, off, none⟩) nL cL, x10] 74 (0, 0)) ∧ Els (fun b => ¬ S b ∧ b < w0.heap.size) wr.drew (some ⟨b, off, none⟩) nL (sv T)) := ⟨HD.out.1.drew, HD.out.2.1, els_keep HD.out.2.2 (Below.refl _ _).drew fun _ h => h⟩
      obtain ⟨v3, hv3, hst3⟩ := v_step HDd.out.1 HDd.out.2.1 (by decide) (by decide) HDd.out.2.2
      have HST3 := hide hst3
      have HV3 := hide hv3
      clear hv3 hst3
      have HS : Hid (∀ W' : World, W'.heap[g]? = some (.cells #[.int .i64 wh, x1, .int .i64 mo, .int .i64 nn, x4, x5, x6, x7, x8, .slice (some ⟨b, off, none⟩) nL cL, x10] 74 (0, 0)) → W'.cell? ⟨b, off + k, none⟩ = some (.string y) → (fun W' : World => W'.cell? ⟨g, 3, none⟩ = some (.int .i64 nn) ∧ W'.cell? ⟨g, 9, none⟩ = some (.slice (some ⟨b, off, none⟩) nL cL) ∧ W'.cell? ⟨b, off + k, none⟩ = some (.string y)) W') := fun W' k k2 => ⟨(cells11 k).2.2.2.1, (cells11 k).2.2.2.2.2.2.2.2.2.1, k2⟩
      go_region_held3 (fun W' : World => W'.cell? ⟨g, 3, none⟩ = some (.int .i64 nn) ∧ W'.cell? ⟨g, 9, none⟩ = some (.slice (some ⟨b, off, none⟩) nL cL) ∧ W'.cell? ⟨b, off + k, none⟩ = some (.string y)) (first | (exact HS.out _ HDd.out.2.1 (HC.out _ HDd.out.2.2)) | (exact HS.out _ I3.out.2.1 (HC.out _ I3.out.2.2)) | (exact HS.out _ HD.out.2.1 (HC.out _ HD.out.2.2)) | go_keep)
        (first | (go_at_call 64; refine (RText_any (Wset p v3) _ p nn y hyb _ _ HV3.out).mono ?_; rintro e w3 ⟨rfl, h3⟩; rw [← HF.out] at h3; have I3 := hide (HST3.out _ _ h3); clear h3))
      go_wp2_with fail
      go_roundw
      · exact ⟨k + 1, rfl, by omega, I3.out⟩
      · show nL - ((k : Int) + 1).toNat < nL - (k : Int).toNat
        omega
    · obtain rfl : k = nL := by omega
      have hge : ¬ ((k : Int) < (k : Int)) := by omega
      have HZ : Hid (VAt S w0 p (putsW (T.map fun t => textW nn (sb t)) s2) wr) := by
        have := HD.out.1
        rw [List.take_of_length_le (by rw [List.length_map]; have := HLn.out; omega)] at this
        exact this
      clear HD
      go_wp2_with fail
      go_end0
      refine ⟨rfl, ?_⟩
      rw [HS2.out]
      exact HZ.out
set_option maxRecDepth 100000 in
set_option maxHeartbeats 4000000 in
theorem laid_words (S : Nat → Prop) (w0 : World) (p : Nat) (s : K.WS) (wh : Int) (mo : Int) (aL : Option Addr) (nL cL : Nat) (L : List Int) (x1 x3 x4 x5 x6 x7 x9 x10 : Value) (w : World) (h : VAt S w0 p s w) (h1 : -9223372036854775808 ≤ wh) (h2 : wh ≤ 9223372036854775807) (hk : ((pk wh : Nat) : Int) = 8) (hE : Els (fun b => ¬ S b ∧ b < w0.heap.size) w aL nL (iv L)) (hY : ∀ y ∈ L, y ≤ 9223372036854775807) :
    Calls Tryz.prog 32 #[.pointer (some ⟨p, 0, none⟩), .agg #[.int .i64 wh, x1, .int .i64 mo, x3, x4, x5, x6, x7, .slice aL nL cL, x9, x10]] w fun en w' => en = .returned (.tuple #[]) ∧ VAt S w0 p (putsW (L.map fun y => wordW (wd y)) (putW (headW mo nL) s)) w' := by
  have hb0 := (Below.refl w.heap.size w).alloc (Nat.le_refl _) (.cells #[.int .i64 wh, x1, .int .i64 mo, x3, x4, x5, x6, x7, .slice aL nL cL, x9, x10] 74)
  have HA := hide (h.below hb0)
  have HX := hide (heap_alloc_new w (.cells #[.int .i64 wh, x1, .int .i64 mo, x3, x4, x5, x6, x7, .slice aL nL cL, x9, x10] 74))
  have HE := hide (els_keep hE hb0 fun _ h => h)
  have HLn : Hid (nL = L.length) := by show _ = _; have := hE.1; unfold iv at this; rw [List.length_map] at this; exact this
  have hnL := hE.2.1
  have HY := hide hY
  clear hb0 h hE hY
  go_enter Tryz.func32, Tryz.ntmps32
  go_upto_region 1 with fail
  generalize w.alloc (.cells #[.int .i64 wh, x1, .int .i64 mo, x3, x4, x5, x6, x7, .slice aL nL cL, x9, x10] 74) = W at *
  generalize w.heap.size = g at *
  obtain ⟨y0, y1, y2, y3, y4, y5, y6, y7, y8, y9, y10⟩ := cells11 HX.out
  go_wp2_with fail
  refine (pick_any wh h1 h2 _).mono ?_
  rintro e w1 ⟨rfl, rfl⟩
  rw [hk]
  go_wp2_with fail
  obtain ⟨v, hv, hst⟩ := v_step HA.out HX.out (by decide) (by decide) HE.out
  have HST := hide hst
  refine (RHead_any (Wset p v) _ p mo nL hnL s _ hv).mono ?_
  rintro e w2 ⟨rfl, h2⟩
  have I2 := hide (HST.out _ _ h2)
  clear h2 HST hv hst HA HX HE y0 y1 y2 y3 y4 y5 y6 y7 y8 y9 y10
  generalize hs2 : putW (headW mo nL) s = s2 at *
  have HS2 := hide hs2
  clear hs2
  go_wp2_with fail
  go_loopw [8] (fun kv wr => ∃ k : Nat, kv = .int .i64 (k : Nat) ∧ k ≤ nL ∧ Hid (VAt S w0 p (putsW ((L.map fun y => wordW (wd y)).take k) s2) wr ∧ wr.heap[g]? = some (.cells #[.int .i64 wh, x1, .int .i64 mo, x3, x4, x5, x6, x7, .slice aL nL cL, x9, x10] 74 (0, 0)) ∧ Els (fun b => ¬ S b ∧ b < w0.heap.size) wr aL nL (iv L))) (fun kv _ => nL - (intOf kv).toNat)
  case atStart => exact ⟨0, rfl, Nat.zero_le _, I2.out⟩
  case round => as_aux_lemma =>
    clear I2
    obtain ⟨k, rfl, hk2, HD⟩ := hrel
    obtain ⟨y0, y1, y2, y3, y4, y5, y6, y7, y8, y9, y10⟩ := cells11 HD.out.2.1
    by_cases hlt : k < nL
    · have hlt' : (k : Int) < (nL : Int) := by omega
      obtain ⟨y, hy⟩ : ∃ y, L[k]? = some y := ⟨_, List.getElem?_eq_getElem (by have := HLn.out; omega)⟩
      have hiv : (iv L)[k]? = some (.int .i64 y) := by unfold iv; rw [List.getElem?_map, hy]; rfl
      have HF : Hid (putsW ((L.map fun y => wordW (wd y)).take (k + 1)) s2 = putW (wordW (wd y)) (putsW ((L.map fun y => wordW (wd y)).take k) s2)) := puts_succ _ k _ (by rw [List.getElem?_map, hy]; rfl) s2
      have hyb := HY.out y (List.mem_of_getElem? hy)
      obtain ⟨b, off, eA, HC⟩ : ∃ b off, aL = some ⟨b, off, none⟩ ∧ Hid (∀ W' : World, Els (fun b => ¬ S b ∧ b < w0.heap.size) W' aL nL (iv L) → W'.cell? ⟨b, off + k, none⟩ = some (.int .i64 y)) := by
        rcases HD.out.2.2.2.2 with h0 | ⟨b, off, e, _, hc⟩
        · omega
        · refine ⟨b, off, e, fun W' hE' => ?_⟩
          rcases hE'.2.2 with h0 | ⟨b', off', e', _, hc'⟩
          · omega
          · rw [e] at e'
            injection e' with e'
            injection e' with e1 e2
            subst e1 e2
            exact hc' k _ hiv
      subst eA
      have ewd : IntKind.u64.wrap y = ((wd y : Nat) : Int) := by rw [IntKind.wrap_u64]; unfold wd; omega
      have hcl := HC.out _ HD.out.2.2
      obtain ⟨v3, hv3, hst3⟩ := v_step HD.out.1 HD.out.2.1 (by decide) (by decide) HD.out.2.2
      have HST3 := hide hst3
      have HV3 := hide hv3
      clear hv3 hst3 hyb
      clear hiv hy
      go_wp2_with fail
      refine (RWord_any (Wset p v3) _ p (wd y) (wd_lt y) _ _ HV3.out).mono ?_
      rintro e w3 ⟨rfl, h3⟩
      rw [← HF.out] at h3
      have I3 := hide (HST3.out _ _ h3)
      clear h3 hcl y0 y1 y2 y3 y4 y5 y6 y7 y8 y9 y10 HD HV3 HST3
      go_wp2_with fail
      go_roundw
      · exact ⟨k + 1, rfl, by omega, I3.out⟩
      · show nL - ((k : Int) + 1).toNat < nL - (k : Int).toNat
        omega
    · obtain rfl : k = nL := by omega
      have hge : ¬ ((k : Int) < (k : Int)) := by omega
      have HZ : Hid (VAt S w0 p (putsW (L.map fun y => wordW (wd y)) s2) wr) := by
        have := HD.out.1
        rw [List.take_of_length_le (by rw [List.length_map]; have := HLn.out; omega)] at this
        exact this
      clear HD
      go_wp2_with fail
      go_end0
      refine ⟨rfl, ?_⟩
      rw [HS2.out]
      exact HZ.out
end Wm
end Go.Proofs.YtoelgcagahmndaaGreat

/- The law's laid of a step: lists of lists. -/
namespace Go.Proofs.YtoelgcagahmndaaGreat
namespace Wm
open Go.RowKit Go.Deep

theorem lsts_keepS {D T : Nat → Prop} {w w' : World} {vs : List Value} {ls : List (List Int)} (h : Lsts D w vs ls) (hk : Keep T w w') (hD : ∀ b, D b → ¬ T b) : Lsts D w' vs ls := by
  refine ⟨h.1, fun i x l h1 h2 => ?_⟩
  obtain ⟨a, n, c, e, h3, h4⟩ := h.2 i x l h1 h2
  exact ⟨a, n, c, e, els_keepS h3 hk hD, h4⟩
/-- what lies beside the writers -/
structure Bes (S : Nat → Prop) (w0 : World) (g : Nat) (cs : Array Value) (aL : Option Addr) (nL : Nat) (vs : List Value) (ls : List (List Int)) (W : World) : Prop where
  box : W.heap[g]? = some (.cells cs 74 (0, 0))
  els : Els (fun b => ¬ S b ∧ b < w0.heap.size) W aL nL vs
  lst : Lsts (fun b => ¬ S b ∧ b < w0.heap.size) W vs ls
theorem Bes.drew {S : Nat → Prop} {w0 W : World} {g nL : Nat} {cs : Array Value} {aL : Option Addr} {vs : List Value} {ls : List (List Int)} (h : Bes S w0 g cs aL nL vs ls W) : Bes S w0 g cs aL nL vs ls W.drew :=
  ⟨h.box, els_keep h.els (Below.refl _ _).drew fun _ h => h, lsts_keep h.lst (Below.refl _ _).drew fun _ h => h⟩
theorem v_step2 {S : Nat → Prop} {w0 W : World} {p g : Nat} {s : K.WS} {cs : Array Value} {aL : Option Addr} {nL : Nat} {vs : List Value} {ls : List (List Int)} (h : VAt S w0 p s W) (hB : Bes S w0 g cs aL nL vs ls W) :
    ∃ v, VAt (Wset p v) W p s W ∧ ∀ s' w', VAt (Wset p v) W p s' w' → VAt S w0 p s' w' ∧ Bes S w0 g cs aL nL vs ls w' := by
  obtain ⟨v, hv, hs⟩ := h.wr
  have hD : ∀ b, ¬ S b ∧ b < w0.heap.size → ¬ Wset p v b := fun b hb hw => by
    rcases hs b hw with h5 | h5
    · exact hb.1 h5
    · exact Nat.not_lt.2 h5 hb.2
  have hg : ¬ Wset p v g := by
    rintro (e | e)
    · subst e
      have hx := hB.box
      rw [hv.blk] at hx
      injection hx with hx
      injection hx with _ hx
      exact absurd hx (by decide)
    · rcases hv.row.2 with ⟨e', _⟩ | ⟨g', cap, cur, e', _, hg', _⟩
      · rw [e'] at e; cases e
      · rw [e'] at e
        have e2 : g' = g := by simpa [Value.ownBlock] using e
        subst e2
        rw [hB.box] at hg'
        injection hg' with hg'
        injection hg' with _ hg'
        exact absurd hg' (by decide)
  refine ⟨v, ⟨Keep.refl _ _, v, hv, fun _ hk => .inl hk⟩, fun s' w' h' => ?_⟩
  obtain ⟨v', hv', hs'⟩ := h'.wr
  refine ⟨⟨h.keep.trans h'.keep hs, v', hv', fun k hk => ?_⟩, h'.keep.blk hB.box hg, els_keepS hB.els h'.keep hD, lsts_keepS hB.lst h'.keep hD⟩
  rcases hs' k hk with h5 | h5
  · exact hs k h5
  · exact .inr (Nat.le_trans h.keep.size h5)
set_option maxRecDepth 100000 in
set_option maxHeartbeats 4000000 in
theorem laid_lists (S : Nat → Prop) (w0 : World) (p : Nat) (s : K.WS) (wh : Int) (le mo nn : Int) (aL : Option Addr) (nL cL : Nat) (vs : List Value) (ls : List (List Int)) (x4 x5 x6 x7 x8 x9 : Value) (w : World) (h : VAt S w0 p s w) (h1 : -9223372036854775808 ≤ wh) (h2 : wh ≤ 9223372036854775807) (hk : ((pk wh : Nat) : Int) = 7) (hE : Els (fun b => ¬ S b ∧ b < w0.heap.size) w aL nL vs) (hY : Lsts (fun b => ¬ S b ∧ b < w0.heap.size) w vs ls) :
    Calls Tryz.prog 32 #[.pointer (some ⟨p, 0, none⟩), .agg #[.int .i64 wh, .int .i64 le, .int .i64 mo, .int .i64 nn, x4, x5, x6, x7, x8, x9, .slice aL nL cL]] w fun en w' => en = .returned (.tuple #[]) ∧ VAt S w0 p (putsW (ls.map fun d => listW (min le 16777216) (d.map (numW 0 nn))) (putW (headW mo nL) s)) w' := by
  have hb0 := (Below.refl w.heap.size w).alloc (Nat.le_refl _) (.cells #[.int .i64 wh, .int .i64 le, .int .i64 mo, .int .i64 nn, x4, x5, x6, x7, x8, x9, .slice aL nL cL] 74)
  have HA := hide (h.below hb0)
  have HX : Hid (Bes S w0 w.heap.size #[.int .i64 wh, .int .i64 le, .int .i64 mo, .int .i64 nn, x4, x5, x6, x7, x8, x9, .slice aL nL cL] aL nL vs ls (w.alloc (.cells #[.int .i64 wh, .int .i64 le, .int .i64 mo, .int .i64 nn, x4, x5, x6, x7, x8, x9, .slice aL nL cL] 74))) := ⟨heap_alloc_new w _, els_keep hE hb0 fun _ h => h, lsts_keep hY hb0 fun _ h => h⟩
  have HLn : Hid (nL = ls.length) := hE.1.trans hY.1
  have hnL := hE.2.1
  clear hb0 h hE hY
  go_enter Tryz.func32, Tryz.ntmps32
  go_upto_region 1 with fail
  generalize w.alloc (.cells #[.int .i64 wh, .int .i64 le, .int .i64 mo, .int .i64 nn, x4, x5, x6, x7, x8, x9, .slice aL nL cL] 74) = W at *
  generalize w.heap.size = g at *
  obtain ⟨y0, y1, y2, y3, y4, y5, y6, y7, y8, y9, y10⟩ := cells11 HX.out.box
  go_wp2_with fail
  refine (pick_any wh h1 h2 _).mono ?_
  rintro e w1 ⟨rfl, rfl⟩
  rw [hk]
  go_wp2_with fail
  obtain ⟨v, hv, hst⟩ := v_step2 HA.out HX.out
  have HST := hide hst
  refine (RHead_any (Wset p v) _ p mo nL hnL s _ hv).mono ?_
  rintro e w2 ⟨rfl, h2⟩
  have I2 := hide (HST.out _ _ h2)
  clear h2 HST hv hst HA HX y0 y1 y2 y3 y4 y5 y6 y7 y8 y9 y10
  generalize hs2 : putW (headW mo nL) s = s2 at *
  have HS2 := hide hs2
  clear hs2
  go_wp2_with fail
  go_loopw [6] (fun kv wr => ∃ k : Nat, kv = .int .i64 (k : Nat) ∧ k ≤ nL ∧ Hid (VAt S w0 p (putsW ((ls.map fun d => listW (min le 16777216) (d.map (numW 0 nn))).take k) s2) wr ∧ Bes S w0 g #[.int .i64 wh, .int .i64 le, .int .i64 mo, .int .i64 nn, x4, x5, x6, x7, x8, x9, .slice aL nL cL] aL nL vs ls wr)) (fun kv _ => nL - (intOf kv).toNat)
  case atStart => exact ⟨0, rfl, Nat.zero_le _, I2.out⟩
  case round => as_aux_lemma =>
    clear I2
    obtain ⟨k, rfl, hk2, HD⟩ := hrel
    obtain ⟨y0, y1, y2, y3, y4, y5, y6, y7, y8, y9, y10⟩ := cells11 HD.out.2.box
    by_cases hlt : k < nL
    · have hlt' : (k : Int) < (nL : Int) := by omega
      obtain ⟨d, hd⟩ : ∃ d, ls[k]? = some d := ⟨_, List.getElem?_eq_getElem (by have := HLn.out; omega)⟩
      obtain ⟨x, hx⟩ : ∃ x, vs[k]? = some x := ⟨_, List.getElem?_eq_getElem (by have := HD.out.2.els.1; omega)⟩
      obtain ⟨a2, n2, c2, hx2, hE2, hY2⟩ := HD.out.2.lst.2 k x d hx hd
      subst hx2
      have HF : Hid (putsW ((ls.map fun d => listW (min le 16777216) (d.map (numW 0 nn))).take (k + 1)) s2 = putW (listW (min le 16777216) (d.map (numW 0 nn))) (putsW ((ls.map fun d => listW (min le 16777216) (d.map (numW 0 nn))).take k) s2)) := puts_succ _ k _ (by rw [List.getElem?_map, hd]; rfl) s2
      have HN2 : Hid (n2 = d.length) := by show _ = _; have := hE2.1; unfold iv at this; rw [List.length_map] at this; exact this
      have hn2 := hE2.2.1
      have HY2 := hide hY2
      obtain ⟨b, off, eA, HC⟩ : ∃ b off, aL = some ⟨b, off, none⟩ ∧ Hid (∀ W' : World, Els (fun b => ¬ S b ∧ b < w0.heap.size) W' aL nL vs → W'.cell? ⟨b, off + k, none⟩ = some (.slice a2 n2 c2)) := by
        rcases HD.out.2.els.2.2 with h0 | ⟨b, off, e, _, hc⟩
        · omega
        · refine ⟨b, off, e, fun W' hE' => ?_⟩
          rcases hE'.2.2 with h0 | ⟨b', off', e', _, hc'⟩
          · omega
          · rw [e] at e'
            injection e' with e'
            injection e' with e1 e2
            subst e1 e2
            exact hc' k _ hx
      have HLL : Hid (∀ W' : World, Bes S w0 g #[.int .i64 wh, .int .i64 le, .int .i64 mo, .int .i64 nn, x4, x5, x6, x7, x8, x9, .slice aL nL cL] aL nL vs ls W' → Els (fun b => ¬ S b ∧ b < w0.heap.size) W' a2 n2 (iv d)) := fun W' h' => by
        obtain ⟨a', n', c', e', h3, _⟩ := h'.lst.2 k _ d hx hd
        injection e' with e1 e2 e3
        subst e1 e2 e3
        exact h3
      subst eA
      go_upto_region 29 with fail
      clear y0 y1 y2 y3 y4 y5 y6 y7 y8 y9 y10 hx hd hE2 hY2
      have HDd := hide (And.intro HD.out.1.drew HD.out.2.drew)
      obtain ⟨v3, hv3, hst3⟩ := v_step2 HDd.out.1 HDd.out.2
      have HST3 := hide hst3
      have HV3 := hide hv3
      clear hv3 hst3
      have HS : Hid (∀ W' : World, Bes S w0 g #[.int .i64 wh, .int .i64 le, .int .i64 mo, .int .i64 nn, x4, x5, x6, x7, x8, x9, .slice (some ⟨b, off, none⟩) nL cL] (some ⟨b, off, none⟩) nL vs ls W' → (fun W' : World => W'.cell? ⟨g, 1, none⟩ = some (.int .i64 le) ∧ W'.cell? ⟨g, 10, none⟩ = some (.slice (some ⟨b, off, none⟩) nL cL) ∧ W'.cell? ⟨b, off + k, none⟩ = some (.slice a2 n2 c2)) W') := fun W' q => ⟨(cells11 q.box).2.1, (cells11 q.box).2.2.2.2.2.2.2.2.2.2, HC.out _ q.els⟩
      go_region_held3 (fun W' : World => W'.cell? ⟨g, 1, none⟩ = some (.int .i64 le) ∧ W'.cell? ⟨g, 10, none⟩ = some (.slice (some ⟨b, off, none⟩) nL cL) ∧ W'.cell? ⟨b, off + k, none⟩ = some (.slice a2 n2 c2)) (first | (exact HS.out _ HDd.out.2) | (exact HS.out _ I3.out.2) | (exact HS.out _ HD.out.2) | go_keep)
        (first | (go_at_call 14; refine (RHead_any (Wset p v3) _ p le n2 hn2 _ _ HV3.out).mono ?_; rintro e w3 ⟨rfl, h3⟩; have I3 := hide (HST3.out _ _ h3); clear h3))
      clear HST3 HV3 HDd HS HD
      generalize hs3 : putsW ((ls.map fun d => listW (min le 16777216) (d.map (numW 0 nn))).take k) s2 = s3 at *
      have HS3 := hide hs3
      clear hs3
      go_wp2_with fail
      go_loopw [7] (fun jv wr => ∃ j : Nat, jv = .int .i64 (j : Nat) ∧ j ≤ n2 ∧ Hid (VAt S w0 p (putsW ((d.map (numW 0 nn)).take j) (putW (headW le n2) s3)) wr ∧ Bes S w0 g #[.int .i64 wh, .int .i64 le, .int .i64 mo, .int .i64 nn, x4, x5, x6, x7, x8, x9, .slice (some ⟨b, off, none⟩) nL cL] (some ⟨b, off, none⟩) nL vs ls wr)) (fun jv _ => n2 - (intOf jv).toNat)
      case atStart => exact ⟨0, rfl, Nat.zero_le _, I3.out⟩
      case round => as_aux_lemma =>
        clear I3
        obtain ⟨j, rfl, hj2, HI⟩ := hrel
        obtain ⟨y0, y1, y2, y3, y4, y5, y6, y7, y8, y9, y10⟩ := cells11 HI.out.2.box
        have hck := HC.out _ HI.out.2.els
        by_cases hjl : j < n2
        · have hjl' : (j : Int) < (n2 : Int) := by omega
          obtain ⟨y, hy⟩ : ∃ y, d[j]? = some y := ⟨_, List.getElem?_eq_getElem (by have := HN2.out; omega)⟩
          have hiv : (iv d)[j]? = some (.int .i64 y) := by unfold iv; rw [List.getElem?_map, hy]; rfl
          have HG : Hid (putsW ((d.map (numW 0 nn)).take (j + 1)) (putW (headW le n2) s3) = putW (numW 0 nn y) (putsW ((d.map (numW 0 nn)).take j) (putW (headW le n2) s3))) := puts_succ _ j _ (by rw [List.getElem?_map, hy]; rfl) _
          have hyb := HY2.out y (List.mem_of_getElem? hy)
          obtain ⟨b2, off2, eA, HC2⟩ : ∃ b off, a2 = some ⟨b, off, none⟩ ∧ Hid (∀ W' : World, Els (fun b => ¬ S b ∧ b < w0.heap.size) W' a2 n2 (iv d) → W'.cell? ⟨b, off + j, none⟩ = some (.int .i64 y)) := by
            rcases (HLL.out _ HI.out.2).2.2 with h0 | ⟨b, off, e, _, hc⟩
            · omega
            · refine ⟨b, off, e, fun W' hE' => ?_⟩
              rcases hE'.2.2 with h0 | ⟨b', off', e', _, hc'⟩
              · omega
              · rw [e] at e'
                injection e' with e'
                injection e' with e1 e2
                subst e1 e2
                exact hc' j _ hiv
          subst eA
          go_upto_region 33 with fail
          clear y0 y1 y2 y3 y4 y5 y6 y7 y8 y9 y10 hiv hy hck
          have HDd := hide (And.intro HI.out.1.drew HI.out.2.drew)
          obtain ⟨v4, hv4, hst4⟩ := v_step2 HDd.out.1 HDd.out.2
          have HST4 := hide hst4
          have HV4 := hide hv4
          clear hv4 hst4
          have HS : Hid (∀ W' : World, Bes S w0 g #[.int .i64 wh, .int .i64 le, .int .i64 mo, .int .i64 nn, x4, x5, x6, x7, x8, x9, .slice (some ⟨b, off, none⟩) nL cL] (some ⟨b, off, none⟩) nL vs ls W' → (fun W' : World => W'.cell? ⟨g, 3, none⟩ = some (.int .i64 nn) ∧ W'.cell? ⟨g, 10, none⟩ = some (.slice (some ⟨b, off, none⟩) nL cL) ∧ W'.cell? ⟨b, off + k, none⟩ = some (.slice (some ⟨b2, off2, none⟩) n2 c2) ∧ W'.cell? ⟨b2, off2 + j, none⟩ = some (.int .i64 y)) W') := fun W' q => ⟨(cells11 q.box).2.2.2.1, (cells11 q.box).2.2.2.2.2.2.2.2.2.2, HC.out _ q.els, HC2.out _ (HLL.out _ q)⟩
          go_region_held3 (fun W' : World => W'.cell? ⟨g, 3, none⟩ = some (.int .i64 nn) ∧ W'.cell? ⟨g, 10, none⟩ = some (.slice (some ⟨b, off, none⟩) nL cL) ∧ W'.cell? ⟨b, off + k, none⟩ = some (.slice (some ⟨b2, off2, none⟩) n2 c2) ∧ W'.cell? ⟨b2, off2 + j, none⟩ = some (.int .i64 y)) (first | (exact HS.out _ HDd.out.2) | (exact HS.out _ I4.out.2) | (exact HS.out _ HI.out.2) | go_keep)
            (first | (go_at_call 63; refine (RNumber_any (Wset p v4) _ p 0 nn y hyb _ _ HV4.out).mono ?_; rintro e w4 ⟨rfl, h4⟩; rw [← HG.out] at h4; have I4 := hide (HST4.out _ _ h4); clear h4))
          go_wp2_with fail
          go_roundw
          · exact ⟨j + 1, rfl, by omega, I4.out⟩
          · show n2 - ((j : Int) + 1).toNat < n2 - (j : Int).toNat
            omega
        · have hjl' : ¬ ((j : Int) < (n2 : Int)) := by omega
          have HZ : Hid (VAt S w0 p (putsW ((ls.map fun d => listW (min le 16777216) (d.map (numW 0 nn))).take (k + 1)) s2) wr ∧ Bes S w0 g #[.int .i64 wh, .int .i64 le, .int .i64 mo, .int .i64 nn, x4, x5, x6, x7, x8, x9, .slice (some ⟨b, off, none⟩) nL cL] (some ⟨b, off, none⟩) nL vs ls wr) := by
            refine ⟨?_, HI.out.2⟩
            have h5 := HI.out.1
            rw [List.take_of_length_le (by rw [List.length_map]; have := HN2.out; omega)] at h5
            have h6 := list_puts le (d.map (numW 0 nn)) (fun f hf => by obtain ⟨y, _, rfl⟩ := List.mem_map.1 hf; exact grow_num _ _ _) s3
            rw [List.length_map, ← HN2.out] at h6
            first
              | (rw [HF.out, HS3.out, h6]; exact h5)
              | (rw [HF.out, h6]; exact h5)
          clear HI
          go_wp2_with fail
          go_roundw
          · exact ⟨k + 1, rfl, by omega, HZ.out⟩
          · show nL - ((k : Int) + 1).toNat < nL - (k : Int).toNat
            omega
    · obtain rfl : k = nL := by omega
      have hge : ¬ ((k : Int) < (k : Int)) := by omega
      have HZ : Hid (VAt S w0 p (putsW (ls.map fun d => listW (min le 16777216) (d.map (numW 0 nn))) s2) wr) := by
        have := HD.out.1
        rw [List.take_of_length_le (by rw [List.length_map]; have := HLn.out; omega)] at this
        exact this
      clear HD
      go_wp2_with fail
      go_end0
      refine ⟨rfl, ?_⟩
      rw [HS2.out]
      exact HZ.out
end Wm
end Go.Proofs.YtoelgcagahmndaaGreat
