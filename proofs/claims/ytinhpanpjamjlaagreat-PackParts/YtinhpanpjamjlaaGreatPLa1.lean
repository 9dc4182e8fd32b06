/- The law's laid of a step: the document's writer, plain values (written by laid_gen.py). -/
import Derived.Test.YtinhpanpjamjlaaGreatPPu1
import Derived.Test.YtinhpanpjamjlaaGreatPRefWn
import Derived.Test.YtinhpanpjamjlaaGreatPRefW3
import Derived.Test.YtinhpanpjamjlaaGreatPRefWh
namespace Go.Proofs.YtinhpanpjamjlaaGreat
namespace Wm
open Go.RowKit Go.Deep

set_option maxRecDepth 100000 in
theorem laid_num (S : Nat → Prop) (w0 : World) (p : Nat) (s : K.WS) (wh : Int) (le mo nn : Int) (hnn : nn ≤ 9223372036854775807) (x4 x5 x6 x7 x8 x9 x10 : Value) (w : World) (h : VAt S w0 p s w) (h1 : -9223372036854775808 ≤ wh) (h2 : wh ≤ 9223372036854775807) (hk : ((pk wh : Nat) : Int) = 0)  :
    Calls Tryz.prog 10 #[.pointer (some ⟨p, 0, none⟩), .agg #[.int .i64 wh, .int .i64 le, .int .i64 mo, .int .i64 nn, x4, x5, x6, x7, x8, x9, x10]] w fun en w' => en = .returned (.tuple #[]) ∧ VAt S w0 p (putW (numW le mo nn) s) w' := by
  have hb0 := (Below.refl w.heap.size w).alloc (Nat.le_refl _) (.cells #[.int .i64 wh, .int .i64 le, .int .i64 mo, .int .i64 nn, x4, x5, x6, x7, x8, x9, x10] 35)
  have HA := hide (h.below hb0)
  have HX := hide (heap_alloc_new w (.cells #[.int .i64 wh, .int .i64 le, .int .i64 mo, .int .i64 nn, x4, x5, x6, x7, x8, x9, x10] 35))
  clear hb0 h
  go_enter Tryz.func10, Tryz.ntmps10
  go_upto_region 1 with fail
  generalize w.alloc (.cells #[.int .i64 wh, .int .i64 le, .int .i64 mo, .int .i64 nn, x4, x5, x6, x7, x8, x9, x10] 35) = W at *
  generalize w.heap.size = g at *
  obtain ⟨y0, y1, y2, y3, y4, y5, y6, y7, y8, y9, y10⟩ := cells11 HX.out
  go_wp2_with fail
  refine (pick_any wh h1 h2 _).mono ?_
  rintro e w1 ⟨rfl, rfl⟩
  rw [hk]
  go_wp2_with fail
  refine (RNumber_any S w0 p le mo nn hnn s _ HA.out).mono ?_
  rintro e w2 ⟨rfl, h2⟩
  have H2 := hide h2
  clear h2
  go_wp2_with fail
  go_end0
  exact ⟨rfl, H2.out⟩
set_option maxRecDepth 100000 in
theorem laid_word (S : Nat → Prop) (w0 : World) (p : Nat) (s : K.WS) (wh : Int) (X : Nat) (hX : X < 18446744073709551616) (x1 x2 x3 x5 x6 x7 x8 x9 x10 : Value) (w : World) (h : VAt S w0 p s w) (h1 : -9223372036854775808 ≤ wh) (h2 : wh ≤ 9223372036854775807) (hk : ((pk wh : Nat) : Int) = 1)  :
    Calls Tryz.prog 10 #[.pointer (some ⟨p, 0, none⟩), .agg #[.int .i64 wh, x1, x2, x3, .int .u64 (X : Nat), x5, x6, x7, x8, x9, x10]] w fun en w' => en = .returned (.tuple #[]) ∧ VAt S w0 p (putW (wordW X) s) w' := by
  have hb0 := (Below.refl w.heap.size w).alloc (Nat.le_refl _) (.cells #[.int .i64 wh, x1, x2, x3, .int .u64 (X : Nat), x5, x6, x7, x8, x9, x10] 35)
  have HA := hide (h.below hb0)
  have HX := hide (heap_alloc_new w (.cells #[.int .i64 wh, x1, x2, x3, .int .u64 (X : Nat), x5, x6, x7, x8, x9, x10] 35))
  clear hb0 h
  go_enter Tryz.func10, Tryz.ntmps10
  go_upto_region 1 with fail
  generalize w.alloc (.cells #[.int .i64 wh, x1, x2, x3, .int .u64 (X : Nat), x5, x6, x7, x8, x9, x10] 35) = W at *
  generalize w.heap.size = g at *
  obtain ⟨y0, y1, y2, y3, y4, y5, y6, y7, y8, y9, y10⟩ := cells11 HX.out
  go_wp2_with fail
  refine (pick_any wh h1 h2 _).mono ?_
  rintro e w1 ⟨rfl, rfl⟩
  rw [hk]
  go_wp2_with fail
  refine (RWord_any S w0 p X hX s _ HA.out).mono ?_
  rintro e w2 ⟨rfl, h2⟩
  have H2 := hide h2
  clear h2
  go_wp2_with fail
  go_end0
  exact ⟨rfl, H2.out⟩
set_option maxRecDepth 100000 in
theorem laid_flag (S : Nat → Prop) (w0 : World) (p : Nat) (s : K.WS) (wh : Int) (F : Bool) (x1 x2 x3 x4 x6 x7 x8 x9 x10 : Value) (w : World) (h : VAt S w0 p s w) (h1 : -9223372036854775808 ≤ wh) (h2 : wh ≤ 9223372036854775807) (hk : ((pk wh : Nat) : Int) = 2)  :
    Calls Tryz.prog 10 #[.pointer (some ⟨p, 0, none⟩), .agg #[.int .i64 wh, x1, x2, x3, x4, .bool F, x6, x7, x8, x9, x10]] w fun en w' => en = .returned (.tuple #[]) ∧ VAt S w0 p (putW (flagW F) s) w' := by
  have hb0 := (Below.refl w.heap.size w).alloc (Nat.le_refl _) (.cells #[.int .i64 wh, x1, x2, x3, x4, .bool F, x6, x7, x8, x9, x10] 35)
  have HA := hide (h.below hb0)
  have HX := hide (heap_alloc_new w (.cells #[.int .i64 wh, x1, x2, x3, x4, .bool F, x6, x7, x8, x9, x10] 35))
  clear hb0 h
  go_enter Tryz.func10, Tryz.ntmps10
  go_upto_region 1 with fail
  generalize w.alloc (.cells #[.int .i64 wh, x1, x2, x3, x4, .bool F, x6, x7, x8, x9, x10] 35) = W at *
  generalize w.heap.size = g at *
  obtain ⟨y0, y1, y2, y3, y4, y5, y6, y7, y8, y9, y10⟩ := cells11 HX.out
  go_wp2_with fail
  refine (pick_any wh h1 h2 _).mono ?_
  rintro e w1 ⟨rfl, rfl⟩
  rw [hk]
  go_wp2_with fail
  refine (RFlag_any S w0 p F s _ HA.out).mono ?_
  rintro e w2 ⟨rfl, h2⟩
  have H2 := hide h2
  clear h2
  go_wp2_with fail
  go_end0
  exact ⟨rfl, H2.out⟩
set_option maxRecDepth 100000 in
theorem laid_text (S : Nat → Prop) (w0 : World) (p : Nat) (s : K.WS) (wh : Int) (mo : Int) (st : ByteArray) (hst : st.size ≤ 140737488351232) (x1 x3 x4 x5 x7 x8 x9 x10 : Value) (w : World) (h : VAt S w0 p s w) (h1 : -9223372036854775808 ≤ wh) (h2 : wh ≤ 9223372036854775807) (hk : ((pk wh : Nat) : Int) = 3)  :
    Calls Tryz.prog 10 #[.pointer (some ⟨p, 0, none⟩), .agg #[.int .i64 wh, x1, .int .i64 mo, x3, x4, x5, .string st, x7, x8, x9, x10]] w fun en w' => en = .returned (.tuple #[]) ∧ VAt S w0 p (putW (textW mo (sb st)) s) w' := by
  have hb0 := (Below.refl w.heap.size w).alloc (Nat.le_refl _) (.cells #[.int .i64 wh, x1, .int .i64 mo, x3, x4, x5, .string st, x7, x8, x9, x10] 35)
  have HA := hide (h.below hb0)
  have HX := hide (heap_alloc_new w (.cells #[.int .i64 wh, x1, .int .i64 mo, x3, x4, x5, .string st, x7, x8, x9, x10] 35))
  clear hb0 h
  go_enter Tryz.func10, Tryz.ntmps10
  go_upto_region 1 with fail
  generalize w.alloc (.cells #[.int .i64 wh, x1, .int .i64 mo, x3, x4, x5, .string st, x7, x8, x9, x10] 35) = W at *
  generalize w.heap.size = g at *
  obtain ⟨y0, y1, y2, y3, y4, y5, y6, y7, y8, y9, y10⟩ := cells11 HX.out
  go_wp2_with fail
  refine (pick_any wh h1 h2 _).mono ?_
  rintro e w1 ⟨rfl, rfl⟩
  rw [hk]
  go_wp2_with fail
  refine (RText_any S w0 p mo st hst s _ HA.out).mono ?_
  rintro e w2 ⟨rfl, h2⟩
  have H2 := hide h2
  clear h2
  go_wp2_with fail
  go_end0
  exact ⟨rfl, H2.out⟩
set_option maxRecDepth 100000 in
theorem laid_blob (S : Nat → Prop) (w0 : World) (p : Nat) (s : K.WS) (wh : Int) (mo : Int) (aB : Option Addr) (nB cB : Nat) (lB : List Nat) (hn : nB ≤ 140737488351232) (hB0 : aB = none → cB = 0) (x1 x3 x4 x5 x6 x8 x9 x10 : Value) (w : World) (h : VAt S w0 p s w) (h1 : -9223372036854775808 ≤ wh) (h2 : wh ≤ 9223372036854775807) (hk : ((pk wh : Nat) : Int) = 4) (hR : Rd w aB nB lB) :
    Calls Tryz.prog 10 #[.pointer (some ⟨p, 0, none⟩), .agg #[.int .i64 wh, x1, .int .i64 mo, x3, x4, x5, x6, .slice aB nB cB, x8, x9, x10]] w fun en w' => en = .returned (.tuple #[]) ∧ VAt S w0 p (putW (textW mo lB) s) w' := by
  have hb0 := (Below.refl w.heap.size w).alloc (Nat.le_refl _) (.cells #[.int .i64 wh, x1, .int .i64 mo, x3, x4, x5, x6, .slice aB nB cB, x8, x9, x10] 35)
  have HA := hide (h.below hb0)
  have HX := hide (heap_alloc_new w (.cells #[.int .i64 wh, x1, .int .i64 mo, x3, x4, x5, x6, .slice aB nB cB, x8, x9, x10] 35))
  have HR := hide (hR.keep hb0)
  have HB0 := hide hB0
  clear hR hB0
  clear hb0 h
  go_enter Tryz.func10, Tryz.ntmps10
  go_upto_region 1 with fail
  generalize w.alloc (.cells #[.int .i64 wh, x1, .int .i64 mo, x3, x4, x5, x6, .slice aB nB cB, x8, x9, x10] 35) = W at *
  generalize w.heap.size = g at *
  obtain ⟨y0, y1, y2, y3, y4, y5, y6, y7, y8, y9, y10⟩ := cells11 HX.out
  go_wp2_with fail
  refine (pick_any wh h1 h2 _).mono ?_
  rintro e w1 ⟨rfl, rfl⟩
  rw [hk]
  go_wp2_with fail
  refine (RBlob_any S w0 p mo aB nB cB lB s _ HA.out HR.out HB0.out hn).mono ?_
  rintro e w2 ⟨rfl, h2⟩
  have H2 := hide h2
  clear h2
  go_wp2_with fail
  go_end0
  exact ⟨rfl, H2.out⟩
set_option maxRecDepth 100000 in
theorem laid_fail (S : Nat → Prop) (w0 : World) (p : Nat) (s : K.WS) (wh : Int)  (x1 x2 x3 x4 x5 x6 x7 x8 x9 x10 : Value) (w : World) (h : VAt S w0 p s w) (h1 : -9223372036854775808 ≤ wh) (h2 : wh ≤ 9223372036854775807) (hk : ((pk wh : Nat) : Int) = 9)  :
    Calls Tryz.prog 10 #[.pointer (some ⟨p, 0, none⟩), .agg #[.int .i64 wh, x1, x2, x3, x4, x5, x6, x7, x8, x9, x10]] w fun en w' => en = .returned (.tuple #[]) ∧ VAt S w0 p (s.fail 22) w' := by
  have hb0 := (Below.refl w.heap.size w).alloc (Nat.le_refl _) (.cells #[.int .i64 wh, x1, x2, x3, x4, x5, x6, x7, x8, x9, x10] 35)
  have HA := hide (h.below hb0)
  have HX := hide (heap_alloc_new w (.cells #[.int .i64 wh, x1, x2, x3, x4, x5, x6, x7, x8, x9, x10] 35))
  clear hb0 h
  go_enter Tryz.func10, Tryz.ntmps10
  go_upto_region 1 with fail
  generalize w.alloc (.cells #[.int .i64 wh, x1, x2, x3, x4, x5, x6, x7, x8, x9, x10] 35) = W at *
  generalize w.heap.size = g at *
  obtain ⟨y0, y1, y2, y3, y4, y5, y6, y7, y8, y9, y10⟩ := cells11 HX.out
  go_wp2_with fail
  refine (pick_any wh h1 h2 _).mono ?_
  rintro e w1 ⟨rfl, rfl⟩
  rw [hk]
  go_wp2_with fail
  refine (wrong_any S w0 p s 22 _ HA.out).mono ?_
  rintro e w2 ⟨rfl, h2⟩
  have H2 := hide h2
  clear h2
  go_wp2_with fail
  go_end0
  exact ⟨rfl, H2.out⟩
set_option maxRecDepth 100000 in
theorem laid_look (S : Nat → Prop) (w0 : World) (p : Nat) (s : K.WS) (wh : Int)  (x1 x2 x3 x4 x5 x6 x7 x8 x9 x10 : Value) (w : World) (h : VAt S w0 p s w) (h1 : -9223372036854775808 ≤ wh) (h2 : wh ≤ 9223372036854775807) (hk : ((pk wh : Nat) : Int) = 10)  :
    Calls Tryz.prog 10 #[.pointer (some ⟨p, 0, none⟩), .agg #[.int .i64 wh, x1, x2, x3, x4, x5, x6, x7, x8, x9, x10]] w fun en w' => en = .returned (.tuple #[]) ∧ VAt S w0 p (s) w' := by
  have hb0 := (Below.refl w.heap.size w).alloc (Nat.le_refl _) (.cells #[.int .i64 wh, x1, x2, x3, x4, x5, x6, x7, x8, x9, x10] 35)
  have HA := hide (h.below hb0)
  have HX := hide (heap_alloc_new w (.cells #[.int .i64 wh, x1, x2, x3, x4, x5, x6, x7, x8, x9, x10] 35))
  clear hb0 h
  go_enter Tryz.func10, Tryz.ntmps10
  go_upto_region 1 with fail
  generalize w.alloc (.cells #[.int .i64 wh, x1, x2, x3, x4, x5, x6, x7, x8, x9, x10] 35) = W at *
  generalize w.heap.size = g at *
  obtain ⟨y0, y1, y2, y3, y4, y5, y6, y7, y8, y9, y10⟩ := cells11 HX.out
  go_wp2_with fail
  refine (pick_any wh h1 h2 _).mono ?_
  rintro e w1 ⟨rfl, rfl⟩
  rw [hk]
  go_wp2_with fail
  go_end0
  exact ⟨rfl, HA.out⟩
end Wm
end Go.Proofs.YtinhpanpjamjlaaGreat
