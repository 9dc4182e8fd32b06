/- The law's put of a step: words, flags, texts, blobs; a Fail; nothing (written by put_gen.py). -/
import Derived.Test.YtoelgcagahmndaaGreatPPu1
import Derived.Test.YtoelgcagahmndaaGreatPWordR
namespace Go.Proofs.YtoelgcagahmndaaGreat
namespace Wm
open Go.RowKit Go.Deep

set_option maxRecDepth 100000 in
set_option maxHeartbeats 4000000 in
theorem put_word (S : Nat → Prop) (w0 : World) (p : Nat) (s : K.WS) (wh : Int) (X : Nat) (hX : X < 18446744073709551616) (x1 x2 x3 x5 x6 x7 x8 x9 x10 : Value) (w : World) (h : WAt S w0 p s w) (h1 : -9223372036854775808 ≤ wh) (h2 : wh ≤ 9223372036854775807) (hk : ((pk wh : Nat) : Int) = 1) :
    Calls Tryz.prog 31 #[.pointer (some ⟨p, 0, none⟩), .agg #[.int .i64 wh, x1, x2, x3, .int .u64 (X : Nat), x5, x6, x7, x8, x9, x10]] w fun en w' => en = .returned (.tuple #[]) ∧ WAt S w0 p (putW (wordW X) s) w' := by
  have hb0 := (Below.refl w.heap.size w).alloc (Nat.le_refl _) (.cells #[.int .i64 wh, x1, x2, x3, .int .u64 (X : Nat), x5, x6, x7, x8, x9, x10] 74)
  have HA := hide (h.below hb0)
  have HX := hide (heap_alloc_new w (.cells #[.int .i64 wh, x1, x2, x3, .int .u64 (X : Nat), x5, x6, x7, x8, x9, x10] 74))
  clear hb0 h
  go_enter Tryz.func31, Tryz.ntmps31
  go_upto_region 1 with fail
  generalize w.alloc (.cells #[.int .i64 wh, x1, x2, x3, .int .u64 (X : Nat), x5, x6, x7, x8, x9, x10] 74) = W at *
  generalize w.heap.size = g at *
  obtain ⟨y0, _⟩ := cells11 HX.out
  go_wp2_with fail
  refine (pick_any wh h1 h2 _).mono ?_
  rintro e w1 ⟨rfl, rfl⟩
  rw [hk]
  clear y0
  go_upto_region 5 with fail
  obtain ⟨v, hv, _, hs⟩ := HA.out.rebase
  have HV := hide (hv.keep (Keep.drew (fun _ => False) _) fun _ _ f => f)
  have HSS := hide hs
  clear hv hs
  have HS : Hid (∀ W' : World, W'.heap[g]? = some (.cells #[.int .i64 wh, x1, x2, x3, .int .u64 (X : Nat), x5, x6, x7, x8, x9, x10] 74 (0, 0)) → (fun W' : World => W'.cell? ⟨g, 4, none⟩ = some (.int .u64 (X : Nat))) W') := fun W' k => (cells11 k).2.2.2.2.1
  have HNg : Hid (¬ Wset p v g) := HV.out.not (b := g) HX.out (by decide) (by decide)
  have HXd : Hid (w1.drew.heap[g]? = some (.cells #[.int .i64 wh, x1, x2, x3, .int .u64 (X : Nat), x5, x6, x7, x8, x9, x10] 74 (0, 0))) := HX.out
  go_region_held3 (fun W' : World => W'.cell? ⟨g, 4, none⟩ = some (.int .u64 (X : Nat))) (first | (exact HS.out _ HXd.out) | (exact HS.out _ HX9.out) | (exact HS.out _ HX8.out) | (exact HS.out _ HX.out) | go_keep) (first
    | (go_at_call 74; refine (PutW (Wset p v) w8 p _ _ _ _ _ (wordW X) s _ (wr_at HV.out HB8.out) (putsWord (fun k => ¬ Wset p v k ∧ k < w8.heap.size) w8 X hX p (Wset p v) w8 (Agree.refl fun k hk => hk.2) (fun k hk => hk.1)) ent_putWord).mono ?_; rintro e w9 ⟨rfl, h9⟩; have HX9 := hide (h9.keep.blk HX8.out HNg.out); have H9 := hide h9; clear h9)
    | (go_at_call 73; refine (Words_any _).mono ?_; rintro e w8 ⟨rfl, hb8⟩; have HB8 := hide hb8; have HX8 := hide (blkB HXd.out hb8); clear hb8))
  go_wp2_with fail
  go_end0
  exact ⟨rfl, (HA.out.below (((Below.refl _ _).drew).trans HB8.out)).step HSS.out H9.out⟩
set_option maxRecDepth 100000 in
set_option maxHeartbeats 4000000 in
theorem put_flag (S : Nat → Prop) (w0 : World) (p : Nat) (s : K.WS) (wh : Int) (F : Bool) (x1 x2 x3 x4 x6 x7 x8 x9 x10 : Value) (w : World) (h : WAt S w0 p s w) (h1 : -9223372036854775808 ≤ wh) (h2 : wh ≤ 9223372036854775807) (hk : ((pk wh : Nat) : Int) = 2) :
    Calls Tryz.prog 31 #[.pointer (some ⟨p, 0, none⟩), .agg #[.int .i64 wh, x1, x2, x3, x4, .bool F, x6, x7, x8, x9, x10]] w fun en w' => en = .returned (.tuple #[]) ∧ WAt S w0 p (putW (flagW F) s) w' := by
  have hb0 := (Below.refl w.heap.size w).alloc (Nat.le_refl _) (.cells #[.int .i64 wh, x1, x2, x3, x4, .bool F, x6, x7, x8, x9, x10] 74)
  have HA := hide (h.below hb0)
  have HX := hide (heap_alloc_new w (.cells #[.int .i64 wh, x1, x2, x3, x4, .bool F, x6, x7, x8, x9, x10] 74))
  clear hb0 h
  go_enter Tryz.func31, Tryz.ntmps31
  go_upto_region 1 with fail
  generalize w.alloc (.cells #[.int .i64 wh, x1, x2, x3, x4, .bool F, x6, x7, x8, x9, x10] 74) = W at *
  generalize w.heap.size = g at *
  obtain ⟨y0, _⟩ := cells11 HX.out
  go_wp2_with fail
  refine (pick_any wh h1 h2 _).mono ?_
  rintro e w1 ⟨rfl, rfl⟩
  rw [hk]
  clear y0
  go_upto_region 7 with fail
  obtain ⟨v, hv, _, hs⟩ := HA.out.rebase
  have HV := hide (hv.keep (Keep.drew (fun _ => False) _) fun _ _ f => f)
  have HSS := hide hs
  clear hv hs
  have HS : Hid (∀ W' : World, W'.heap[g]? = some (.cells #[.int .i64 wh, x1, x2, x3, x4, .bool F, x6, x7, x8, x9, x10] 74 (0, 0)) → (fun W' : World => W'.cell? ⟨g, 5, none⟩ = some (.bool F)) W') := fun W' k => (cells11 k).2.2.2.2.2.1
  have HNg : Hid (¬ Wset p v g) := HV.out.not (b := g) HX.out (by decide) (by decide)
  have HXd : Hid (w1.drew.heap[g]? = some (.cells #[.int .i64 wh, x1, x2, x3, x4, .bool F, x6, x7, x8, x9, x10] 74 (0, 0))) := HX.out
  go_region_held3 (fun W' : World => W'.cell? ⟨g, 5, none⟩ = some (.bool F)) (first | (exact HS.out _ HXd.out) | (exact HS.out _ HX9.out) | (exact HS.out _ HX8.out) | (exact HS.out _ HX.out) | go_keep) (first
    | (go_at_call 76; refine (PutF (Wset p v) w8 p _ _ _ _ _ (flagW F) s _ (wr_at HV.out HB8.out) (putsFlag (fun k => ¬ Wset p v k ∧ k < w8.heap.size) w8 F p (Wset p v) w8 (Agree.refl fun k hk => hk.2) (fun k hk => hk.1)) ent_putFlag).mono ?_; rintro e w9 ⟨rfl, h9⟩; have HX9 := hide (h9.keep.blk HX8.out HNg.out); have H9 := hide h9; clear h9)
    | (go_at_call 75; refine (Flags_any _).mono ?_; rintro e w8 ⟨rfl, hb8⟩; have HB8 := hide hb8; have HX8 := hide (blkB HXd.out hb8); clear hb8))
  go_wp2_with fail
  go_end0
  exact ⟨rfl, (HA.out.below (((Below.refl _ _).drew).trans HB8.out)).step HSS.out H9.out⟩
set_option maxRecDepth 100000 in
set_option maxHeartbeats 4000000 in
theorem put_text (S : Nat → Prop) (w0 : World) (p : Nat) (s : K.WS) (wh : Int) (mo : Int) (st : ByteArray) (hst : st.size ≤ 140737488351232) (x1 x3 x4 x5 x7 x8 x9 x10 : Value) (w : World) (h : WAt S w0 p s w) (h1 : -9223372036854775808 ≤ wh) (h2 : wh ≤ 9223372036854775807) (hk : ((pk wh : Nat) : Int) = 3) :
    Calls Tryz.prog 31 #[.pointer (some ⟨p, 0, none⟩), .agg #[.int .i64 wh, x1, .int .i64 mo, x3, x4, x5, .string st, x7, x8, x9, x10]] w fun en w' => en = .returned (.tuple #[]) ∧ WAt S w0 p (putW (textW mo (sb st)) s) w' := by
  have hb0 := (Below.refl w.heap.size w).alloc (Nat.le_refl _) (.cells #[.int .i64 wh, x1, .int .i64 mo, x3, x4, x5, .string st, x7, x8, x9, x10] 74)
  have HA := hide (h.below hb0)
  have HX := hide (heap_alloc_new w (.cells #[.int .i64 wh, x1, .int .i64 mo, x3, x4, x5, .string st, x7, x8, x9, x10] 74))
  clear hb0 h
  go_enter Tryz.func31, Tryz.ntmps31
  go_upto_region 1 with fail
  generalize w.alloc (.cells #[.int .i64 wh, x1, .int .i64 mo, x3, x4, x5, .string st, x7, x8, x9, x10] 74) = W at *
  generalize w.heap.size = g at *
  obtain ⟨y0, _⟩ := cells11 HX.out
  go_wp2_with fail
  refine (pick_any wh h1 h2 _).mono ?_
  rintro e w1 ⟨rfl, rfl⟩
  rw [hk]
  clear y0
  go_upto_region 9 with fail
  obtain ⟨v, hv, _, hs⟩ := HA.out.rebase
  have HV := hide (hv.keep (Keep.drew (fun _ => False) _) fun _ _ f => f)
  have HSS := hide hs
  clear hv hs
  have HS : Hid (∀ W' : World, W'.heap[g]? = some (.cells #[.int .i64 wh, x1, .int .i64 mo, x3, x4, x5, .string st, x7, x8, x9, x10] 74 (0, 0)) → (fun W' : World => W'.cell? ⟨g, 2, none⟩ = some (.int .i64 mo) ∧ W'.cell? ⟨g, 6, none⟩ = some (.string st)) W') := fun W' k => ⟨(cells11 k).2.2.1, (cells11 k).2.2.2.2.2.2.1⟩
  have HNg : Hid (¬ Wset p v g) := HV.out.not (b := g) HX.out (by decide) (by decide)
  have HXd : Hid (w1.drew.heap[g]? = some (.cells #[.int .i64 wh, x1, .int .i64 mo, x3, x4, x5, .string st, x7, x8, x9, x10] 74 (0, 0))) := HX.out
  go_region_held3 (fun W' : World => W'.cell? ⟨g, 2, none⟩ = some (.int .i64 mo) ∧ W'.cell? ⟨g, 6, none⟩ = some (.string st)) (first | (exact HS.out _ HXd.out) | (exact HS.out _ HX9.out) | (exact HS.out _ HX8.out) | (exact HS.out _ HX.out) | go_keep) (first
    | (go_at_call 56; refine (PutS (Wset p v) w8 p _ _ _ _ _ (textW mo (sb st)) s _ (wr_at HV.out HB8.out) (putsText (fun k => ¬ Wset p v k ∧ k < w8.heap.size) w8 m8 mo st hst HM8.out (newD HV.out HG8.out (numForm_lt HM8.out)) p (Wset p v) w8 (Agree.refl fun k hk => hk.2) (fun k hk => hk.1)) ent_putText).mono ?_; rintro e w9 ⟨rfl, h9⟩; have HX9 := hide (h9.keep.blk HX8.out HNg.out); have H9 := hide h9; clear h9)
    | (go_at_call 43; refine (Texts_any mo _).mono ?_; rintro e w8 ⟨m8, rfl, hm8, hgm, hb8⟩; have HM8 := hide hm8; have HG8 := hide hgm; clear hm8 hgm; have HB8 := hide hb8; have HX8 := hide (blkB HXd.out hb8); clear hb8))
  go_wp2_with fail
  go_end0
  exact ⟨rfl, (HA.out.below (((Below.refl _ _).drew).trans HB8.out)).step HSS.out H9.out⟩
set_option maxRecDepth 100000 in
set_option maxHeartbeats 4000000 in
theorem put_blob (S : Nat → Prop) (w0 : World) (p : Nat) (s : K.WS) (wh : Int) (mo : Int) (aB : Option Addr) (nB cB : Nat) (lB : List Nat) (hn : nB ≤ 140737488351232) (hB0 : aB = none → cB = 0) (x1 x3 x4 x5 x6 x8 x9 x10 : Value) (w : World) (h : WAt S w0 p s w) (h1 : -9223372036854775808 ≤ wh) (h2 : wh ≤ 9223372036854775807) (hk : ((pk wh : Nat) : Int) = 4) (hR : Rd w aB nB lB) (hD : nB ≠ 0 → ∀ b off, aB = some ⟨b, off, none⟩ → ¬ S b ∧ b < w0.heap.size) :
    Calls Tryz.prog 31 #[.pointer (some ⟨p, 0, none⟩), .agg #[.int .i64 wh, x1, .int .i64 mo, x3, x4, x5, x6, .slice aB nB cB, x8, x9, x10]] w fun en w' => en = .returned (.tuple #[]) ∧ WAt S w0 p (putW (textW mo lB) s) w' := by
  have hb0 := (Below.refl w.heap.size w).alloc (Nat.le_refl _) (.cells #[.int .i64 wh, x1, .int .i64 mo, x3, x4, x5, x6, .slice aB nB cB, x8, x9, x10] 74)
  have HA := hide (h.below hb0)
  have HX := hide (heap_alloc_new w (.cells #[.int .i64 wh, x1, .int .i64 mo, x3, x4, x5, x6, .slice aB nB cB, x8, x9, x10] 74))
  have HR := hide (hR.keep hb0)
  have HB0 := hide hB0
  have HD := hide hD
  clear hR hD hB0
  clear hb0 h
  go_enter Tryz.func31, Tryz.ntmps31
  go_upto_region 1 with fail
  generalize w.alloc (.cells #[.int .i64 wh, x1, .int .i64 mo, x3, x4, x5, x6, .slice aB nB cB, x8, x9, x10] 74) = W at *
  generalize w.heap.size = g at *
  obtain ⟨y0, _⟩ := cells11 HX.out
  go_wp2_with fail
  refine (pick_any wh h1 h2 _).mono ?_
  rintro e w1 ⟨rfl, rfl⟩
  rw [hk]
  clear y0
  go_upto_region 11 with fail
  obtain ⟨v, hv, _, hs⟩ := HA.out.rebase
  have HV := hide (hv.keep (Keep.drew (fun _ => False) _) fun _ _ f => f)
  have HSS := hide hs
  clear hv hs
  have HS : Hid (∀ W' : World, W'.heap[g]? = some (.cells #[.int .i64 wh, x1, .int .i64 mo, x3, x4, x5, x6, .slice aB nB cB, x8, x9, x10] 74 (0, 0)) → (fun W' : World => W'.cell? ⟨g, 2, none⟩ = some (.int .i64 mo) ∧ W'.cell? ⟨g, 7, none⟩ = some (.slice aB nB cB)) W') := fun W' k => ⟨(cells11 k).2.2.1, (cells11 k).2.2.2.2.2.2.2.1⟩
  have HNg : Hid (¬ Wset p v g) := HV.out.not (b := g) HX.out (by decide) (by decide)
  have HXd : Hid (w1.drew.heap[g]? = some (.cells #[.int .i64 wh, x1, .int .i64 mo, x3, x4, x5, x6, .slice aB nB cB, x8, x9, x10] 74 (0, 0))) := HX.out
  go_region_held3 (fun W' : World => W'.cell? ⟨g, 2, none⟩ = some (.int .i64 mo) ∧ W'.cell? ⟨g, 7, none⟩ = some (.slice aB nB cB)) (first | (exact HS.out _ HXd.out) | (exact HS.out _ HX9.out) | (exact HS.out _ HX8.out) | (exact HS.out _ HX.out) | go_keep) (first
    | (go_at_call 78; refine (PutB (Wset p v) w8 p _ _ _ _ _ (textW mo lB) s _ (wr_at HV.out HB8.out) (putsBlob (fun k => ¬ Wset p v k ∧ k < w8.heap.size) w8 m8 mo aB nB cB lB (HR.out.keep (((Below.refl _ _).drew).trans HB8.out)) hn HB0.out (fun hne b off e => ⟨fun hw => (HSS.out b hw).elim (HD.out hne b off e).1 (fun h6 => Nat.not_lt.2 h6 (HD.out hne b off e).2), Nat.lt_of_lt_of_le (HD.out hne b off e).2 (Nat.le_trans HA.out.keep.size HB8.out.size)⟩) HM8.out (newD HV.out HG8.out (numForm_lt HM8.out)) p (Wset p v) w8 (Agree.refl fun k hk => hk.2) (fun k hk => hk.1)) ent_putBlob).mono ?_; rintro e w9 ⟨rfl, h9⟩; have HX9 := hide (h9.keep.blk HX8.out HNg.out); have H9 := hide h9; clear h9)
    | (go_at_call 77; refine (Blobs_any mo _).mono ?_; rintro e w8 ⟨m8, rfl, hm8, hgm, hb8⟩; have HM8 := hide hm8; have HG8 := hide hgm; clear hm8 hgm; have HB8 := hide hb8; have HX8 := hide (blkB HXd.out hb8); clear hb8))
  go_wp2_with fail
  go_end0
  exact ⟨rfl, (HA.out.below (((Below.refl _ _).drew).trans HB8.out)).step HSS.out H9.out⟩
end Wm
end Go.Proofs.YtoelgcagahmndaaGreat
