import Derived.Test.YtoelgcagahmndaaGreatPPu2
import Derived.Test.YtoelgcagahmndaaGreatPLa3
import Derived.Test.YtoelgcagahmndaaGreatPTo5
import Derived.Test.YtoelgcagahmndaaGreatPTn2
import Derived.Test.YtoelgcagahmndaaGreatPPaS
/- A form of the law's own: lay, layed. -/
namespace Go.Proofs.YtoelgcagahmndaaGreat
namespace Wm
open Go.RowKit Go.Deep

/-- what lay does -/
def layE (n : Int) (t : ByteArray) (s : K.WS) : K.WS := if n = 7 then s else putW (textW 9 (sb t)) (putW (numW 0 99 n) (if n = 13 then s.fail 22 else s))
theorem layE_7 (t : ByteArray) (s : K.WS) : layE 7 t s = s := if_pos rfl
theorem layE_13 (t : ByteArray) (s : K.WS) : layE 13 t s = putW (textW 9 (sb t)) (putW (numW 0 99 13) (s.fail 22)) := rfl
theorem layE_no {n : Int} (h7 : n ≠ 7) (h13 : n ≠ 13) (t : ByteArray) (s : K.WS) : layE n t s = putW (textW 9 (sb t)) (putW (numW 0 99 n) s) := by unfold layE; rw [if_neg h7, if_neg h13]
theorem cells2 {w : World} {b : Nat} {x0 x1 : Value} {T : TypeId} (h : w.heap[b]? = some (.cells #[x0, x1] T (0, 0))) : w.cell? ⟨b, 0, none⟩ = some x0 ∧ w.cell? ⟨b, 1, none⟩ = some x1 := by
  refine ⟨?_, ?_⟩ <;> (rw [cell_of_row _ _ _ _ _ _ h]; rfl)
/-- a call on the document's writer: a block beside it stays -/
theorem v_stepB {S : Nat → Prop} {w0 W : World} {p g : Nat} {s : K.WS} {cs : Array Value} {t : TypeId} (h : VAt S w0 p s W) (hx : W.heap[g]? = some (.cells cs t (0, 0))) (h1 : t ≠ 48) (h2 : t ≠ 5) :
    ∃ v, VAt (Wset p v) W p s W ∧ ∀ s' w', VAt (Wset p v) W p s' w' → VAt S w0 p s' w' ∧ w'.heap[g]? = some (.cells cs t (0, 0)) := by
  obtain ⟨v, h3, h4⟩ := v_step (a := none) (n := 0) (vs := []) h hx h1 h2 ⟨rfl, Nat.zero_le _, .inl rfl⟩
  exact ⟨v, h3, fun s' w' h' => ⟨(h4 s' w' h').1, (h4 s' w' h').2.1⟩⟩
set_option maxRecDepth 100000 in
set_option maxHeartbeats 4000000 in
theorem lay_seven (S : Nat → Prop) (w0 : World) (p : Nat) (s : K.WS) (st : ByteArray) (w : World) (h : WAt S w0 p s w) :
    Calls Tryz.prog 9 #[.pointer (some ⟨p, 0, none⟩), .agg #[.int .i64 7, .string st]] w fun en w' => en = .returned (.tuple #[]) ∧ WAt S w0 p (layE 7 st s) w' := by
  have hb0 := (Below.refl w.heap.size w).alloc (Nat.le_refl _) (.cells #[.int .i64 7, .string st] 33)
  have HA := hide (h.below hb0)
  have HX := hide (heap_alloc_new w (.cells #[.int .i64 7, .string st] 33))
  clear hb0 h
  go_enter Tryz.func9, Tryz.ntmps9
  go_upto_region 1 with fail
  generalize w.alloc (.cells #[.int .i64 7, .string st] 33) = W at *
  generalize w.heap.size = g at *
  obtain ⟨y0, y1⟩ := cells2 HX.out
  go_wp2
  first | go_end0 | refine bodyPost_ret (results_none rfl _ _ _) rfl ?_
  exact ⟨rfl, by rw [layE_7]; exact HA.out⟩
set_option maxRecDepth 100000 in
set_option maxHeartbeats 4000000 in
theorem lay_bad (S : Nat → Prop) (w0 : World) (p : Nat) (s : K.WS) (st : ByteArray) (hst : st.size ≤ 140737488351232) (w : World) (h : WAt S w0 p s w) :
    Calls Tryz.prog 9 #[.pointer (some ⟨p, 0, none⟩), .agg #[.int .i64 13, .string st]] w fun en w' => en = .returned (.tuple #[]) ∧ WAt S w0 p (layE 13 st s) w' := by
  have hn : (13 : Int) ≤ 9223372036854775807 := by decide
  obtain ⟨s', hs'⟩ : ∃ s', layE 13 st s = s' := ⟨_, rfl⟩
  rw [hs']
  rw [layE_13] at hs'
  have HS' := hide hs'
  clear hs'
  have hb0 := (Below.refl w.heap.size w).alloc (Nat.le_refl _) (.cells #[.int .i64 13, .string st] 33)
  have HA := hide (h.below hb0)
  have HX := hide (heap_alloc_new w (.cells #[.int .i64 13, .string st] 33))
  clear hb0 h
  go_enter Tryz.func9, Tryz.ntmps9
  go_upto_region 1 with fail
  generalize w.alloc (.cells #[.int .i64 13, .string st] 33) = W at *
  generalize w.heap.size = g at *
  obtain ⟨y0, y1⟩ := cells2 HX.out
  go_wp2_with fail
  obtain ⟨v, hv, ha, hs⟩ := HA.out.rebase
  refine (Fail_any (Wset p v) _ p s _ ha).mono ?_
  rintro e W2 ⟨rfl, h2⟩
  have HA2 := hide (HA.out.step hs h2)
  have HX2 := hide (h2.keep.blk HX.out (hv.not HX.out (by decide) (by decide)))
  clear hv ha hs h2 HA HX y0 y1
  have HA := HA2
  have HX := HX2
  clear HA2 HX2
  generalize s.fail 22 = s1 at *
  go_upto_region 4 with fail
  obtain ⟨v, hv, _, hs⟩ := HA.out.rebase
  have HV := hide (hv.keep (Keep.drew (fun _ => False) _) fun _ _ f => f)
  have HSS := hide hs
  clear hv hs
  have HS : Hid (∀ W' : World, W'.heap[g]? = some (.cells #[.int .i64 13, .string st] 33 (0, 0)) → (fun W' : World => W'.cell? ⟨g, 0, none⟩ = some (.int .i64 13)) W') := fun W' k => (cells2 k).1
  have HNg : Hid (¬ Wset p v g) := HV.out.not (b := g) HX.out (by decide) (by decide)
  have HXd : Hid (W2.drew.heap[g]? = some (.cells #[.int .i64 13, .string st] 33 (0, 0))) := HX.out
  go_region_held3 (fun W' : World => W'.cell? ⟨g, 0, none⟩ = some (.int .i64 13)) (first | (exact HS.out _ HXd.out) | (exact HS.out _ HX9.out) | (exact HS.out _ HX8.out) | (exact HS.out _ HX.out) | go_keep) (first
    | (go_at_call 55; refine (PutI (Wset p v) w8 p _ _ _ _ _ (numW 0 99 13) s1 _ (wr_at HV.out HB8.out) (putsNum (fun k => ¬ Wset p v k ∧ k < w8.heap.size) w8 l8 m8 0 99 13 hn HL8.out HM8.out (newD HV.out HG8.out.1 (numForm_lt HL8.out)) (newD HV.out HG8.out.2 (numForm_lt HM8.out)) p (Wset p v) w8 (Agree.refl fun k hk => hk.2) (fun k hk => hk.1)) ent_putNum).mono ?_; rintro e w9 ⟨rfl, h9⟩; have HX9 := hide (h9.keep.blk HX8.out HNg.out); have H9 := hide h9; clear h9)
    | (go_at_call 39; refine (Numbers_any 0 99 _).mono ?_; rintro e w8 ⟨l8, m8, rfl, hl8, hm8, hgl, hgm, hb8⟩; have HL8 := hide hl8; have HM8 := hide hm8; have HG8 := hide (And.intro hgl hgm); have HB8 := hide hb8; have HX8 := hide (blkB HXd.out hb8); clear hl8 hm8 hgl hgm hb8))
  have HA9 := hide ((HA.out.below (((Below.refl _ _).drew).trans HB8.out)).step HSS.out H9.out)
  have HX9 := hide (H9.out.keep.blk HX8.out HNg.out)
  clear HA HX HV HSS HS HNg HXd HL8 HM8 HG8 HB8 HX8 H9
  generalize putW (numW 0 99 13) s1 = s2 at *

  have HA := HA9
  have HX := HX9
  clear HA9 HX9

  go_upto_region 5 with fail
  obtain ⟨v, hv, _, hs⟩ := HA.out.rebase
  have HV := hide (hv.keep (Keep.drew (fun _ => False) _) fun _ _ f => f)
  have HSS := hide hs
  clear hv hs
  have HS : Hid (∀ W' : World, W'.heap[g]? = some (.cells #[.int .i64 13, .string st] 33 (0, 0)) → (fun W' : World => W'.cell? ⟨g, 1, none⟩ = some (.string st)) W') := fun W' k => (cells2 k).2
  have HNg : Hid (¬ Wset p v g) := HV.out.not (b := g) HX.out (by decide) (by decide)
  have HXd : Hid (w9.drew.heap[g]? = some (.cells #[.int .i64 13, .string st] 33 (0, 0))) := HX.out
  go_region_held3 (fun W' : World => W'.cell? ⟨g, 1, none⟩ = some (.string st)) (first | (exact HS.out _ HXd.out) | (exact HS.out _ HX9.out) | (exact HS.out _ HX8.out) | (exact HS.out _ HX.out) | go_keep) (first
    | (go_at_call 56; refine (PutS (Wset p v) w18 p _ _ _ _ _ (textW 9 (sb st)) s2 _ (wr_at HV.out HB8.out) (putsText (fun k => ¬ Wset p v k ∧ k < w18.heap.size) w18 m8 9 st hst HM8.out (newD HV.out HG8.out (numForm_lt HM8.out)) p (Wset p v) w18 (Agree.refl fun k hk => hk.2) (fun k hk => hk.1)) ent_putText).mono ?_; rintro e w19 ⟨rfl, h9⟩; have HX9 := hide (h9.keep.blk HX8.out HNg.out); have H9 := hide h9; clear h9)
    | (go_at_call 43; refine (Texts_any 9 _).mono ?_; rintro e w18 ⟨m8, rfl, hm8, hgm, hb8⟩; have HM8 := hide hm8; have HG8 := hide hgm; clear hm8 hgm; have HB8 := hide hb8; have HX8 := hide (blkB HXd.out hb8); clear hb8))
  go_wp2_with fail
  go_end0
  rw [← HS'.out]
  exact ⟨rfl, (HA.out.below (((Below.refl _ _).drew).trans HB8.out)).step HSS.out H9.out⟩
set_option maxRecDepth 100000 in
set_option maxHeartbeats 4000000 in
theorem lay_no (S : Nat → Prop) (w0 : World) (p : Nat) (s : K.WS) (n : Int) (hn : n ≤ 9223372036854775807) (h7 : n ≠ 7) (h13 : n ≠ 13) (st : ByteArray) (hst : st.size ≤ 140737488351232) (w : World) (h : WAt S w0 p s w) :
    Calls Tryz.prog 9 #[.pointer (some ⟨p, 0, none⟩), .agg #[.int .i64 n, .string st]] w fun en w' => en = .returned (.tuple #[]) ∧ WAt S w0 p (layE n st s) w' := by
  obtain ⟨s', hs'⟩ : ∃ s', layE n st s = s' := ⟨_, rfl⟩
  rw [hs']
  rw [layE_no h7 h13] at hs'
  have HS' := hide hs'
  clear hs'
  have h7' : (n == 7) = false := by simpa using h7
  have h13' : (n == 13) = false := by simpa using h13
  clear h7 h13
  have hb0 := (Below.refl w.heap.size w).alloc (Nat.le_refl _) (.cells #[.int .i64 n, .string st] 33)
  have HA := hide (h.below hb0)
  have HX := hide (heap_alloc_new w (.cells #[.int .i64 n, .string st] 33))
  clear hb0 h
  go_enter Tryz.func9, Tryz.ntmps9
  go_upto_region 1 with fail
  generalize w.alloc (.cells #[.int .i64 n, .string st] 33) = W at *
  generalize w.heap.size = g at *
  obtain ⟨y0, y1⟩ := cells2 HX.out
  generalize s = s1 at *
  go_upto_region 4 with fail
  obtain ⟨v, hv, _, hs⟩ := HA.out.rebase
  have HV := hide (hv.keep (Keep.drew (fun _ => False) _) fun _ _ f => f)
  have HSS := hide hs
  clear hv hs
  have HS : Hid (∀ W' : World, W'.heap[g]? = some (.cells #[.int .i64 n, .string st] 33 (0, 0)) → (fun W' : World => W'.cell? ⟨g, 0, none⟩ = some (.int .i64 n)) W') := fun W' k => (cells2 k).1
  have HNg : Hid (¬ Wset p v g) := HV.out.not (b := g) HX.out (by decide) (by decide)
  have HXd : Hid (W.drew.heap[g]? = some (.cells #[.int .i64 n, .string st] 33 (0, 0))) := HX.out
  go_region_held3 (fun W' : World => W'.cell? ⟨g, 0, none⟩ = some (.int .i64 n)) (first | (exact HS.out _ HXd.out) | (exact HS.out _ HX9.out) | (exact HS.out _ HX8.out) | (exact HS.out _ HX.out) | go_keep) (first
    | (go_at_call 55; refine (PutI (Wset p v) w8 p _ _ _ _ _ (numW 0 99 n) s1 _ (wr_at HV.out HB8.out) (putsNum (fun k => ¬ Wset p v k ∧ k < w8.heap.size) w8 l8 m8 0 99 n hn HL8.out HM8.out (newD HV.out HG8.out.1 (numForm_lt HL8.out)) (newD HV.out HG8.out.2 (numForm_lt HM8.out)) p (Wset p v) w8 (Agree.refl fun k hk => hk.2) (fun k hk => hk.1)) ent_putNum).mono ?_; rintro e w9 ⟨rfl, h9⟩; have HX9 := hide (h9.keep.blk HX8.out HNg.out); have H9 := hide h9; clear h9)
    | (go_at_call 39; refine (Numbers_any 0 99 _).mono ?_; rintro e w8 ⟨l8, m8, rfl, hl8, hm8, hgl, hgm, hb8⟩; have HL8 := hide hl8; have HM8 := hide hm8; have HG8 := hide (And.intro hgl hgm); have HB8 := hide hb8; have HX8 := hide (blkB HXd.out hb8); clear hl8 hm8 hgl hgm hb8))
  have HA9 := hide ((HA.out.below (((Below.refl _ _).drew).trans HB8.out)).step HSS.out H9.out)
  have HX9 := hide (H9.out.keep.blk HX8.out HNg.out)
  clear HA HX HV HSS HS HNg HXd HL8 HM8 HG8 HB8 HX8 H9
  generalize putW (numW 0 99 n) s1 = s2 at *

  have HA := HA9
  have HX := HX9
  clear HA9 HX9

  go_upto_region 5 with fail
  obtain ⟨v, hv, _, hs⟩ := HA.out.rebase
  have HV := hide (hv.keep (Keep.drew (fun _ => False) _) fun _ _ f => f)
  have HSS := hide hs
  clear hv hs
  have HS : Hid (∀ W' : World, W'.heap[g]? = some (.cells #[.int .i64 n, .string st] 33 (0, 0)) → (fun W' : World => W'.cell? ⟨g, 1, none⟩ = some (.string st)) W') := fun W' k => (cells2 k).2
  have HNg : Hid (¬ Wset p v g) := HV.out.not (b := g) HX.out (by decide) (by decide)
  have HXd : Hid (w9.drew.heap[g]? = some (.cells #[.int .i64 n, .string st] 33 (0, 0))) := HX.out
  go_region_held3 (fun W' : World => W'.cell? ⟨g, 1, none⟩ = some (.string st)) (first | (exact HS.out _ HXd.out) | (exact HS.out _ HX9.out) | (exact HS.out _ HX8.out) | (exact HS.out _ HX.out) | go_keep) (first
    | (go_at_call 56; refine (PutS (Wset p v) w18 p _ _ _ _ _ (textW 9 (sb st)) s2 _ (wr_at HV.out HB8.out) (putsText (fun k => ¬ Wset p v k ∧ k < w18.heap.size) w18 m8 9 st hst HM8.out (newD HV.out HG8.out (numForm_lt HM8.out)) p (Wset p v) w18 (Agree.refl fun k hk => hk.2) (fun k hk => hk.1)) ent_putText).mono ?_; rintro e w19 ⟨rfl, h9⟩; have HX9 := hide (h9.keep.blk HX8.out HNg.out); have H9 := hide h9; clear h9)
    | (go_at_call 43; refine (Texts_any 9 _).mono ?_; rintro e w18 ⟨m8, rfl, hm8, hgm, hb8⟩; have HM8 := hide hm8; have HG8 := hide hgm; clear hm8 hgm; have HB8 := hide hb8; have HX8 := hide (blkB HXd.out hb8); clear hb8))
  go_wp2_with fail
  go_end0
  rw [← HS'.out]
  exact ⟨rfl, (HA.out.below (((Below.refl _ _).drew).trans HB8.out)).step HSS.out H9.out⟩
theorem lay_any (S : Nat → Prop) (w0 : World) (p : Nat) (s : K.WS) (n : Int) (hn : n ≤ 9223372036854775807) (st : ByteArray) (hst : st.size ≤ 140737488351232) (w : World) (h : WAt S w0 p s w) :
    Calls Tryz.prog 9 #[.pointer (some ⟨p, 0, none⟩), .agg #[.int .i64 n, .string st]] w fun en w' => en = .returned (.tuple #[]) ∧ WAt S w0 p (layE n st s) w' := by
  by_cases h7 : n = 7
  · subst h7; exact lay_seven S w0 p s st w h
  · by_cases h13 : n = 13
    · subst h13; exact lay_bad S w0 p s st hst w h
    · exact lay_no S w0 p s n hn h7 h13 st hst w h
set_option maxRecDepth 100000 in
set_option maxHeartbeats 4000000 in
theorem layed_seven (S : Nat → Prop) (w0 : World) (p : Nat) (s : K.WS) (st : ByteArray) (w : World) (h : VAt S w0 p s w) :
    Calls Tryz.prog 15 #[.pointer (some ⟨p, 0, none⟩), .agg #[.int .i64 7, .string st]] w fun en w' => en = .returned (.tuple #[]) ∧ VAt S w0 p (layE 7 st s) w' := by
  have hb0 := (Below.refl w.heap.size w).alloc (Nat.le_refl _) (.cells #[.int .i64 7, .string st] 33)
  have HA := hide (h.below hb0)
  have HX := hide (heap_alloc_new w (.cells #[.int .i64 7, .string st] 33))
  clear hb0 h
  go_enter Tryz.func15, Tryz.ntmps15
  go_upto_region 1 with fail
  generalize w.alloc (.cells #[.int .i64 7, .string st] 33) = W at *
  generalize w.heap.size = g at *
  obtain ⟨y0, y1⟩ := cells2 HX.out
  go_wp2
  first | go_end0 | refine bodyPost_ret (results_none rfl _ _ _) rfl ?_
  exact ⟨rfl, by rw [layE_7]; exact HA.out⟩
set_option maxRecDepth 100000 in
set_option maxHeartbeats 4000000 in
theorem layed_bad (S : Nat → Prop) (w0 : World) (p : Nat) (s : K.WS) (st : ByteArray) (hst : st.size ≤ 140737488351232) (w : World) (h : VAt S w0 p s w) :
    Calls Tryz.prog 15 #[.pointer (some ⟨p, 0, none⟩), .agg #[.int .i64 13, .string st]] w fun en w' => en = .returned (.tuple #[]) ∧ VAt S w0 p (layE 13 st s) w' := by
  have hn : (13 : Int) ≤ 9223372036854775807 := by decide
  obtain ⟨s', hs'⟩ : ∃ s', layE 13 st s = s' := ⟨_, rfl⟩
  rw [hs']
  rw [layE_13] at hs'
  have HS' := hide hs'
  clear hs'
  have hb0 := (Below.refl w.heap.size w).alloc (Nat.le_refl _) (.cells #[.int .i64 13, .string st] 33)
  have HA := hide (h.below hb0)
  have HX := hide (heap_alloc_new w (.cells #[.int .i64 13, .string st] 33))
  clear hb0 h
  go_enter Tryz.func15, Tryz.ntmps15
  go_upto_region 1 with fail
  generalize w.alloc (.cells #[.int .i64 13, .string st] 33) = W at *
  generalize w.heap.size = g at *
  obtain ⟨y0, y1⟩ := cells2 HX.out
  go_wp2_with fail
  obtain ⟨v, ha, hs⟩ := v_stepB HA.out HX.out (by decide) (by decide)
  refine (Go.Proofs.YtoelgcagahmndaaGreat.wrong_any (Wset p v) _ p s 22 _ ha).mono ?_
  rintro e W2 ⟨rfl, h2⟩
  obtain ⟨hA2, hX2⟩ := hs _ _ h2
  clear ha hs h2 HA HX y0 y1
  have HA := hide hA2
  have HX := hide hX2
  clear hA2 hX2
  obtain ⟨y0, y1⟩ := cells2 HX.out
  generalize s.fail 22 = s1 at *
  go_wp2_with fail
  obtain ⟨v, ha, hs⟩ := v_stepB HA.out HX.out (by decide) (by decide)
  refine (RNumber_any (Wset p v) _ p 0 99 13 hn s1 _ ha).mono ?_
  rintro e W3 ⟨rfl, h3⟩
  obtain ⟨hA3, hX3⟩ := hs _ _ h3
  have HA3 := hide hA3
  clear ha hs h3 HA HX y0 y1 hA3
  obtain ⟨y0, y1⟩ := cells2 hX3
  clear hX3
  go_wp2_with fail
  refine (RText_any S w0 p 9 st hst _ _ HA3.out).mono ?_
  rintro e W4 ⟨rfl, h4⟩
  have HA4 := hide h4
  clear h4
  go_wp2_with fail
  go_end0
  rw [← HS'.out]
  exact ⟨rfl, HA4.out⟩
set_option maxRecDepth 100000 in
set_option maxHeartbeats 4000000 in
theorem layed_no (S : Nat → Prop) (w0 : World) (p : Nat) (s : K.WS) (n : Int) (hn : n ≤ 9223372036854775807) (h7 : n ≠ 7) (h13 : n ≠ 13) (st : ByteArray) (hst : st.size ≤ 140737488351232) (w : World) (h : VAt S w0 p s w) :
    Calls Tryz.prog 15 #[.pointer (some ⟨p, 0, none⟩), .agg #[.int .i64 n, .string st]] w fun en w' => en = .returned (.tuple #[]) ∧ VAt S w0 p (layE n st s) w' := by
  obtain ⟨s', hs'⟩ : ∃ s', layE n st s = s' := ⟨_, rfl⟩
  rw [hs']
  rw [layE_no h7 h13] at hs'
  have HS' := hide hs'
  clear hs'
  have h7' : (n == 7) = false := by simpa using h7
  have h13' : (n == 13) = false := by simpa using h13
  clear h7 h13
  have hb0 := (Below.refl w.heap.size w).alloc (Nat.le_refl _) (.cells #[.int .i64 n, .string st] 33)
  have HA := hide (h.below hb0)
  have HX := hide (heap_alloc_new w (.cells #[.int .i64 n, .string st] 33))
  clear hb0 h
  go_enter Tryz.func15, Tryz.ntmps15
  go_upto_region 1 with fail
  generalize w.alloc (.cells #[.int .i64 n, .string st] 33) = W at *
  generalize w.heap.size = g at *
  obtain ⟨y0, y1⟩ := cells2 HX.out
  generalize s = s1 at *
  go_wp2_with fail
  obtain ⟨v, ha, hs⟩ := v_stepB HA.out HX.out (by decide) (by decide)
  refine (RNumber_any (Wset p v) _ p 0 99 n hn s1 _ ha).mono ?_
  rintro e W3 ⟨rfl, h3⟩
  obtain ⟨hA3, hX3⟩ := hs _ _ h3
  have HA3 := hide hA3
  clear ha hs h3 HA HX y0 y1 hA3
  obtain ⟨y0, y1⟩ := cells2 hX3
  clear hX3
  go_wp2_with fail
  refine (RText_any S w0 p 9 st hst _ _ HA3.out).mono ?_
  rintro e W4 ⟨rfl, h4⟩
  have HA4 := hide h4
  clear h4
  go_wp2_with fail
  go_end0
  rw [← HS'.out]
  exact ⟨rfl, HA4.out⟩
theorem layed_any (S : Nat → Prop) (w0 : World) (p : Nat) (s : K.WS) (n : Int) (hn : n ≤ 9223372036854775807) (st : ByteArray) (hst : st.size ≤ 140737488351232) (w : World) (h : VAt S w0 p s w) :
    Calls Tryz.prog 15 #[.pointer (some ⟨p, 0, none⟩), .agg #[.int .i64 n, .string st]] w fun en w' => en = .returned (.tuple #[]) ∧ VAt S w0 p (layE n st s) w' := by
  by_cases h7 : n = 7
  · subst h7; exact layed_seven S w0 p s st w h
  · by_cases h13 : n = 13
    · subst h13; exact layed_bad S w0 p s st hst w h
    · exact layed_no S w0 p s n hn h7 h13 st hst w h
end Wm
end Go.Proofs.YtoelgcagahmndaaGreat

/- A form of the law's own: get, got (written by th2_gen.py). -/
namespace Go.Proofs.YtoelgcagahmndaaGreat
namespace Wm
open Go.RowKit Go.Deep

def num9 (s : K.RS) : Int := okR (numR 0 99) s ((numV s : Nat) : Int) 0
def txt9 (s : K.RS) : ByteArray := okR (rowR 9) s (str (rowV 9 s)) ⟨#[]⟩
/-- what get tells, and leaves -/
def getN (s : K.RS) : Int := if s.taken % 7 = 6 then 7 else num9 s
def getS (s : K.RS) : ByteArray := if s.taken % 7 = 6 then ⟨#[]⟩ else txt9 (takeR (numR 0 99) s)
def getE (s : K.RS) : K.RS := if s.taken % 7 = 6 then s else if num9 s = 13 then (takeR (rowR 9) (takeR (numR 0 99) s)).fail 22 else takeR (rowR 9) (takeR (numR 0 99) s)
theorem gt_six {s : K.RS} (h : s.taken % 7 = 6) : getN s = 7 ∧ getS s = ⟨#[]⟩ ∧ getE s = s := ⟨if_pos h, if_pos h, if_pos h⟩
theorem gt_bad {s : K.RS} (h : s.taken % 7 ≠ 6) (h13 : num9 s = 13) : getN s = 13 ∧ getS s = txt9 (takeR (numR 0 99) s) ∧ getE s = (takeR (rowR 9) (takeR (numR 0 99) s)).fail 22 := by
  unfold getN getS getE
  rw [if_neg h, if_neg h, if_neg h, if_pos h13]
  exact ⟨h13, rfl, rfl⟩
theorem gt_no {s : K.RS} (h : s.taken % 7 ≠ 6) (h13 : num9 s ≠ 13) : getN s = num9 s ∧ getS s = txt9 (takeR (numR 0 99) s) ∧ getE s = takeR (rowR 9) (takeR (numR 0 99) s) := by
  unfold getN getS getE
  rw [if_neg h, if_neg h, if_neg h, if_neg h13]
  exact ⟨rfl, rfl, rfl⟩
theorem info_thing : (Tryz.prog.info? 33).map (·.size) = some 2 := by kernel_rfl
theorem one2 (n : Int) (t : ByteArray) : (#[.int .i64 n, .string t] : Array Value).all (·.oneCell') = true := by simp [Value.oneCell']
theorem res2 {fn : Func} {p : Tmp} (hh : fn.results = #[.cell p 33]) (tmps : Array Value) (w : World) (g : Nat) (a b : Value) (hp : tmps.getD p undef = .pointer (some ⟨g, 0, none⟩)) (hg : w.heap[g]? = some (.cells #[a, b] 33 (0, 0))) :
    (results fn tmps).run Tryz.prog w = .ok (.agg #[a, b]) w :=
  results_cell_row hh tmps w g 33 #[a, b] (0, 0) _ hp hg Tryz.underlying33 rfl (by rw [info_thing]; rfl)
theorem mod7 (n : Nat) (hn : n ≤ 16777216) : Int.tmod ((n : Nat) : Int) 7 = ((n % 7 : Nat) : Int) ∧ IntKind.i64.wrap ((n % 7 : Nat) : Int) = ((n % 7 : Nat) : Int) := by
  refine ⟨by rw [Int.tmod_eq_emod_of_nonneg (by omega)]; omega, ?_⟩
  rw [IntKind.wrap_i64]
  omega
set_option maxRecDepth 100000 in
set_option maxHeartbeats 4000000 in
theorem get_six (r : Nat) (s : K.RS) (w : World) (h : Rr w r s) (hm : s.taken % 7 = 6) :
    Calls Tryz.prog 11 #[.pointer (some ⟨r, 0, none⟩)] w fun en w' => en = .returned (.agg #[.int .i64 (getN s), .string (getS s)]) ∧ Rr w' r (getE s) ∧ Keep (fun k => k = r) w w' := by
  obtain ⟨e1, e2, e3⟩ := gt_six hm
  rw [e1, e2, e3]
  clear e1 e2 e3
  have hrw := h.lt
  have htp := h.top
  have htk := h.tak
  obtain ⟨em, ew⟩ := mod7 s.taken (by omega)
  have HB : Hid (Below w.heap.size w (w.alloc (.cells #[.int .i64 0, .string ⟨#[]⟩] 33))) := (Below.refl _ _).alloc (Nat.le_refl _) _
  have HG := hide (heap_alloc_new w (.cells #[.int .i64 0, .string ⟨#[]⟩] 33))
  have HR := hide (h.below HB.out)
  have HI2 : Hid (∀ a b : Value, (Tryz.prog.info? 33).map (·.size) = some (#[a, b] : Array Value).size) := fun a b => by rw [info_thing]; rfl
  clear h htp htk
  rw [hm] at em ew
  go_enter Tryz.func11, Tryz.ntmps11
  go_upto_region 1 with fail
  change Code.wp _ _ _ _ (w.alloc (.cells #[.int .i64 0, .string ⟨#[]⟩] 33))
  generalize w.alloc (.cells #[.int .i64 0, .string ⟨#[]⟩] 33) = W at *
  generalize hg : w.heap.size = g at *
  have HGe := hide hg
  clear hg
  go_wp2_with fail
  refine (at_any r s _ HR.out).mono ?_
  rintro e w1 ⟨rfl, rfl⟩
  go_wp2_with (refine wpList_store_row rfl 33 _ _ rfl g #[.int .i64 7, .string ⟨#[]⟩] rfl rfl 33 _ HG.out (HI2.out _ _) rfl (one2 _ _) ?_)
  have HX := hide (setRow_heap _ g _ #[.int .i64 7, .string ⟨#[]⟩] _ _ HG.out)
  have HK := hide (keep_row w1 g #[.int .i64 7, .string ⟨#[]⟩])
  refine bodyPost_ret (res2 rfl _ _ g _ _ rfl HX.out) rfl ⟨rfl, HR.out.stay HK.out (fun k hk e => by have : k = g := e; have := HGe.out; omega), ?_⟩
  exact (Keep.ofBelow (S := fun k => k = r) HB.out (by rw [HGe.out]; exact Nat.le_refl _)).trans HK.out fun i e => .inr (by have : i = g := e; rw [HGe.out]; omega)
set_option maxRecDepth 100000 in
set_option maxHeartbeats 4000000 in
theorem get_bad (r : Nat) (s : K.RS) (w : World) (h : Rr w r s) (hm : s.taken % 7 ≠ 6) (h13 : num9 s = 13) :
    Calls Tryz.prog 11 #[.pointer (some ⟨r, 0, none⟩)] w fun en w' => en = .returned (.agg #[.int .i64 (getN s), .string (getS s)]) ∧ Rr w' r (getE s) ∧ Keep (fun k => k = r) w w' := by
  obtain ⟨e1, e2, e3⟩ := gt_bad hm h13
  rw [e1, e2, e3]
  clear e1 e2 e3
  obtain ⟨tt, htt⟩ : ∃ x, txt9 (takeR (numR 0 99) s) = x := ⟨_, rfl⟩
  obtain ⟨s2, hs2⟩ : ∃ x, takeR (rowR 9) (takeR (numR 0 99) s) = x := ⟨_, rfl⟩
  rw [htt, hs2]
  have HTe := hide htt
  have HS2 := hide hs2
  clear htt hs2
  have hrw := h.lt
  have htp := h.top
  have htk := h.tak
  obtain ⟨em, ew⟩ := mod7 s.taken (by omega)
  have HB : Hid (Below w.heap.size w (w.alloc (.cells #[.int .i64 0, .string ⟨#[]⟩] 33))) := (Below.refl _ _).alloc (Nat.le_refl _) _
  have HG := hide (heap_alloc_new w (.cells #[.int .i64 0, .string ⟨#[]⟩] 33))
  have HR := hide (h.below HB.out)
  have HI2 : Hid (∀ a b : Value, (Tryz.prog.info? 33).map (·.size) = some (#[a, b] : Array Value).size) := fun a b => by rw [info_thing]; rfl
  clear h htp htk
  have hm' : (((s.taken % 7 : Nat) : Int) == 6) = false := by simp only [beq_eq_false_iff_ne]; omega
  clear hm
  generalize s.taken % 7 = mm at *
  have H13 := hide h13
  clear h13
  go_enter Tryz.func11, Tryz.ntmps11
  go_upto_region 1 with fail
  change Code.wp _ _ _ _ (w.alloc (.cells #[.int .i64 0, .string ⟨#[]⟩] 33))
  generalize w.alloc (.cells #[.int .i64 0, .string ⟨#[]⟩] 33) = W at *
  generalize hg : w.heap.size = g at *
  have HGe := hide hg
  clear hg
  go_wp2_with fail
  refine (at_any r s _ HR.out).mono ?_
  rintro e w1 ⟨rfl, rfl⟩
  go_wp2_with fail
  refine (Numbers_any 0 99 _).mono ?_
  rintro e w8 ⟨l8, m8, rfl, hl8, hm8, hgl, hgm, hb8⟩
  have HL8 := hide hl8
  have HM8 := hide hm8
  have HG8 := hide (And.intro hgl hgm)
  have HB8 := hide hb8
  clear hl8 hm8 hgl hgm hb8
  go_wp2_with fail
  refine (take_num r l8 m8 0 99 s _ (HR.out.below HB8.out) HL8.out HM8.out (Nat.lt_of_lt_of_le HR.out.lt HG8.out.1) (Nat.lt_of_lt_of_le HR.out.lt HG8.out.2) _ _).mono ?_
  rintro e w9 ⟨rfl, hr9, hk9⟩
  have HR9 := hide hr9
  have HK9 := hide ((Keep.ofBelow (S := fun k => k = r) HB8.out (Nat.le_refl _)).more hk9)
  clear hr9 hk9 HL8 HM8 HG8 HB8
  go_wp2_with fail
  refine (Texts_any 9 _).mono ?_
  rintro e w18 ⟨m18, rfl, hm18, hgm, hb18⟩
  have HM18 := hide hm18
  have HG18 := hide hgm
  have HB18 := hide hb18
  clear hm18 hgm hb18
  go_wp2_with fail
  refine (take_text r m18 9 (takeR (numR 0 99) s) _ (HR9.out.below HB18.out) HM18.out (Nat.lt_of_lt_of_le HR9.out.lt HG18.out) _ _).mono ?_
  rintro e w19 ⟨rfl, hr19, hk19⟩
  have HR19 := hide hr19
  have HK19 := hide (HK9.out.more ((Keep.ofBelow (S := fun k => k = r) HB18.out (Nat.le_refl _)).more hk19))
  clear hr19 hk19 HM18 HG18 HB18 HR9 HK9
  have HG19 := hide (HK19.out.blk HG.out (fun e => by have : g = r := e; have := HGe.out; omega))
  have HNe : Hid (okR (numR 0 99) s ((numV s : Nat) : Int) 0 = 13) := H13.out
  have HTe' : Hid (okR (rowR 9) (takeR (numR 0 99) s) (str (rowV 9 (takeR (numR 0 99) s))) ⟨#[]⟩ = tt) := HTe.out
  rw [HNe.out, HTe'.out]
  rw [HS2.out] at HR19
  have HA := hide (heap_alloc_new w19 (.cells #[.int .i64 0, .string ⟨#[]⟩] 33))
  have HXs := hide (setRow_heap (w19.alloc (.cells #[.int .i64 0, .string ⟨#[]⟩] 33)) w19.heap.size _ #[.int .i64 13, .string tt] _ _ HA.out)
  have HBs : Hid (Below w19.heap.size w19 ((w19.alloc (.cells #[.int .i64 0, .string ⟨#[]⟩] 33)).setRow w19.heap.size #[.int .i64 13, .string tt])) := ((Below.refl _ _).alloc (Nat.le_refl _) _).trans ((keep_row _ _ _).below (by simp) fun k e => by rw [e]; exact Nat.le_refl _)
  go_upto_region 4 with (refine wpList_store_row rfl 33 _ _ rfl w19.heap.size #[.int .i64 13, .string tt] rfl rfl 33 _ HA.out (HI2.out _ _) rfl (one2 _ _) ?_)
  change Code.wp _ _ _ _ ((w19.alloc (.cells #[.int .i64 0, .string ⟨#[]⟩] 33)).setRow w19.heap.size #[.int .i64 13, .string tt])
  generalize (w19.alloc (.cells #[.int .i64 0, .string ⟨#[]⟩] 33)).setRow w19.heap.size #[.int .i64 13, .string tt] = w20 at *
  have HR20 := hide (HR19.out.below HBs.out)
  have HG20 := hide (blkB HG19.out HBs.out)
  have HK20 := hide (HK19.out.more (Keep.ofBelow (S := fun k => k = r) HBs.out (Nat.le_refl _)))
  have HW19 : Hid (r < w19.heap.size ∧ g < w19.heap.size) := ⟨HR19.out.lt, (Array.getElem?_eq_some_iff.1 HG19.out).1⟩
  generalize w19.heap.size = xb at *
  clear HR19 HG19 HK19 HBs HA
  obtain ⟨y0, y1⟩ := cells2 HXs.out
  go_wp2_with fail
  refine (rFail_any r s2 _ HR20.out).mono ?_
  rintro e w21 ⟨rfl, hr21, hk21⟩
  have HR21 := hide hr21
  have HX21 := hide (hk21.blk HXs.out (fun e => by have : xb = r := e; have := HW19.out.1; omega))
  have HG21 := hide (hk21.blk HG20.out (fun e => by have : g = r := e; have := HGe.out; omega))
  have HK21 := hide (HK20.out.more hk21)
  clear hr21 hk21 y0 y1
  go_wp2_with (first
    | (refine wpList_load_row rfl 33 _ rfl xb rfl 33 #[.int .i64 13, .string tt] (0, 0) _ HX21.out Tryz.underlying33 rfl (HI2.out _ _) ?_)
    | (refine wpList_store_row rfl 33 _ _ rfl g #[.int .i64 13, .string tt] rfl rfl 33 _ HG21.out (HI2.out _ _) rfl (one2 _ _) ?_))
  have HX := hide (setRow_heap _ g _ #[.int .i64 13, .string tt] _ _ HG21.out)
  have HK := hide (keep_row w21 g #[.int .i64 13, .string tt])
  refine bodyPost_ret (res2 rfl _ _ g _ _ rfl HX.out) rfl ⟨rfl, HR21.out.stay HK.out (fun k hk e => by have : k = g := e; have := HGe.out; omega), ?_⟩
  exact ((Keep.ofBelow (S := fun k => k = r) HB.out (by rw [HGe.out]; exact Nat.le_refl _)).more HK21.out).trans HK.out fun i e => .inr (by have : i = g := e; rw [HGe.out]; omega)
set_option maxRecDepth 100000 in
set_option maxHeartbeats 4000000 in
theorem get_no (r : Nat) (s : K.RS) (w : World) (h : Rr w r s) (hm : s.taken % 7 ≠ 6) (h13 : num9 s ≠ 13) :
    Calls Tryz.prog 11 #[.pointer (some ⟨r, 0, none⟩)] w fun en w' => en = .returned (.agg #[.int .i64 (getN s), .string (getS s)]) ∧ Rr w' r (getE s) ∧ Keep (fun k => k = r) w w' := by
  obtain ⟨e1, e2, e3⟩ := gt_no hm h13
  rw [e1, e2, e3]
  clear e1 e2 e3
  obtain ⟨tt, htt⟩ : ∃ x, txt9 (takeR (numR 0 99) s) = x := ⟨_, rfl⟩
  obtain ⟨s2, hs2⟩ : ∃ x, takeR (rowR 9) (takeR (numR 0 99) s) = x := ⟨_, rfl⟩
  rw [htt, hs2]
  have HTe := hide htt
  have HS2 := hide hs2
  clear htt hs2
  obtain ⟨nn, hnn⟩ : ∃ x, num9 s = x := ⟨_, rfl⟩
  rw [hnn] at h13 ⊢
  have HNn := hide hnn
  clear hnn
  have hrw := h.lt
  have htp := h.top
  have htk := h.tak
  obtain ⟨em, ew⟩ := mod7 s.taken (by omega)
  have HB : Hid (Below w.heap.size w (w.alloc (.cells #[.int .i64 0, .string ⟨#[]⟩] 33))) := (Below.refl _ _).alloc (Nat.le_refl _) _
  have HG := hide (heap_alloc_new w (.cells #[.int .i64 0, .string ⟨#[]⟩] 33))
  have HR := hide (h.below HB.out)
  have HI2 : Hid (∀ a b : Value, (Tryz.prog.info? 33).map (·.size) = some (#[a, b] : Array Value).size) := fun a b => by rw [info_thing]; rfl
  clear h htp htk
  have hm' : (((s.taken % 7 : Nat) : Int) == 6) = false := by simp only [beq_eq_false_iff_ne]; omega
  clear hm
  generalize s.taken % 7 = mm at *
  have h13' : (nn == 13) = false := by simpa using h13
  clear h13
  go_enter Tryz.func11, Tryz.ntmps11
  go_upto_region 1 with fail
  change Code.wp _ _ _ _ (w.alloc (.cells #[.int .i64 0, .string ⟨#[]⟩] 33))
  generalize w.alloc (.cells #[.int .i64 0, .string ⟨#[]⟩] 33) = W at *
  generalize hg : w.heap.size = g at *
  have HGe := hide hg
  clear hg
  go_wp2_with fail
  refine (at_any r s _ HR.out).mono ?_
  rintro e w1 ⟨rfl, rfl⟩
  go_wp2_with fail
  refine (Numbers_any 0 99 _).mono ?_
  rintro e w8 ⟨l8, m8, rfl, hl8, hm8, hgl, hgm, hb8⟩
  have HL8 := hide hl8
  have HM8 := hide hm8
  have HG8 := hide (And.intro hgl hgm)
  have HB8 := hide hb8
  clear hl8 hm8 hgl hgm hb8
  go_wp2_with fail
  refine (take_num r l8 m8 0 99 s _ (HR.out.below HB8.out) HL8.out HM8.out (Nat.lt_of_lt_of_le HR.out.lt HG8.out.1) (Nat.lt_of_lt_of_le HR.out.lt HG8.out.2) _ _).mono ?_
  rintro e w9 ⟨rfl, hr9, hk9⟩
  have HR9 := hide hr9
  have HK9 := hide ((Keep.ofBelow (S := fun k => k = r) HB8.out (Nat.le_refl _)).more hk9)
  clear hr9 hk9 HL8 HM8 HG8 HB8
  go_wp2_with fail
  refine (Texts_any 9 _).mono ?_
  rintro e w18 ⟨m18, rfl, hm18, hgm, hb18⟩
  have HM18 := hide hm18
  have HG18 := hide hgm
  have HB18 := hide hb18
  clear hm18 hgm hb18
  go_wp2_with fail
  refine (take_text r m18 9 (takeR (numR 0 99) s) _ (HR9.out.below HB18.out) HM18.out (Nat.lt_of_lt_of_le HR9.out.lt HG18.out) _ _).mono ?_
  rintro e w19 ⟨rfl, hr19, hk19⟩
  have HR19 := hide hr19
  have HK19 := hide (HK9.out.more ((Keep.ofBelow (S := fun k => k = r) HB18.out (Nat.le_refl _)).more hk19))
  clear hr19 hk19 HM18 HG18 HB18 HR9 HK9
  have HG19 := hide (HK19.out.blk HG.out (fun e => by have : g = r := e; have := HGe.out; omega))
  have HNe : Hid (okR (numR 0 99) s ((numV s : Nat) : Int) 0 = nn) := HNn.out
  have HTe' : Hid (okR (rowR 9) (takeR (numR 0 99) s) (str (rowV 9 (takeR (numR 0 99) s))) ⟨#[]⟩ = tt) := HTe.out
  rw [HNe.out, HTe'.out]
  rw [HS2.out] at HR19
  have HA := hide (heap_alloc_new w19 (.cells #[.int .i64 0, .string ⟨#[]⟩] 33))
  have HXs := hide (setRow_heap (w19.alloc (.cells #[.int .i64 0, .string ⟨#[]⟩] 33)) w19.heap.size _ #[.int .i64 nn, .string tt] _ _ HA.out)
  have HBs : Hid (Below w19.heap.size w19 ((w19.alloc (.cells #[.int .i64 0, .string ⟨#[]⟩] 33)).setRow w19.heap.size #[.int .i64 nn, .string tt])) := ((Below.refl _ _).alloc (Nat.le_refl _) _).trans ((keep_row _ _ _).below (by simp) fun k e => by rw [e]; exact Nat.le_refl _)
  go_upto_region 4 with (refine wpList_store_row rfl 33 _ _ rfl w19.heap.size #[.int .i64 nn, .string tt] rfl rfl 33 _ HA.out (HI2.out _ _) rfl (one2 _ _) ?_)
  change Code.wp _ _ _ _ ((w19.alloc (.cells #[.int .i64 0, .string ⟨#[]⟩] 33)).setRow w19.heap.size #[.int .i64 nn, .string tt])
  generalize (w19.alloc (.cells #[.int .i64 0, .string ⟨#[]⟩] 33)).setRow w19.heap.size #[.int .i64 nn, .string tt] = w20 at *
  have HR20 := hide (HR19.out.below HBs.out)
  have HG20 := hide (blkB HG19.out HBs.out)
  have HK20 := hide (HK19.out.more (Keep.ofBelow (S := fun k => k = r) HBs.out (Nat.le_refl _)))
  have HW19 : Hid (r < w19.heap.size ∧ g < w19.heap.size) := ⟨HR19.out.lt, (Array.getElem?_eq_some_iff.1 HG19.out).1⟩
  generalize w19.heap.size = xb at *
  clear HR19 HG19 HK19 HBs HA
  obtain ⟨y0, y1⟩ := cells2 HXs.out
  go_wp2_with (first
    | (refine wpList_load_row rfl 33 _ rfl xb rfl 33 #[.int .i64 nn, .string tt] (0, 0) _ HXs.out Tryz.underlying33 rfl (HI2.out _ _) ?_)
    | (refine wpList_store_row rfl 33 _ _ rfl g #[.int .i64 nn, .string tt] rfl rfl 33 _ HG20.out (HI2.out _ _) rfl (one2 _ _) ?_))
  have HX := hide (setRow_heap _ g _ #[.int .i64 nn, .string tt] _ _ HG20.out)
  have HK := hide (keep_row w20 g #[.int .i64 nn, .string tt])
  refine bodyPost_ret (res2 rfl _ _ g _ _ rfl HX.out) rfl ⟨rfl, HR20.out.stay HK.out (fun k hk e => by have : k = g := e; have := HGe.out; omega), ?_⟩
  exact ((Keep.ofBelow (S := fun k => k = r) HB.out (by rw [HGe.out]; exact Nat.le_refl _)).more HK20.out).trans HK.out fun i e => .inr (by have : i = g := e; rw [HGe.out]; omega)
theorem get_any (r : Nat) (s : K.RS) (w : World) (h : Rr w r s) :
    Calls Tryz.prog 11 #[.pointer (some ⟨r, 0, none⟩)] w fun en w' => en = .returned (.agg #[.int .i64 (getN s), .string (getS s)]) ∧ Rr w' r (getE s) ∧ Keep (fun k => k = r) w w' := by
  by_cases hm : s.taken % 7 = 6
  · exact get_six r s w h hm
  · by_cases h13 : num9 s = 13
    · exact get_bad r s w h hm h13
    · exact get_no r s w h hm h13
set_option maxRecDepth 100000 in
set_option maxHeartbeats 4000000 in
theorem got_six (r : Nat) (s : K.RS) (w : World) (h : Qr w r s) (hm : s.taken % 7 = 6) :
    Calls Tryz.prog 24 #[.pointer (some ⟨r, 0, none⟩)] w fun en w' => en = .returned (.agg #[.int .i64 (getN s), .string (getS s)]) ∧ Qr w' r (getE s) ∧ Keep (fun k => k = r) w w' := by
  obtain ⟨e1, e2, e3⟩ := gt_six hm
  rw [e1, e2, e3]
  clear e1 e2 e3
  have hrw := h.lt
  have htp := h.top
  have htk := h.tak
  obtain ⟨em, ew⟩ := mod7 s.taken (by omega)
  have HB : Hid (Below w.heap.size w (w.alloc (.cells #[.int .i64 0, .string ⟨#[]⟩] 33))) := (Below.refl _ _).alloc (Nat.le_refl _) _
  have HG := hide (heap_alloc_new w (.cells #[.int .i64 0, .string ⟨#[]⟩] 33))
  have HR := hide (h.below HB.out)
  have HI2 : Hid (∀ a b : Value, (Tryz.prog.info? 33).map (·.size) = some (#[a, b] : Array Value).size) := fun a b => by rw [info_thing]; rfl
  clear h htp htk
  rw [hm] at em ew
  go_enter Tryz.func24, Tryz.ntmps24
  go_upto_region 1 with fail
  change Code.wp _ _ _ _ (w.alloc (.cells #[.int .i64 0, .string ⟨#[]⟩] 33))
  generalize w.alloc (.cells #[.int .i64 0, .string ⟨#[]⟩] 33) = W at *
  generalize hg : w.heap.size = g at *
  have HGe := hide hg
  clear hg
  obtain ⟨_, _, _, c1, _, _⟩ := HR.out.see
  go_wp2_with (refine wpList_store_row rfl 33 _ _ rfl g #[.int .i64 7, .string ⟨#[]⟩] rfl rfl 33 _ HG.out (HI2.out _ _) rfl (one2 _ _) ?_)
  have HX := hide (setRow_heap _ g _ #[.int .i64 7, .string ⟨#[]⟩] _ _ HG.out)
  have HK := hide (keep_row W g #[.int .i64 7, .string ⟨#[]⟩])
  refine bodyPost_ret (res2 rfl _ _ g _ _ rfl HX.out) rfl ⟨rfl, HR.out.stay HK.out (fun k hk e => by have : k = g := e; have := HGe.out; omega), ?_⟩
  exact (Keep.ofBelow (S := fun k => k = r) HB.out (by rw [HGe.out]; exact Nat.le_refl _)).trans HK.out fun i e => .inr (by have : i = g := e; rw [HGe.out]; omega)
set_option maxRecDepth 100000 in
set_option maxHeartbeats 4000000 in
theorem got_bad (r : Nat) (s : K.RS) (w : World) (h : Qr w r s) (hm : s.taken % 7 ≠ 6) (h13 : num9 s = 13) :
    Calls Tryz.prog 24 #[.pointer (some ⟨r, 0, none⟩)] w fun en w' => en = .returned (.agg #[.int .i64 (getN s), .string (getS s)]) ∧ Qr w' r (getE s) ∧ Keep (fun k => k = r) w w' := by
  obtain ⟨e1, e2, e3⟩ := gt_bad hm h13
  rw [e1, e2, e3]
  clear e1 e2 e3
  obtain ⟨tt, htt⟩ : ∃ x, txt9 (takeR (numR 0 99) s) = x := ⟨_, rfl⟩
  obtain ⟨s2, hs2⟩ : ∃ x, takeR (rowR 9) (takeR (numR 0 99) s) = x := ⟨_, rfl⟩
  rw [htt, hs2]
  have HTe := hide htt
  have HS2 := hide hs2
  clear htt hs2
  have hrw := h.lt
  have htp := h.top
  have htk := h.tak
  obtain ⟨em, ew⟩ := mod7 s.taken (by omega)
  have HB : Hid (Below w.heap.size w (w.alloc (.cells #[.int .i64 0, .string ⟨#[]⟩] 33))) := (Below.refl _ _).alloc (Nat.le_refl _) _
  have HG := hide (heap_alloc_new w (.cells #[.int .i64 0, .string ⟨#[]⟩] 33))
  have HR := hide (h.below HB.out)
  have HI2 : Hid (∀ a b : Value, (Tryz.prog.info? 33).map (·.size) = some (#[a, b] : Array Value).size) := fun a b => by rw [info_thing]; rfl
  clear h htp htk
  have hm' : (((s.taken % 7 : Nat) : Int) == 6) = false := by simp only [beq_eq_false_iff_ne]; omega
  clear hm
  generalize s.taken % 7 = mm at *
  have H13 := hide h13
  clear h13
  go_enter Tryz.func24, Tryz.ntmps24
  go_upto_region 1 with fail
  change Code.wp _ _ _ _ (w.alloc (.cells #[.int .i64 0, .string ⟨#[]⟩] 33))
  generalize w.alloc (.cells #[.int .i64 0, .string ⟨#[]⟩] 33) = W at *
  generalize hg : w.heap.size = g at *
  have HGe := hide hg
  clear hg
  obtain ⟨_, _, _, c1, _, _⟩ := HR.out.see
  go_wp2_with fail
  refine (RTakeZ r 0 99 s _ HR.out).mono ?_
  rintro e w9 ⟨rfl, hr9, hk9⟩
  have HR9 := hide hr9
  have HK9 := hide hk9
  clear hr9 hk9 c1
  go_wp2_with fail
  refine (RTextZ r 9 (takeR (numR 0 99) s) _ HR9.out).mono ?_
  rintro e w19 ⟨rfl, hr19, hk19⟩
  rw [ok_str]
  have HR19 := hide hr19
  have HK19 := hide (HK9.out.more hk19)
  clear hr19 hk19 HR9 HK9
  have HG19 := hide (HK19.out.blk HG.out (fun e => by have : g = r := e; have := HGe.out; omega))
  have HNe : Hid (okR (numR 0 99) s ((numV s : Nat) : Int) 0 = 13) := H13.out
  have HTe' : Hid (okR (rowR 9) (takeR (numR 0 99) s) (str (rowV 9 (takeR (numR 0 99) s))) ⟨#[]⟩ = tt) := HTe.out
  rw [HNe.out, HTe'.out]
  rw [HS2.out] at HR19
  have HA := hide (heap_alloc_new w19 (.cells #[.int .i64 0, .string ⟨#[]⟩] 33))
  have HXs := hide (setRow_heap (w19.alloc (.cells #[.int .i64 0, .string ⟨#[]⟩] 33)) w19.heap.size _ #[.int .i64 13, .string tt] _ _ HA.out)
  have HBs : Hid (Below w19.heap.size w19 ((w19.alloc (.cells #[.int .i64 0, .string ⟨#[]⟩] 33)).setRow w19.heap.size #[.int .i64 13, .string tt])) := ((Below.refl _ _).alloc (Nat.le_refl _) _).trans ((keep_row _ _ _).below (by simp) fun k e => by rw [e]; exact Nat.le_refl _)
  go_upto_region 5 with (refine wpList_store_row rfl 33 _ _ rfl w19.heap.size #[.int .i64 13, .string tt] rfl rfl 33 _ HA.out (HI2.out _ _) rfl (one2 _ _) ?_)
  change Code.wp _ _ _ _ ((w19.alloc (.cells #[.int .i64 0, .string ⟨#[]⟩] 33)).setRow w19.heap.size #[.int .i64 13, .string tt])
  generalize (w19.alloc (.cells #[.int .i64 0, .string ⟨#[]⟩] 33)).setRow w19.heap.size #[.int .i64 13, .string tt] = w20 at *
  have HR20 := hide (HR19.out.below HBs.out)
  have HG20 := hide (blkB HG19.out HBs.out)
  have HK20 := hide (HK19.out.more (Keep.ofBelow (S := fun k => k = r) HBs.out (Nat.le_refl _)))
  have HW19 : Hid (r < w19.heap.size ∧ g < w19.heap.size) := ⟨HR19.out.lt, (Array.getElem?_eq_some_iff.1 HG19.out).1⟩
  generalize w19.heap.size = xb at *
  clear HR19 HG19 HK19 HBs HA
  obtain ⟨y0, y1⟩ := cells2 HXs.out
  go_wp2_with fail
  refine (wrong_any r s2 22 _ HR20.out).mono ?_
  rintro e w21 ⟨rfl, hr21, hk21⟩
  have HR21 := hide hr21
  have HX21 := hide (hk21.blk HXs.out (fun e => by have : xb = r := e; have := HW19.out.1; omega))
  have HG21 := hide (hk21.blk HG20.out (fun e => by have : g = r := e; have := HGe.out; omega))
  have HK21 := hide (HK20.out.more hk21)
  clear hr21 hk21 y0 y1
  go_wp2_with (first
    | (refine wpList_load_row rfl 33 _ rfl xb rfl 33 #[.int .i64 13, .string tt] (0, 0) _ HX21.out Tryz.underlying33 rfl (HI2.out _ _) ?_)
    | (refine wpList_store_row rfl 33 _ _ rfl g #[.int .i64 13, .string tt] rfl rfl 33 _ HG21.out (HI2.out _ _) rfl (one2 _ _) ?_))
  have HX := hide (setRow_heap _ g _ #[.int .i64 13, .string tt] _ _ HG21.out)
  have HK := hide (keep_row w21 g #[.int .i64 13, .string tt])
  refine bodyPost_ret (res2 rfl _ _ g _ _ rfl HX.out) rfl ⟨rfl, HR21.out.stay HK.out (fun k hk e => by have : k = g := e; have := HGe.out; omega), ?_⟩
  exact ((Keep.ofBelow (S := fun k => k = r) HB.out (by rw [HGe.out]; exact Nat.le_refl _)).more HK21.out).trans HK.out fun i e => .inr (by have : i = g := e; rw [HGe.out]; omega)
set_option maxRecDepth 100000 in
set_option maxHeartbeats 4000000 in
theorem got_no (r : Nat) (s : K.RS) (w : World) (h : Qr w r s) (hm : s.taken % 7 ≠ 6) (h13 : num9 s ≠ 13) :
    Calls Tryz.prog 24 #[.pointer (some ⟨r, 0, none⟩)] w fun en w' => en = .returned (.agg #[.int .i64 (getN s), .string (getS s)]) ∧ Qr w' r (getE s) ∧ Keep (fun k => k = r) w w' := by
  obtain ⟨e1, e2, e3⟩ := gt_no hm h13
  rw [e1, e2, e3]
  clear e1 e2 e3
  obtain ⟨tt, htt⟩ : ∃ x, txt9 (takeR (numR 0 99) s) = x := ⟨_, rfl⟩
  obtain ⟨s2, hs2⟩ : ∃ x, takeR (rowR 9) (takeR (numR 0 99) s) = x := ⟨_, rfl⟩
  rw [htt, hs2]
  have HTe := hide htt
  have HS2 := hide hs2
  clear htt hs2
  obtain ⟨nn, hnn⟩ : ∃ x, num9 s = x := ⟨_, rfl⟩
  rw [hnn] at h13 ⊢
  have HNn := hide hnn
  clear hnn
  have hrw := h.lt
  have htp := h.top
  have htk := h.tak
  obtain ⟨em, ew⟩ := mod7 s.taken (by omega)
  have HB : Hid (Below w.heap.size w (w.alloc (.cells #[.int .i64 0, .string ⟨#[]⟩] 33))) := (Below.refl _ _).alloc (Nat.le_refl _) _
  have HG := hide (heap_alloc_new w (.cells #[.int .i64 0, .string ⟨#[]⟩] 33))
  have HR := hide (h.below HB.out)
  have HI2 : Hid (∀ a b : Value, (Tryz.prog.info? 33).map (·.size) = some (#[a, b] : Array Value).size) := fun a b => by rw [info_thing]; rfl
  clear h htp htk
  have hm' : (((s.taken % 7 : Nat) : Int) == 6) = false := by simp only [beq_eq_false_iff_ne]; omega
  clear hm
  generalize s.taken % 7 = mm at *
  have h13' : (nn == 13) = false := by simpa using h13
  clear h13
  go_enter Tryz.func24, Tryz.ntmps24
  go_upto_region 1 with fail
  change Code.wp _ _ _ _ (w.alloc (.cells #[.int .i64 0, .string ⟨#[]⟩] 33))
  generalize w.alloc (.cells #[.int .i64 0, .string ⟨#[]⟩] 33) = W at *
  generalize hg : w.heap.size = g at *
  have HGe := hide hg
  clear hg
  obtain ⟨_, _, _, c1, _, _⟩ := HR.out.see
  go_wp2_with fail
  refine (RTakeZ r 0 99 s _ HR.out).mono ?_
  rintro e w9 ⟨rfl, hr9, hk9⟩
  have HR9 := hide hr9
  have HK9 := hide hk9
  clear hr9 hk9 c1
  go_wp2_with fail
  refine (RTextZ r 9 (takeR (numR 0 99) s) _ HR9.out).mono ?_
  rintro e w19 ⟨rfl, hr19, hk19⟩
  rw [ok_str]
  have HR19 := hide hr19
  have HK19 := hide (HK9.out.more hk19)
  clear hr19 hk19 HR9 HK9
  have HG19 := hide (HK19.out.blk HG.out (fun e => by have : g = r := e; have := HGe.out; omega))
  have HNe : Hid (okR (numR 0 99) s ((numV s : Nat) : Int) 0 = nn) := HNn.out
  have HTe' : Hid (okR (rowR 9) (takeR (numR 0 99) s) (str (rowV 9 (takeR (numR 0 99) s))) ⟨#[]⟩ = tt) := HTe.out
  rw [HNe.out, HTe'.out]
  rw [HS2.out] at HR19
  have HA := hide (heap_alloc_new w19 (.cells #[.int .i64 0, .string ⟨#[]⟩] 33))
  have HXs := hide (setRow_heap (w19.alloc (.cells #[.int .i64 0, .string ⟨#[]⟩] 33)) w19.heap.size _ #[.int .i64 nn, .string tt] _ _ HA.out)
  have HBs : Hid (Below w19.heap.size w19 ((w19.alloc (.cells #[.int .i64 0, .string ⟨#[]⟩] 33)).setRow w19.heap.size #[.int .i64 nn, .string tt])) := ((Below.refl _ _).alloc (Nat.le_refl _) _).trans ((keep_row _ _ _).below (by simp) fun k e => by rw [e]; exact Nat.le_refl _)
  go_upto_region 5 with (refine wpList_store_row rfl 33 _ _ rfl w19.heap.size #[.int .i64 nn, .string tt] rfl rfl 33 _ HA.out (HI2.out _ _) rfl (one2 _ _) ?_)
  change Code.wp _ _ _ _ ((w19.alloc (.cells #[.int .i64 0, .string ⟨#[]⟩] 33)).setRow w19.heap.size #[.int .i64 nn, .string tt])
  generalize (w19.alloc (.cells #[.int .i64 0, .string ⟨#[]⟩] 33)).setRow w19.heap.size #[.int .i64 nn, .string tt] = w20 at *
  have HR20 := hide (HR19.out.below HBs.out)
  have HG20 := hide (blkB HG19.out HBs.out)
  have HK20 := hide (HK19.out.more (Keep.ofBelow (S := fun k => k = r) HBs.out (Nat.le_refl _)))
  have HW19 : Hid (r < w19.heap.size ∧ g < w19.heap.size) := ⟨HR19.out.lt, (Array.getElem?_eq_some_iff.1 HG19.out).1⟩
  generalize w19.heap.size = xb at *
  clear HR19 HG19 HK19 HBs HA
  obtain ⟨y0, y1⟩ := cells2 HXs.out
  go_wp2_with (first
    | (refine wpList_load_row rfl 33 _ rfl xb rfl 33 #[.int .i64 nn, .string tt] (0, 0) _ HXs.out Tryz.underlying33 rfl (HI2.out _ _) ?_)
    | (refine wpList_store_row rfl 33 _ _ rfl g #[.int .i64 nn, .string tt] rfl rfl 33 _ HG20.out (HI2.out _ _) rfl (one2 _ _) ?_))
  have HX := hide (setRow_heap _ g _ #[.int .i64 nn, .string tt] _ _ HG20.out)
  have HK := hide (keep_row w20 g #[.int .i64 nn, .string tt])
  refine bodyPost_ret (res2 rfl _ _ g _ _ rfl HX.out) rfl ⟨rfl, HR20.out.stay HK.out (fun k hk e => by have : k = g := e; have := HGe.out; omega), ?_⟩
  exact ((Keep.ofBelow (S := fun k => k = r) HB.out (by rw [HGe.out]; exact Nat.le_refl _)).more HK20.out).trans HK.out fun i e => .inr (by have : i = g := e; rw [HGe.out]; omega)
theorem got_any (r : Nat) (s : K.RS) (w : World) (h : Qr w r s) :
    Calls Tryz.prog 24 #[.pointer (some ⟨r, 0, none⟩)] w fun en w' => en = .returned (.agg #[.int .i64 (getN s), .string (getS s)]) ∧ Qr w' r (getE s) ∧ Keep (fun k => k = r) w w' := by
  by_cases hm : s.taken % 7 = 6
  · exact got_six r s w h hm
  · by_cases h13 : num9 s = 13
    · exact got_bad r s w h hm h13
    · exact got_no r s w h hm h13
end Wm
end Go.Proofs.YtoelgcagahmndaaGreat
