/- The law's put of a step: lists (written by putl_gen.py). -/
import Derived.Test.YtoelgcagahmndaaGreatPPu2
namespace Go.Proofs.YtoelgcagahmndaaGreat
namespace Wm
open Go.RowKit Go.Deep

theorem els_keep {D E : Nat → Prop} {w w' : World} {a : Option Addr} {n : Nat} {vs : List Value} (h : Els D w a n vs) (hb : Below w.heap.size w w') (hD : ∀ b, D b → E b) : Els E w' a n vs := by
  refine ⟨h.1, h.2.1, h.2.2.imp id ?_⟩
  rintro ⟨b, off, e, hd, hc⟩
  exact ⟨b, off, e, hD b hd, fun i v hv => (Keep.ofBelow (S := fun _ => False) hb (Nat.le_refl _)).cell (hc i v hv) fun f => f⟩
theorem blk_lt {w : World} {b : Nat} {o : Obj} (h : w.heap[b]? = some o) : b < w.heap.size := (Array.getElem?_eq_some_iff.1 h).1
/-- the cells of a list of numbers -/
def iv (l : List Int) : List Value := l.map fun x => .int .i64 x
def sv (l : List ByteArray) : List Value := l.map fun x => .string x
/-- lists of numbers, each in memory -/
def Lsts (D : Nat → Prop) (w : World) (vs : List Value) (ls : List (List Int)) : Prop := vs.length = ls.length ∧ ∀ (i : Nat) x l, vs[i]? = some x → ls[i]? = some l → ∃ a n c, x = .slice a n c ∧ Els D w a n (iv l) ∧ ∀ y ∈ l, y ≤ 9223372036854775807
theorem at_iv {l : List Int} {i : Nat} {v : Value} {F : Int → K.WS → K.WS} {f : K.WS → K.WS} (h1 : (iv l)[i]? = some v) (h2 : (l.map F)[i]? = some f) : ∃ y ∈ l, v = .int .i64 y ∧ f = F y := by
  unfold iv at h1
  rw [List.getElem?_map] at h1 h2
  cases e : l[i]? with
  | none => rw [e] at h1; cases h1
  | some y =>
    rw [e] at h1 h2
    simp only [Option.map_some, Option.some.injEq] at h1 h2
    exact ⟨y, List.mem_of_getElem? e, h1.symm, h2.symm⟩
theorem at_sv {l : List ByteArray} {i : Nat} {v : Value} {F : ByteArray → K.WS → K.WS} {f : K.WS → K.WS} (h1 : (sv l)[i]? = some v) (h2 : (l.map F)[i]? = some f) : ∃ y ∈ l, v = .string y ∧ f = F y := by
  unfold sv at h1
  rw [List.getElem?_map] at h1 h2
  cases e : l[i]? with
  | none => rw [e] at h1; cases h1
  | some y =>
    rw [e] at h1 h2
    simp only [Option.map_some, Option.some.injEq] at h1 h2
    exact ⟨y, List.mem_of_getElem? e, h1.symm, h2.symm⟩
theorem putsNums (D : Nat → Prop) (w : World) (l8 m8 : Nat) (le mo : Int) (hl : w.cell? ⟨l8, 0, none⟩ = some (.int .i64 le)) (hm : w.cell? ⟨m8, 0, none⟩ = some (.int .i64 mo)) (dl : D l8) (dm : D m8) (l : List Int) (hy : ∀ y ∈ l, y ≤ 9223372036854775807) :
    ∀ (i : Nat) v f, (iv l)[i]? = some v → (l.map (numW le mo))[i]? = some f → PutsG D w 103 #[.pointer (some ⟨l8, 0, none⟩), .pointer (some ⟨m8, 0, none⟩)] v f := fun i v f h1 h2 => by
  obtain ⟨y, hm', rfl, rfl⟩ := at_iv h1 h2
  exact putsNum D w l8 m8 le mo y (hy y hm') hl hm dl dm
theorem putsTexts (D : Nat → Prop) (w : World) (m8 : Nat) (mo : Int) (hm : w.cell? ⟨m8, 0, none⟩ = some (.int .i64 mo)) (dm : D m8) (l : List ByteArray) (hy : ∀ y ∈ l, y.size ≤ 140737488351232) :
    ∀ (i : Nat) v f, (sv l)[i]? = some v → (l.map fun t => textW mo (sb t))[i]? = some f → PutsG D w 113 #[.pointer (some ⟨m8, 0, none⟩)] v f := fun i v f h1 h2 => by
  obtain ⟨y, hm', rfl, rfl⟩ := at_sv h1 h2
  exact putsText D w m8 mo y (hy y hm') hm dm
theorem blkc {w w' : World} {p : Addr} {v : Value} (h : w.cell? p = some v) (hb : Below w.heap.size w w') : w'.cell? p = some v := (Keep.ofBelow (S := fun _ => False) hb (Nat.le_refl _)).cell h fun f => f
set_option maxRecDepth 100000 in
set_option maxHeartbeats 4000000 in
theorem put_list (S : Nat → Prop) (w0 : World) (p : Nat) (s : K.WS) (wh : Int) (le mo : Int) (aL : Option Addr) (nL cL : Nat) (L : List Int) (x3 x4 x5 x6 x7 x9 x10 : Value) (w : World) (h : WAt S w0 p s w) (h1 : -9223372036854775808 ≤ wh) (h2 : wh ≤ 9223372036854775807) (hk : ((pk wh : Nat) : Int) = 5) (hE : Els (fun b => ¬ S b ∧ b < w0.heap.size) w aL nL (iv L)) (hY : ∀ y ∈ L, y ≤ 9223372036854775807) :
    Calls Tryz.prog 31 #[.pointer (some ⟨p, 0, none⟩), .agg #[.int .i64 wh, .int .i64 le, .int .i64 mo, x3, x4, x5, x6, x7, .slice aL nL cL, x9, x10]] w fun en w' => en = .returned (.tuple #[]) ∧ WAt S w0 p (putW (listW (min mo 16777216) (L.map (numW le 9223372036854775807))) s) w' := by
  have hb0 := (Below.refl w.heap.size w).alloc (Nat.le_refl _) (.cells #[.int .i64 wh, .int .i64 le, .int .i64 mo, x3, x4, x5, x6, x7, .slice aL nL cL, x9, x10] 74)
  have HA := hide (h.below hb0)
  have HX := hide (heap_alloc_new w (.cells #[.int .i64 wh, .int .i64 le, .int .i64 mo, x3, x4, x5, x6, x7, .slice aL nL cL, x9, x10] 74))
  have HE := hide (els_keep hE hb0 fun _ h => h)
  have HY := hide hY
  clear hE hY
  clear hb0 h
  go_enter Tryz.func31, Tryz.ntmps31
  go_upto_region 1 with fail
  generalize w.alloc (.cells #[.int .i64 wh, .int .i64 le, .int .i64 mo, x3, x4, x5, x6, x7, .slice aL nL cL, x9, x10] 74) = W at *
  generalize w.heap.size = g at *
  obtain ⟨y0, _⟩ := cells11 HX.out
  go_wp2_with fail
  refine (pick_any wh h1 h2 _).mono ?_
  rintro e w1 ⟨rfl, rfl⟩
  rw [hk]
  clear y0
  go_upto_region 13 with fail
  obtain ⟨v, hv, _, hs⟩ := HA.out.rebase
  have HV := hide (hv.keep (Keep.drew (fun _ => False) _) fun _ _ f => f)
  have HSS := hide hs
  clear hv hs
  have HDw : Hid (∀ k, ¬ S k ∧ k < w0.heap.size → ¬ Wset p v k ∧ k < w1.heap.size) := fun k hk => ⟨fun hw => (HSS.out k hw).elim hk.1 fun h6 => Nat.not_lt.2 h6 hk.2, Nat.lt_of_lt_of_le hk.2 HA.out.keep.size⟩
  have HS : Hid (∀ W' : World, W'.heap[g]? = some (.cells #[.int .i64 wh, .int .i64 le, .int .i64 mo, x3, x4, x5, x6, x7, .slice aL nL cL, x9, x10] 74 (0, 0)) → (fun W' : World => W'.cell? ⟨g, 1, none⟩ = some (.int .i64 le) ∧ W'.cell? ⟨g, 2, none⟩ = some (.int .i64 mo) ∧ W'.cell? ⟨g, 8, none⟩ = some (.slice aL nL cL)) W') := fun W' k => ⟨(cells11 k).2.1, (cells11 k).2.2.1, (cells11 k).2.2.2.2.2.2.2.2.1⟩
  have HNg : Hid (¬ Wset p v g) := HV.out.not (b := g) HX.out (by decide) (by decide)
  have HXd : Hid (w1.drew.heap[g]? = some (.cells #[.int .i64 wh, .int .i64 le, .int .i64 mo, x3, x4, x5, x6, x7, .slice aL nL cL, x9, x10] 74 (0, 0))) := HX.out
  have HBd : Hid (Below w1.heap.size w1 w1.drew) := (Below.refl _ _).drew
  go_region_held3 (fun W' : World => W'.cell? ⟨g, 1, none⟩ = some (.int .i64 le) ∧ W'.cell? ⟨g, 2, none⟩ = some (.int .i64 mo) ∧ W'.cell? ⟨g, 8, none⟩ = some (.slice aL nL cL)) (first | (exact HS.out _ HXd.out) | (exact HS.out _ HXl.out) | (exact HS.out _ (blkB HXd.out HB9.out)) | (exact HS.out _ (blkB HXd.out HB8.out)) | (exact HS.out _ HX.out) | go_keep) (first
    | (go_at_call 80; refine (PutLi (Wset p v) w9 p _ _ _ _ _ (listW (min mo 16777216) (L.map (numW le 9223372036854775807))) s _ (wr_at HV.out HB9.out) ((putsListI (fun k => ¬ Wset p v k ∧ k < w9.heap.size) w9 m9 o9 (min mo 16777216) _ _ _ _ aL nL cL (iv L) (L.map (numW le 9223372036854775807)) (els_keep HE.out (HBd.out.trans HB9.out) fun b hb => ⟨(HDw.out b hb).1, Nat.lt_of_lt_of_le (HDw.out b hb).2 (Nat.le_trans HBd.out.size HB9.out.size)⟩) (by rw [List.length_map]; have := HE.out.1; unfold iv at this; rw [List.length_map] at this; exact this.symm) (putsNums (fun k => ¬ Wset p v k ∧ k < w9.heap.size) w9 l8 m8 le 9223372036854775807 (blkc HL8.out HC9.out) (blkc HM8.out HC9.out) (newD HV.out HG8.out.1 (numForm_lt (blkc HL8.out HC9.out))) (newD HV.out HG8.out.2 (numForm_lt (blkc HM8.out HC9.out))) L HY.out) ent_putNum (newD HV.out (Nat.le_trans HB8.out.size HGm9.out.1) (numForm_lt HMm9.out)) (newD HV.out (Nat.le_trans HB8.out.size HGm9.out.2) (blk_lt HOo9.out)) HMm9.out HOo9.out) p (Wset p v) w9 (Agree.refl fun k hk => hk.2) (fun k hk => hk.1)) ent_putListI).mono ?_; rintro e wP ⟨rfl, hP⟩; have HXl := hide (hP.keep.blk (blkB HXd.out HB9.out) HNg.out); have HP := hide hP; clear hP)
    | (go_at_call 79; refine (ListsI _ _ _ _ mo _).mono ?_; rintro e w9 ⟨m9, o9, rfl, hm, ho, hgm, hgo, hb⟩; have HMm9 := hide hm; have HOo9 := hide ho; have HGm9 := hide (And.intro hgm hgo); have HC9 := hide hb; have HB9 : Hid (Below w1.drew.heap.size w1.drew w9) := HB8.out.trans (hb.mono HB8.out.size); clear hm ho hgm hgo hb)
    | (go_at_call 39; refine (Numbers_any le 9223372036854775807 _).mono ?_; rintro e w8 ⟨l8, m8, rfl, hl8, hm8, hgl, hgm, hb8⟩; have HL8 := hide hl8; have HM8 := hide hm8; have HG8 := hide (And.intro hgl hgm); have HB8 : Hid (Below w1.drew.heap.size w1.drew w8) := hb8; clear hl8 hm8 hgl hgm hb8))
  go_wp2_with fail
  go_end0
  exact ⟨rfl, (HA.out.below (HBd.out.trans HB9.out)).step HSS.out HP.out⟩
set_option maxRecDepth 100000 in
set_option maxHeartbeats 4000000 in
theorem put_texts (S : Nat → Prop) (w0 : World) (p : Nat) (s : K.WS) (wh : Int) (mo nn : Int) (aL : Option Addr) (nL cL : Nat) (T : List ByteArray) (x1 x4 x5 x6 x7 x8 x10 : Value) (w : World) (h : WAt S w0 p s w) (h1 : -9223372036854775808 ≤ wh) (h2 : wh ≤ 9223372036854775807) (hk : ((pk wh : Nat) : Int) = 6) (hE : Els (fun b => ¬ S b ∧ b < w0.heap.size) w aL nL (sv T)) (hY : ∀ y ∈ T, y.size ≤ 140737488351232) :
    Calls Tryz.prog 31 #[.pointer (some ⟨p, 0, none⟩), .agg #[.int .i64 wh, x1, .int .i64 mo, .int .i64 nn, x4, x5, x6, x7, x8, .slice aL nL cL, x10]] w fun en w' => en = .returned (.tuple #[]) ∧ WAt S w0 p (putW (listW (min mo 16777216) (T.map fun t => textW nn (sb t))) s) w' := by
  have hb0 := (Below.refl w.heap.size w).alloc (Nat.le_refl _) (.cells #[.int .i64 wh, x1, .int .i64 mo, .int .i64 nn, x4, x5, x6, x7, x8, .slice aL nL cL, x10] 74)
  have HA := hide (h.below hb0)
  have HX := hide (heap_alloc_new w (.cells #[.int .i64 wh, x1, .int .i64 mo, .int .i64 nn, x4, x5, x6, x7, x8, .slice aL nL cL, x10] 74))
  have HE := hide (els_keep hE hb0 fun _ h => h)
  have HY := hide hY
  clear hE hY
  clear hb0 h
  go_enter Tryz.func31, Tryz.ntmps31
  go_upto_region 1 with fail
  generalize w.alloc (.cells #[.int .i64 wh, x1, .int .i64 mo, .int .i64 nn, x4, x5, x6, x7, x8, .slice aL nL cL, x10] 74) = W at *
  generalize w.heap.size = g at *
  obtain ⟨y0, _⟩ := cells11 HX.out
  go_wp2_with fail
  refine (pick_any wh h1 h2 _).mono ?_
  rintro e w1 ⟨rfl, rfl⟩
  rw [hk]
  clear y0
  go_upto_region 15 with fail
  obtain ⟨v, hv, _, hs⟩ := HA.out.rebase
  have HV := hide (hv.keep (Keep.drew (fun _ => False) _) fun _ _ f => f)
  have HSS := hide hs
  clear hv hs
  have HDw : Hid (∀ k, ¬ S k ∧ k < w0.heap.size → ¬ Wset p v k ∧ k < w1.heap.size) := fun k hk => ⟨fun hw => (HSS.out k hw).elim hk.1 fun h6 => Nat.not_lt.2 h6 hk.2, Nat.lt_of_lt_of_le hk.2 HA.out.keep.size⟩
  have HS : Hid (∀ W' : World, W'.heap[g]? = some (.cells #[.int .i64 wh, x1, .int .i64 mo, .int .i64 nn, x4, x5, x6, x7, x8, .slice aL nL cL, x10] 74 (0, 0)) → (fun W' : World => W'.cell? ⟨g, 2, none⟩ = some (.int .i64 mo) ∧ W'.cell? ⟨g, 3, none⟩ = some (.int .i64 nn) ∧ W'.cell? ⟨g, 9, none⟩ = some (.slice aL nL cL)) W') := fun W' k => ⟨(cells11 k).2.2.1, (cells11 k).2.2.2.1, (cells11 k).2.2.2.2.2.2.2.2.2.1⟩
  have HNg : Hid (¬ Wset p v g) := HV.out.not (b := g) HX.out (by decide) (by decide)
  have HXd : Hid (w1.drew.heap[g]? = some (.cells #[.int .i64 wh, x1, .int .i64 mo, .int .i64 nn, x4, x5, x6, x7, x8, .slice aL nL cL, x10] 74 (0, 0))) := HX.out
  have HBd : Hid (Below w1.heap.size w1 w1.drew) := (Below.refl _ _).drew
  go_region_held3 (fun W' : World => W'.cell? ⟨g, 2, none⟩ = some (.int .i64 mo) ∧ W'.cell? ⟨g, 3, none⟩ = some (.int .i64 nn) ∧ W'.cell? ⟨g, 9, none⟩ = some (.slice aL nL cL)) (first | (exact HS.out _ HXd.out) | (exact HS.out _ HXl.out) | (exact HS.out _ (blkB HXd.out HB9.out)) | (exact HS.out _ (blkB HXd.out HB8.out)) | (exact HS.out _ HX.out) | go_keep) (first
    | (go_at_call 81; refine (PutLs (Wset p v) w9 p _ _ _ _ _ (listW (min mo 16777216) (T.map fun t => textW nn (sb t))) s _ (wr_at HV.out HB9.out) ((putsListS (fun k => ¬ Wset p v k ∧ k < w9.heap.size) w9 m9 o9 (min mo 16777216) _ _ _ _ aL nL cL (sv T) (T.map fun t => textW nn (sb t)) (els_keep HE.out (HBd.out.trans HB9.out) fun b hb => ⟨(HDw.out b hb).1, Nat.lt_of_lt_of_le (HDw.out b hb).2 (Nat.le_trans HBd.out.size HB9.out.size)⟩) (by rw [List.length_map]; have := HE.out.1; unfold sv at this; rw [List.length_map] at this; exact this.symm) (putsTexts (fun k => ¬ Wset p v k ∧ k < w9.heap.size) w9 m8 nn (blkc HM8.out HC9.out) (newD HV.out HG8.out (numForm_lt (blkc HM8.out HC9.out))) T HY.out) ent_putText (newD HV.out (Nat.le_trans HB8.out.size HGm9.out.1) (numForm_lt HMm9.out)) (newD HV.out (Nat.le_trans HB8.out.size HGm9.out.2) (blk_lt HOo9.out)) HMm9.out HOo9.out) p (Wset p v) w9 (Agree.refl fun k hk => hk.2) (fun k hk => hk.1)) ent_putListS).mono ?_; rintro e wP ⟨rfl, hP⟩; have HXl := hide (hP.keep.blk (blkB HXd.out HB9.out) HNg.out); have HP := hide hP; clear hP)
    | (go_at_call 42; refine (ListsS _ _ _ _ mo _).mono ?_; rintro e w9 ⟨m9, o9, rfl, hm, ho, hgm, hgo, hb⟩; have HMm9 := hide hm; have HOo9 := hide ho; have HGm9 := hide (And.intro hgm hgo); have HC9 := hide hb; have HB9 : Hid (Below w1.drew.heap.size w1.drew w9) := HB8.out.trans (hb.mono HB8.out.size); clear hm ho hgm hgo hb)
    | (go_at_call 43; refine (Texts_any nn _).mono ?_; rintro e w8 ⟨m8, rfl, hm8, hgm, hb8⟩; have HM8 := hide hm8; have HG8 := hide hgm; have HB8 : Hid (Below w1.drew.heap.size w1.drew w8) := hb8; clear hm8 hgm hb8))
  go_wp2_with fail
  go_end0
  exact ⟨rfl, (HA.out.below (HBd.out.trans HB9.out)).step HSS.out HP.out⟩
end Wm
end Go.Proofs.YtoelgcagahmndaaGreat
