/- The law's put of a step: lists of lists; a Fail; nothing (written by putm_gen.py). -/
import Derived.Test.YtinhpanpjamjlaaGreatPPu3
namespace Go.Proofs.YtinhpanpjamjlaaGreat
namespace Wm
open Go.RowKit Go.Deep

theorem lsts_keep {D E : Nat → Prop} {w w' : World} {vs : List Value} {ls : List (List Int)} (h : Lsts D w vs ls) (hb : Below w.heap.size w w') (hD : ∀ b, D b → E b) : Lsts E w' vs ls := by
  refine ⟨h.1, fun i x l h1 h2 => ?_⟩
  obtain ⟨a, n, c, e, h3, h4⟩ := h.2 i x l h1 h2
  exact ⟨a, n, c, e, els_keep h3 hb hD, h4⟩
theorem putsLists (D : Nat → Prop) (w : World) (l8 m8 m9 o9 : Nat) (le nn : Int) (hl : w.cell? ⟨l8, 0, none⟩ = some (.int .i64 0)) (hm : w.cell? ⟨m8, 0, none⟩ = some (.int .i64 nn)) (dl : D l8) (dm : D m8) (hm9 : w.cell? ⟨m9, 0, none⟩ = some (.int .i64 (min le 16777216))) (ho9 : w.heap[o9]? = some (.cells #[.func (.func 78) #[] #[.pointer (some ⟨l8, 0, none⟩), .pointer (some ⟨m8, 0, none⟩)], .func (.func 81) #[] #[.pointer (some ⟨l8, 0, none⟩), .pointer (some ⟨m8, 0, none⟩)]] 62 (0, 0))) (d9 : D m9) (dO : D o9) (vs : List Value) (ls : List (List Int)) (h : Lsts D w vs ls) :
    ∀ (i : Nat) v f, vs[i]? = some v → (ls.map fun d => listW (min le 16777216) (d.map (numW 0 nn)))[i]? = some f → PutsG D w 112 #[.pointer (some ⟨m9, 0, none⟩), .pointer (some ⟨o9, 0, none⟩)] v f := fun i v f h1 h2 => by
  rw [List.getElem?_map] at h2
  cases e : ls[i]? with
  | none => rw [e] at h2; cases h2
  | some d =>
    rw [e] at h2
    simp only [Option.map_some, Option.some.injEq] at h2
    subst h2
    obtain ⟨a, n, c, rfl, h3, h4⟩ := h.2 i v d h1 e
    exact putsListI D w m9 o9 (min le 16777216) _ _ _ _ a n c (iv d) (d.map (numW 0 nn)) h3 (by rw [List.length_map]; have := h3.1; unfold iv at this; rw [List.length_map] at this; exact this.symm) (putsNums D w l8 m8 0 nn hl hm dl dm d h4) ent_putNum d9 dO hm9 ho9
set_option maxRecDepth 100000 in
set_option maxHeartbeats 4000000 in
theorem put_lists (S : Nat → Prop) (w0 : World) (p : Nat) (s : K.WS) (wh : Int) (le mo nn : Int) (aL : Option Addr) (nL cL : Nat) (vs : List Value) (ls : List (List Int)) (x4 x5 x6 x7 x8 x9 : Value) (w : World) (h : WAt S w0 p s w) (h1 : -9223372036854775808 ≤ wh) (h2 : wh ≤ 9223372036854775807) (hk : ((pk wh : Nat) : Int) = 7) (hE : Els (fun b => ¬ S b ∧ b < w0.heap.size) w aL nL vs) (hY : Lsts (fun b => ¬ S b ∧ b < w0.heap.size) w vs ls) :
    Calls Tryz.prog 9 #[.pointer (some ⟨p, 0, none⟩), .agg #[.int .i64 wh, .int .i64 le, .int .i64 mo, .int .i64 nn, x4, x5, x6, x7, x8, x9, .slice aL nL cL]] w fun en w' => en = .returned (.tuple #[]) ∧ WAt S w0 p (putW (listW (min mo 16777216) (ls.map fun d => listW (min le 16777216) (d.map (numW 0 nn)))) s) w' := by
  have hb0 := (Below.refl w.heap.size w).alloc (Nat.le_refl _) (.cells #[.int .i64 wh, .int .i64 le, .int .i64 mo, .int .i64 nn, x4, x5, x6, x7, x8, x9, .slice aL nL cL] 35)
  have HA := hide (h.below hb0)
  have HX := hide (heap_alloc_new w (.cells #[.int .i64 wh, .int .i64 le, .int .i64 mo, .int .i64 nn, x4, x5, x6, x7, x8, x9, .slice aL nL cL] 35))
  have HE := hide (els_keep hE hb0 fun _ h => h)
  have HY := hide (lsts_keep hY hb0 fun _ h => h)
  clear hE hY
  clear hb0 h
  go_enter Tryz.func9, Tryz.ntmps9
  go_upto_region 1 with fail
  generalize w.alloc (.cells #[.int .i64 wh, .int .i64 le, .int .i64 mo, .int .i64 nn, x4, x5, x6, x7, x8, x9, .slice aL nL cL] 35) = W at *
  generalize w.heap.size = g at *
  obtain ⟨y0, _⟩ := cells11 HX.out
  go_wp2_with fail
  refine (pick_any wh h1 h2 _).mono ?_
  rintro e w1 ⟨rfl, rfl⟩
  rw [hk]
  clear y0
  go_upto_region 17 with fail
  obtain ⟨v, hv, _, hs⟩ := HA.out.rebase
  have HV := hide (hv.keep (Keep.drew (fun _ => False) _) fun _ _ f => f)
  have HSS := hide hs
  clear hv hs
  have HDw : Hid (∀ k, ¬ S k ∧ k < w0.heap.size → ¬ Wset p v k ∧ k < w1.heap.size) := fun k hk => ⟨fun hw => (HSS.out k hw).elim hk.1 fun h6 => Nat.not_lt.2 h6 hk.2, Nat.lt_of_lt_of_le hk.2 HA.out.keep.size⟩
  have HS : Hid (∀ W' : World, W'.heap[g]? = some (.cells #[.int .i64 wh, .int .i64 le, .int .i64 mo, .int .i64 nn, x4, x5, x6, x7, x8, x9, .slice aL nL cL] 35 (0, 0)) → (fun W' : World => W'.cell? ⟨g, 1, none⟩ = some (.int .i64 le) ∧ W'.cell? ⟨g, 2, none⟩ = some (.int .i64 mo) ∧ W'.cell? ⟨g, 3, none⟩ = some (.int .i64 nn) ∧ W'.cell? ⟨g, 10, none⟩ = some (.slice aL nL cL)) W') := fun W' k => ⟨(cells11 k).2.1, (cells11 k).2.2.1, (cells11 k).2.2.2.1, (cells11 k).2.2.2.2.2.2.2.2.2.2⟩
  have HNg : Hid (¬ Wset p v g) := HV.out.not (b := g) HX.out (by decide) (by decide)
  have HXd : Hid (w1.drew.heap[g]? = some (.cells #[.int .i64 wh, .int .i64 le, .int .i64 mo, .int .i64 nn, x4, x5, x6, x7, x8, x9, .slice aL nL cL] 35 (0, 0))) := HX.out
  have HBd : Hid (Below w1.heap.size w1 w1.drew) := (Below.refl _ _).drew
  go_region_held3 (fun W' : World => W'.cell? ⟨g, 1, none⟩ = some (.int .i64 le) ∧ W'.cell? ⟨g, 2, none⟩ = some (.int .i64 mo) ∧ W'.cell? ⟨g, 3, none⟩ = some (.int .i64 nn) ∧ W'.cell? ⟨g, 10, none⟩ = some (.slice aL nL cL)) (first | (exact HS.out _ HXd.out) | (exact HS.out _ HXl.out) | (exact HS.out _ (blkB HXd.out HB10.out)) | (exact HS.out _ (blkB HXd.out HB9.out)) | (exact HS.out _ (blkB HXd.out HB8.out)) | (exact HS.out _ HX.out) | go_keep) (first
    | (go_at_call 43; refine (PutLli (Wset p v) w10 p _ _ _ _ _ (listW (min mo 16777216) (ls.map fun d => listW (min le 16777216) (d.map (numW 0 nn)))) s _ (wr_at HV.out HB10.out) ((putsListLi (fun k => ¬ Wset p v k ∧ k < w10.heap.size) w10 m10 o10 (min mo 16777216) _ _ _ _ aL nL cL vs (ls.map fun d => listW (min le 16777216) (d.map (numW 0 nn))) (els_keep HE.out (HBd.out.trans HB10.out) fun b hb => ⟨(HDw.out b hb).1, Nat.lt_of_lt_of_le (HDw.out b hb).2 (Nat.le_trans HBd.out.size HB10.out.size)⟩) (by rw [List.length_map, ← HY.out.1]; exact HE.out.1.symm) (putsLists (fun k => ¬ Wset p v k ∧ k < w10.heap.size) w10 l8 m8 m9 o9 le nn (blkc (blkc HL8.out HC9.out) HC10.out) (blkc (blkc HM8.out HC9.out) HC10.out) (newD HV.out HG8.out.1 (numForm_lt (blkc (blkc HL8.out HC9.out) HC10.out))) (newD HV.out HG8.out.2 (numForm_lt (blkc (blkc HM8.out HC9.out) HC10.out))) (blkc HMm9.out HC10.out) (blkB HOo9.out HC10.out) (newD HV.out (Nat.le_trans HB8.out.size HGm9.out.1) (numForm_lt (blkc HMm9.out HC10.out))) (newD HV.out (Nat.le_trans HB8.out.size HGm9.out.2) (blk_lt (blkB HOo9.out HC10.out))) vs ls (lsts_keep HY.out (HBd.out.trans HB10.out) fun b hb => ⟨(HDw.out b hb).1, Nat.lt_of_lt_of_le (HDw.out b hb).2 (Nat.le_trans HBd.out.size HB10.out.size)⟩)) ent_putListI (newD HV.out (Nat.le_trans HB9.out.size HGm10.out.1) (numForm_lt HMm10.out)) (newD HV.out (Nat.le_trans HB9.out.size HGm10.out.2) (blk_lt HOo10.out)) HMm10.out HOo10.out) p (Wset p v) w10 (Agree.refl fun k hk => hk.2) (fun k hk => hk.1)) ent_putListLi).mono ?_; rintro e wP ⟨rfl, hP⟩; have HXl := hide (hP.keep.blk (blkB HXd.out HB10.out) HNg.out); have HP := hide hP; clear hP)
    | (go_at_call 42; refine (ListsLi _ _ _ _ mo _).mono ?_; rintro e w10 ⟨m10, o10, rfl, hm, ho, hgm, hgo, hb⟩; have HMm10 := hide hm; have HOo10 := hide ho; have HGm10 := hide (And.intro hgm hgo); have HC10 := hide hb; have HB10 : Hid (Below w1.drew.heap.size w1.drew w10) := HB9.out.trans (hb.mono HB9.out.size); clear hm ho hgm hgo hb)
    | (go_at_call 39; refine (ListsI _ _ _ _ le _).mono ?_; rintro e w9 ⟨m9, o9, rfl, hm, ho, hgm, hgo, hb⟩; have HMm9 := hide hm; have HOo9 := hide ho; have HGm9 := hide (And.intro hgm hgo); have HC9 := hide hb; have HB9 : Hid (Below w1.drew.heap.size w1.drew w9) := HB8.out.trans (hb.mono HB8.out.size); clear hm ho hgm hgo hb)
    | (go_at_call 25; refine (Numbers_any 0 nn _).mono ?_; rintro e w8 ⟨l8, m8, rfl, hl8, hm8, hgl, hgm, hb8⟩; have HL8 := hide hl8; have HM8 := hide hm8; have HG8 := hide (And.intro hgl hgm); have HB8 : Hid (Below w1.drew.heap.size w1.drew w8) := hb8; clear hl8 hm8 hgl hgm hb8))
  go_wp2_with fail
  go_end0
  exact ⟨rfl, (HA.out.below (HBd.out.trans HB10.out)).step HSS.out HP.out⟩
set_option maxRecDepth 100000 in
theorem put_fail (S : Nat → Prop) (w0 : World) (p : Nat) (s : K.WS) (wh : Int) (x1 x2 x3 x4 x5 x6 x7 x8 x9 x10 : Value) (w : World) (h : WAt S w0 p s w) (h1 : -9223372036854775808 ≤ wh) (h2 : wh ≤ 9223372036854775807) (hk : ((pk wh : Nat) : Int) = 9) :
    Calls Tryz.prog 9 #[.pointer (some ⟨p, 0, none⟩), .agg #[.int .i64 wh, x1, x2, x3, x4, x5, x6, x7, x8, x9, x10]] w fun en w' => en = .returned (.tuple #[]) ∧ WAt S w0 p (s.fail 22) w' := by
  have hb0 := (Below.refl w.heap.size w).alloc (Nat.le_refl _) (.cells #[.int .i64 wh, x1, x2, x3, x4, x5, x6, x7, x8, x9, x10] 35)
  have HA := hide (h.below hb0)
  have HX := hide (heap_alloc_new w (.cells #[.int .i64 wh, x1, x2, x3, x4, x5, x6, x7, x8, x9, x10] 35))
  clear hb0 h
  go_enter Tryz.func9, Tryz.ntmps9
  go_upto_region 1 with fail
  generalize w.alloc (.cells #[.int .i64 wh, x1, x2, x3, x4, x5, x6, x7, x8, x9, x10] 35) = W at *
  generalize w.heap.size = g at *
  obtain ⟨y0, _⟩ := cells11 HX.out
  go_wp2_with fail
  refine (pick_any wh h1 h2 _).mono ?_
  rintro e w1 ⟨rfl, rfl⟩
  rw [hk]
  clear y0
  go_wp2_with fail
  refine (Fail_any S w0 p s _ HA.out).mono ?_
  rintro e w2 ⟨rfl, h2⟩
  have H2 := hide h2
  clear h2
  go_wp2_with fail
  go_end0
  exact ⟨rfl, H2.out⟩
set_option maxRecDepth 100000 in
theorem put_look (S : Nat → Prop) (w0 : World) (p : Nat) (s : K.WS) (wh : Int) (x1 x2 x3 x4 x5 x6 x7 x8 x9 x10 : Value) (w : World) (h : WAt S w0 p s w) (h1 : -9223372036854775808 ≤ wh) (h2 : wh ≤ 9223372036854775807) (hk : ((pk wh : Nat) : Int) = 10) :
    Calls Tryz.prog 9 #[.pointer (some ⟨p, 0, none⟩), .agg #[.int .i64 wh, x1, x2, x3, x4, x5, x6, x7, x8, x9, x10]] w fun en w' => en = .returned (.tuple #[]) ∧ WAt S w0 p (s) w' := by
  have hb0 := (Below.refl w.heap.size w).alloc (Nat.le_refl _) (.cells #[.int .i64 wh, x1, x2, x3, x4, x5, x6, x7, x8, x9, x10] 35)
  have HA := hide (h.below hb0)
  have HX := hide (heap_alloc_new w (.cells #[.int .i64 wh, x1, x2, x3, x4, x5, x6, x7, x8, x9, x10] 35))
  clear hb0 h
  go_enter Tryz.func9, Tryz.ntmps9
  go_upto_region 1 with fail
  generalize w.alloc (.cells #[.int .i64 wh, x1, x2, x3, x4, x5, x6, x7, x8, x9, x10] 35) = W at *
  generalize w.heap.size = g at *
  obtain ⟨y0, _⟩ := cells11 HX.out
  go_wp2_with fail
  refine (pick_any wh h1 h2 _).mono ?_
  rintro e w1 ⟨rfl, rfl⟩
  rw [hk]
  clear y0
  go_wp2_with fail
  go_end0
  exact ⟨rfl, HA.out⟩
end Wm
end Go.Proofs.YtinhpanpjamjlaaGreat
