/- The law's put of a step: a list of words (written by putw_gen.py). -/
import Derived.Test.YtinhpanpjamjlaaGreatPPu4
import Derived.Test.YtinhpanpjamjlaaGreatPPu5
import Derived.Test.YtinhpanpjamjlaaGreatPWordR
namespace Go.Proofs.YtinhpanpjamjlaaGreat
namespace Wm
open Go.RowKit Go.Deep

theorem els_own {w : World} {base : Nat} {t : TypeId} {a : Option Addr} {n c : Nat} {vs : List Value} (h : w.ownsRow base t 1 (.slice a n c) n vs) (hn : n ≤ 140737488351232) : Els (fun k => base ≤ k ∧ k < w.heap.size) w a n vs := by
  have hl : n = vs.length := by have := h.1; omega
  rcases h.2 with ⟨e, h0⟩ | ⟨g, cap, cur, e, hb, hg, _⟩
  · exact ⟨hl, hn, .inl h0⟩
  · injection e with e1 _ e3
    subst e1 e3
    refine ⟨hl, hn, .inr ⟨g, 0, rfl, ⟨hb, (Array.getElem?_eq_some_iff.1 hg).1⟩, fun i x hx => ?_⟩⟩
    have := h.cells (g := g) rfl i x hx
    rw [Addr.add_lit] at this
    exact this
theorem putsWords (D : Nat → Prop) (w : World) (l : List Int) : ∀ (i : Nat) v f, (uv l)[i]? = some v → (l.map fun y => wordW (wd y))[i]? = some f → PutsG D w 97 #[] v f := fun i v f h1 h2 => by
  unfold uv at h1
  rw [List.getElem?_map] at h1 h2
  cases e : l[i]? with
  | none => rw [e] at h1; cases h1
  | some y =>
    rw [e] at h1 h2
    simp only [Option.map_some, Option.some.injEq] at h1 h2
    subst h1 h2
    exact putsWord D w (wd y) (wd_lt y)
set_option maxRecDepth 100000 in
set_option maxHeartbeats 4000000 in
theorem put_words (S : Nat → Prop) (w0 : World) (p : Nat) (s : K.WS) (wh : Int) (mo : Int) (aL : Option Addr) (nL cL : Nat) (L : List Int) (x1 x3 x4 x5 x6 x7 x9 x10 : Value) (w : World) (h : WAt S w0 p s w) (h1 : -9223372036854775808 ≤ wh) (h2 : wh ≤ 9223372036854775807) (hk : ((pk wh : Nat) : Int) = 8) (hE : Els (fun b => ¬ S b ∧ b < w0.heap.size) w aL nL (iv L)) (hn : nL ≤ 17592186043904) :
    Calls Tryz.prog 9 #[.pointer (some ⟨p, 0, none⟩), .agg #[.int .i64 wh, x1, .int .i64 mo, x3, x4, x5, x6, x7, .slice aL nL cL, x9, x10]] w fun en w' => en = .returned (.tuple #[]) ∧ WAt S w0 p (putW (listW (min mo 16777216) (L.map fun y => wordW (wd y))) s) w' := by
  have hb0 := (Below.refl w.heap.size w).alloc (Nat.le_refl _) (.cells #[.int .i64 wh, x1, .int .i64 mo, x3, x4, x5, x6, x7, .slice aL nL cL, x9, x10] 35)
  have HA := hide (h.below hb0)
  have HX := hide (heap_alloc_new w (.cells #[.int .i64 wh, x1, .int .i64 mo, x3, x4, x5, x6, x7, .slice aL nL cL, x9, x10] 35))
  have HE := hide (els_keep hE hb0 fun _ h => h)
  have HLn : Hid (nL = L.length) := by show _ = _; have := hE.1; unfold iv at this; rw [List.length_map] at this; exact this
  have hn2 : nL ≤ 140737488351232 := by omega
  clear hE
  clear hb0 h
  go_enter Tryz.func9, Tryz.ntmps9
  go_upto_region 1 with fail
  generalize w.alloc (.cells #[.int .i64 wh, x1, .int .i64 mo, x3, x4, x5, x6, x7, .slice aL nL cL, x9, x10] 35) = W at *
  generalize w.heap.size = g at *
  obtain ⟨y0, _⟩ := cells11 HX.out
  go_wp2_with fail
  refine (pick_any wh h1 h2 _).mono ?_
  rintro e w1 ⟨rfl, rfl⟩
  rw [hk]
  clear y0
  go_upto_region 19 with fail
  obtain ⟨v, hv, _, hs⟩ := HA.out.rebase
  have HV := hide (hv.keep (Keep.drew (fun _ => False) _) fun _ _ f => f)
  have HSS := hide hs
  clear hv hs
  have HDw : Hid (∀ k, ¬ S k ∧ k < w0.heap.size → ¬ Wset p v k ∧ k < w1.heap.size) := fun k hk => ⟨fun hw => (HSS.out k hw).elim hk.1 fun h6 => Nat.not_lt.2 h6 hk.2, Nat.lt_of_lt_of_le hk.2 HA.out.keep.size⟩
  have HS : Hid (∀ W' : World, W'.heap[g]? = some (.cells #[.int .i64 wh, x1, .int .i64 mo, x3, x4, x5, x6, x7, .slice aL nL cL, x9, x10] 35 (0, 0)) → (fun W' : World => W'.cell? ⟨g, 2, none⟩ = some (.int .i64 mo) ∧ W'.cell? ⟨g, 8, none⟩ = some (.slice aL nL cL)) W') := fun W' k => ⟨(cells11 k).2.2.1, (cells11 k).2.2.2.2.2.2.2.2.1⟩
  have HNg : Hid (¬ Wset p v g) := HV.out.not (b := g) HX.out (by decide) (by decide)
  have HXd : Hid (w1.drew.heap[g]? = some (.cells #[.int .i64 wh, x1, .int .i64 mo, x3, x4, x5, x6, x7, .slice aL nL cL, x9, x10] 35 (0, 0))) := HX.out
  have HBd : Hid (Below w1.heap.size w1 w1.drew) := (Below.refl _ _).drew
  go_region_held3 (fun W' : World => W'.cell? ⟨g, 2, none⟩ = some (.int .i64 mo) ∧ W'.cell? ⟨g, 8, none⟩ = some (.slice aL nL cL)) (first | (exact HS.out _ HXd.out) | (exact HS.out _ HXl.out) | (exact HS.out _ (blkB HXd.out HBL.out)) | (exact HS.out _ (blkB HXd.out HBS.out)) | (exact HS.out _ (blkB HXd.out HBA.out)) | (exact HS.out _ HX.out) | go_keep) (first
    | (go_at_call 45; first | (refine (PutLw (Wset p v) wS p _ _ _ _ _ (listW (min mo 16777216) (L.map fun y => wordW (wd y))) s _ (wr_at HV.out HBS.out) ((putsListW (fun k => ¬ Wset p v k ∧ k < wS.heap.size) wS m9 o9 (min mo 16777216) _ _ _ _ aS nL cS (uv L) (L.map fun y => wordW (wd y)) (els_keep (els_own HOS.out hn2) (Below.refl _ _) fun k hk => newD HV.out (Nat.le_trans HZS.out hk.1) hk.2) (by rw [List.length_map]; exact HLn.out.symm) (putsWords _ _ L) ent_putWord (newD HV.out HG9.out.1 (numForm_lt (blkc HM9.out HLS.out))) (newD HV.out HG9.out.2 (blk_lt (blkB HO9.out HLS.out))) (blkc HM9.out HLS.out) (blkB HO9.out HLS.out)) p (Wset p v) wS (Agree.refl fun k hk => hk.2) (fun k hk => hk.1)) ent_putListW).mono ?_; rintro e wP ⟨rfl, hP⟩; have HXl := hide (hP.keep.blk (blkB HXd.out HBS.out) HNg.out); have HF := hide ((HA.out.below (HBd.out.trans HBS.out)).step HSS.out hP); clear hP) | (refine (PutLw (Wset p v) wL p _ _ _ _ _ (listW (min mo 16777216) (L.map fun y => wordW (wd y))) s _ (wr_at HV.out HBL.out) ((putsListW (fun k => ¬ Wset p v k ∧ k < wL.heap.size) wL m9 o9 (min mo 16777216) _ _ _ _ aS nL cS (uv L) (L.map fun y => wordW (wd y)) (els_keep (els_own HOS.out hn2) HSL.out fun k hk => newD HV.out (Nat.le_trans HZS.out hk.1) (Nat.lt_of_lt_of_le hk.2 HSL.out.size)) (by rw [List.length_map]; exact HLn.out.symm) (putsWords _ _ L) ent_putWord (newD HV.out HG9.out.1 (numForm_lt HM9.out)) (newD HV.out HG9.out.2 (blk_lt HO9.out)) HM9.out HO9.out) p (Wset p v) wL (Agree.refl fun k hk => hk.2) (fun k hk => hk.1)) ent_putListW).mono ?_; rintro e wP ⟨rfl, hP⟩; have HXl := hide (hP.keep.blk (blkB HXd.out HBL.out) HNg.out); have HF := hide ((HA.out.below (HBd.out.trans HBL.out)).step HSS.out hP); clear hP))
    | (go_at_call 44; first | (refine (ListsW _ _ _ _ mo wS).mono ?_; rintro e wL ⟨m9, o9, rfl, hm, ho, hgm, hgo, hb⟩; have HM9 := hide hm; have HO9 := hide ho; have HG9 := hide (And.intro (Nat.le_trans HBS.out.size hgm) (Nat.le_trans HBS.out.size hgo)); have HBL : Hid (Below w1.drew.heap.size w1.drew wL) := HBS.out.trans (hb.mono HBS.out.size); have HSL : Hid (Below wS.heap.size wS wL) := hb; clear hm ho hgm hgo hb) | (refine (ListsW _ _ _ _ mo wA).mono ?_; rintro e wL ⟨m9, o9, rfl, hm, ho, hgm, hgo, hb⟩; have HM9 := hide hm; have HO9 := hide ho; have HG9 := hide (And.intro (Nat.le_trans HBA.out.size hgm) (Nat.le_trans HBA.out.size hgo)); have HBL : Hid (Below w1.drew.heap.size w1.drew wL) := HBA.out.trans (hb.mono HBA.out.size); try (have HSL : Hid (Below wS.heap.size wS wL) := HSA.out.trans (hb.mono HSA.out.size)); clear hm ho hgm hgo hb))
    | (go_at_call 46; first | (refine (words_any (fun b => ¬ S b ∧ b < w0.heap.size) aL nL cL L wL (els_keep HE.out (HBd.out.trans HBL.out) fun _ h => h) hn).mono ?_; rintro e wS ⟨vS, rfl, hoS, hbS⟩; obtain ⟨aS, cS, hvS⟩ := ownsRow_shape hoS; subst hvS; have HOS := hide hoS; have HLS : Hid (Below wL.heap.size wL wS) := hbS; have HZS := hide HBL.out.size; have HBS : Hid (Below w1.drew.heap.size w1.drew wS) := HBL.out.trans (hbS.mono HBL.out.size); clear hoS hbS) | (refine (words_any (fun b => ¬ S b ∧ b < w0.heap.size) aL nL cL L wA (els_keep HE.out (HBd.out.trans HBA.out) fun _ h => h) hn).mono ?_; rintro e wS ⟨vS, rfl, hoS, hbS⟩; obtain ⟨aS, cS, hvS⟩ := ownsRow_shape hoS; subst hvS; have HOS := hide hoS; have HZS := hide HBA.out.size; have HBS : Hid (Below w1.drew.heap.size w1.drew wS) := HBA.out.trans (hbS.mono HBA.out.size); clear hoS hbS) | (refine (words_any (fun b => ¬ S b ∧ b < w0.heap.size) aL nL cL L w1.drew (els_keep HE.out HBd.out fun _ h => h) hn).mono ?_; rintro e wS ⟨vS, rfl, hoS, hbS⟩; obtain ⟨aS, cS, hvS⟩ := ownsRow_shape hoS; subst hvS; have HOS := hide hoS; have HZS : Hid (w1.drew.heap.size ≤ w1.drew.heap.size) := Nat.le_refl _; have HBS : Hid (Below w1.drew.heap.size w1.drew wS) := hbS; clear hoS hbS))
    | (go_at_call 32; first | (refine (Words_any wS).mono ?_; rintro e wA ⟨rfl, hbA⟩; have HSA : Hid (Below wS.heap.size wS wA) := hbA; have HBA : Hid (Below w1.drew.heap.size w1.drew wA) := HBS.out.trans (hbA.mono HBS.out.size); clear hbA) | (refine (Words_any w1.drew).mono ?_; rintro e wA ⟨rfl, hbA⟩; have HBA : Hid (Below w1.drew.heap.size w1.drew wA) := hbA; clear hbA)))
  all_goals (go_wp2_with fail; go_end0; exact ⟨rfl, HF.out⟩)
end Wm
end Go.Proofs.YtinhpanpjamjlaaGreat
