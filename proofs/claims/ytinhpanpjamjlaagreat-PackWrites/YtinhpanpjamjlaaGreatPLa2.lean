/- The law's laid of a step: lists (written by laidl_gen.py). -/
import Derived.Test.YtinhpanpjamjlaaGreatPLa1
import Derived.Test.YtinhpanpjamjlaaGreatPPu5
namespace Go.Proofs.YtinhpanpjamjlaaGreat
namespace Wm
open Go.RowKit Go.Deep

theorem els_keepS {D T : Nat → Prop} {w w' : World} {a : Option Addr} {n : Nat} {vs : List Value} (h : Els D w a n vs) (hk : Keep T w w') (hD : ∀ b, D b → ¬ T b) : Els D w' a n vs := by
  refine ⟨h.1, h.2.1, h.2.2.imp id ?_⟩
  rintro ⟨b, off, e, hd, hc⟩
  exact ⟨b, off, e, hd, fun i v hv => hk.cell (hc i v hv) (hD b hd)⟩
/-- a call on the document's writer: what lies beside it stays -/
theorem v_step {S : Nat → Prop} {w0 W : World} {p g : Nat} {s : K.WS} {cs : Array Value} {t : TypeId} {a : Option Addr} {n : Nat} {vs : List Value} (h : VAt S w0 p s W) (hx : W.heap[g]? = some (.cells cs t (0, 0))) (h1 : t ≠ 82) (h2 : t ≠ 5) (hE : Els (fun b => ¬ S b ∧ b < w0.heap.size) W a n vs) :
    ∃ v, VAt (Wset p v) W p s W ∧ ∀ s' w', VAt (Wset p v) W p s' w' → VAt S w0 p s' w' ∧ w'.heap[g]? = some (.cells cs t (0, 0)) ∧ Els (fun b => ¬ S b ∧ b < w0.heap.size) w' a n vs := by
  obtain ⟨v, hv, hs⟩ := h.wr
  refine ⟨v, ⟨Keep.refl _ _, v, hv, fun _ hk => .inl hk⟩, fun s' w' h' => ?_⟩
  obtain ⟨v', hv', hs'⟩ := h'.wr
  have hg : ¬ Wset p v g := by
    rintro (e | e)
    · subst e
      rw [hv.blk] at hx
      injection hx with hx
      injection hx with _ hx
      exact h1 hx.symm
    · rcases hv.row.2 with ⟨e', _⟩ | ⟨g', cap, cur, e', _, hg', _⟩
      · rw [e'] at e; cases e
      · rw [e'] at e
        have e2 : g' = g := by simpa [Value.ownBlock] using e
        subst e2
        rw [hx] at hg'
        injection hg' with hg'
        injection hg' with _ hg'
        exact h2 hg'
  refine ⟨⟨h.keep.trans h'.keep hs, v', hv', fun k hk => ?_⟩, h'.keep.blk hx hg, els_keepS hE h'.keep fun b hb hw => ?_⟩
  · rcases hs' k hk with h5 | h5
    · exact hs k h5
    · exact .inr (Nat.le_trans h.keep.size h5)
  · rcases hs b hw with h5 | h5
    · exact hb.1 h5
    · exact Nat.not_lt.2 h5 hb.2
set_option maxRecDepth 100000 in
set_option maxHeartbeats 4000000 in
theorem laid_list (S : Nat → Prop) (w0 : World) (p : Nat) (s : K.WS) (wh : Int) (le mo : Int) (aL : Option Addr) (nL cL : Nat) (L : List Int) (x3 x4 x5 x6 x7 x9 x10 : Value) (w : World) (h : VAt S w0 p s w) (h1 : -9223372036854775808 ≤ wh) (h2 : wh ≤ 9223372036854775807) (hk : ((pk wh : Nat) : Int) = 5) (hE : Els (fun b => ¬ S b ∧ b < w0.heap.size) w aL nL (iv L)) (hY : ∀ y ∈ L, y ≤ 9223372036854775807) :
    Calls Tryz.prog 10 #[.pointer (some ⟨p, 0, none⟩), .agg #[.int .i64 wh, .int .i64 le, .int .i64 mo, x3, x4, x5, x6, x7, .slice aL nL cL, x9, x10]] w fun en w' => en = .returned (.tuple #[]) ∧ VAt S w0 p (putsW (L.map (numW le 9223372036854775807)) (putW (headW mo nL) s)) w' := by
  have hb0 := (Below.refl w.heap.size w).alloc (Nat.le_refl _) (.cells #[.int .i64 wh, .int .i64 le, .int .i64 mo, x3, x4, x5, x6, x7, .slice aL nL cL, x9, x10] 35)
  have HA := hide (h.below hb0)
  have HX := hide (heap_alloc_new w (.cells #[.int .i64 wh, .int .i64 le, .int .i64 mo, x3, x4, x5, x6, x7, .slice aL nL cL, x9, x10] 35))
  have HE := hide (els_keep hE hb0 fun _ h => h)
  have HLn : Hid (nL = L.length) := by show _ = _; have := hE.1; unfold iv at this; rw [List.length_map] at this; exact this
  have hnL := hE.2.1
  have HY := hide hY
  clear hb0 h hE hY
  go_enter Tryz.func10, Tryz.ntmps10
  go_upto_region 1 with fail
  generalize w.alloc (.cells #[.int .i64 wh, .int .i64 le, .int .i64 mo, x3, x4, x5, x6, x7, .slice aL nL cL, x9, x10] 35) = W at *
  generalize w.heap.size = g at *
  obtain ⟨y0, y1, y2, y3, y4, y5, y6, y7, y8, y9, y10⟩ := cells11 HX.out
  go_wp2_with fail
  refine (pick_any wh h1 h2 _).mono ?_
  rintro e w1 ⟨rfl, rfl⟩
  rw [hk]
  go_wp2_with fail
  obtain ⟨v, hv, hst⟩ := v_step HA.out HX.out (by decide) (by decide) HE.out
  have HST := hide hst
  refine (RHead_any (Wset p v) _ p mo nL hnL s _ hv).mono ?_
  rintro e w2 ⟨rfl, h2⟩
  have I2 := hide (HST.out _ _ h2)
  clear h2 HST hv hst HA HX HE y0 y1 y2 y3 y4 y5 y6 y7 y8 y9 y10
  generalize hs2 : putW (headW mo nL) s = s2 at *
  have HS2 := hide hs2
  clear hs2
  go_wp2_with fail
  go_loopw [4] (fun kv wr => ∃ k : Nat, kv = .int .i64 (k : Nat) ∧ k ≤ nL ∧ Hid (VAt S w0 p (putsW ((L.map (numW le 9223372036854775807)).take k) s2) wr ∧ wr.heap[g]? = some (.cells #[.int .i64 wh, .int .i64 le, .int .i64 mo, x3, x4, x5, x6, x7, .slice aL nL cL, x9, x10] 35 (0, 0)) ∧ Els (fun b => ¬ S b ∧ b < w0.heap.size) wr aL nL (iv L))) (fun kv _ => nL - (intOf kv).toNat)
  case atStart => exact ⟨0, rfl, Nat.zero_le _, I2.out⟩
  case round => as_aux_lemma =>
    clear I2
    obtain ⟨k, rfl, hk2, HD⟩ := hrel
    obtain ⟨y0, y1, y2, y3, y4, y5, y6, y7, y8, y9, y10⟩ := cells11 HD.out.2.1
    by_cases hlt : k < nL
    · have hlt' : (k : Int) < (nL : Int) := by omega
      obtain ⟨y, hy⟩ : ∃ y, L[k]? = some y := ⟨_, List.getElem?_eq_getElem (by have := HLn.out; omega)⟩
      have hiv : (iv L)[k]? = some (.int .i64 y) := by unfold iv; rw [List.getElem?_map, hy]; rfl
      have HF : Hid (putsW ((L.map (numW le 9223372036854775807)).take (k + 1)) s2 = putW (numW le 9223372036854775807 y) (putsW ((L.map (numW le 9223372036854775807)).take k) s2)) := puts_succ _ k _ (by rw [List.getElem?_map, hy]; rfl) s2
      have hyb := HY.out y (List.mem_of_getElem? hy)
      obtain ⟨b, off, eA, HC⟩ : ∃ b off, aL = some ⟨b, off, none⟩ ∧ Hid (∀ W' : World, Els (fun b => ¬ S b ∧ b < w0.heap.size) W' aL nL (iv L) → W'.cell? ⟨b, off + k, none⟩ = some (.int .i64 y)) := by
        rcases HD.out.2.2.2.2 with h0 | ⟨b, off, e, _, hc⟩
        · omega
        · refine ⟨b, off, e, fun W' hE' => ?_⟩
          rcases hE'.2.2 with h0 | ⟨b', off', e', _, hc'⟩
          · omega
          · rw [e] at e'
            injection e' with e'
            injection e' with e1 e2
            subst e1 e2
            exact hc' k _ hiv
      subst eA
      go_upto_region 17 with fail
      clear y0 y1 y2 y3 y4 y5 y6 y7 y8 y9 y10 hiv hy
      have HDd : Hid (VAt S w0 p (putsW ((L.map (numW le 9223372036854775807)).take k) s2) wr.drew ∧ wr.drew.heap[g]? = some (.cells #[.int .i64 wh, .int .i64 le, .int .i64 mo, x3, x4, x5, x6, x7, .slice (some ⟨b, off, none⟩) nL cL, x9, x10] 35 (0, 0)) ∧ Els (fun b => ¬ S b ∧ b < w0.heap.size) wr.drew (some ⟨b, off, none⟩) nL (iv L)) := ⟨HD.out.1.drew, HD.out.2.1, els_keep HD.out.2.2 (Below.refl _ _).drew fun _ h => h⟩
      obtain ⟨v3, hv3, hst3⟩ := v_step HDd.out.1 HDd.out.2.1 (by decide) (by decide) HDd.out.2.2
      have HST3 := hide hst3
      have HV3 := hide hv3
      clear hv3 hst3
      have HS : Hid (∀ W' : World, W'.heap[g]? = some (.cells #[.int .i64 wh, .int .i64 le, .int .i64 mo, x3, x4, x5, x6, x7, .slice (some ⟨b, off, none⟩) nL cL, x9, x10] 35 (0, 0)) → W'.cell? ⟨b, off + k, none⟩ = some (.int .i64 y) → (fun W' : World => W'.cell? ⟨g, 1, none⟩ = some (.int .i64 le) ∧ W'.cell? ⟨g, 8, none⟩ = some (.slice (some ⟨b, off, none⟩) nL cL) ∧ W'.cell? ⟨b, off + k, none⟩ = some (.int .i64 y)) W') := fun W' k k2 => ⟨(cells11 k).2.1, (cells11 k).2.2.2.2.2.2.2.2.1, k2⟩
      go_region_held3 (fun W' : World => W'.cell? ⟨g, 1, none⟩ = some (.int .i64 le) ∧ W'.cell? ⟨g, 8, none⟩ = some (.slice (some ⟨b, off, none⟩) nL cL) ∧ W'.cell? ⟨b, off + k, none⟩ = some (.int .i64 y)) (first | (exact HS.out _ HDd.out.2.1 (HC.out _ HDd.out.2.2)) | (exact HS.out _ I3.out.2.1 (HC.out _ I3.out.2.2)) | (exact HS.out _ HD.out.2.1 (HC.out _ HD.out.2.2)) | go_keep)
        (first | (go_at_call 48; refine (RNumber_any (Wset p v3) _ p le 9223372036854775807 y hyb _ _ HV3.out).mono ?_; rintro e w3 ⟨rfl, h3⟩; rw [← HF.out] at h3; have I3 := hide (HST3.out _ _ h3); clear h3))
      go_wp2_with fail
      go_roundw
      · exact ⟨k + 1, rfl, by omega, I3.out⟩
      · show nL - ((k : Int) + 1).toNat < nL - (k : Int).toNat
        omega
    · obtain rfl : k = nL := by omega
      have hge : ¬ ((k : Int) < (k : Int)) := by omega
      have HZ : Hid (VAt S w0 p (putsW (L.map (numW le 9223372036854775807)) s2) wr) := by
        have := HD.out.1
        rw [List.take_of_length_le (by rw [List.length_map]; have := HLn.out; omega)] at this
        exact this
      clear HD
      go_wp2_with fail
      go_end0
      refine ⟨rfl, ?_⟩
      rw [HS2.out]
      exact HZ.out
set_option maxRecDepth 100000 in
set_option maxHeartbeats 4000000 in
theorem laid_texts (S : Nat → Prop) (w0 : World) (p : Nat) (s : K.WS) (wh : Int) (mo nn : Int) (aL : Option Addr) (nL cL : Nat) (T : List ByteArray) (x1 x4 x5 x6 x7 x8 x10 : Value) (w : World) (h : VAt S w0 p s w) (h1 : -9223372036854775808 ≤ wh) (h2 : wh ≤ 9223372036854775807) (hk : ((pk wh : Nat) : Int) = 6) (hE : Els (fun b => ¬ S b ∧ b < w0.heap.size) w aL nL (sv T)) (hY : ∀ y ∈ T, y.size ≤ 140737488351232) :
    Calls Tryz.prog 10 #[.pointer (some ⟨p, 0, none⟩), .agg #[.int .i64 wh, x1, .int .i64 mo, .int .i64 nn, x4, x5, x6, x7, x8, .slice aL nL cL, x10]] w fun en w' => en = .returned (.tuple #[]) ∧ VAt S w0 p (putsW (T.map fun t => textW nn (sb t)) (putW (headW mo nL) s)) w' := by
  have hb0 := (Below.refl w.heap.size w).alloc (Nat.le_refl _) (.cells #[.int .i64 wh, x1, .int .i64 mo, .int .i64 nn, x4, x5, x6, x7, x8, .slice aL nL cL, x10] 35)
  have HA := hide (h.below hb0)
  have HX := hide (heap_alloc_new w (.cells #[.int .i64 wh, x1, .int .i64 mo, .int .i64 nn, x4, x5, x6, x7, x8, .slice aL nL cL, x10] 35))
  have HE := hide (els_keep hE hb0 fun _ h => h)
  have HLn : Hid (nL = T.length) := by show _ = _; have := hE.1; unfold sv at this; rw [List.length_map] at this; exact this
  have hnL := hE.2.1
  have HY := hide hY
  clear hb0 h hE hY
  go_enter Tryz.func10, Tryz.ntmps10
  go_upto_region 1 with fail
  generalize w.alloc (.cells #[.int .i64 wh, x1, .int .i64 mo, .int .i64 nn, x4, x5, x6, x7, x8, .slice aL nL cL, x10] 35) = W at *
  generalize w.heap.size = g at *
  obtain ⟨y0, y1, y2, y3, y4, y5, y6, y7, y8, y9, y10⟩ := cells11 HX.out
  go_wp2_with fail
  refine (pick_any wh h1 h2 _).mono ?_
  rintro e w1 ⟨rfl, rfl⟩
  rw [hk]
  go_wp2_with fail
  obtain ⟨v, hv, hst⟩ := v_step HA.out HX.out (by decide) (by decide) HE.out
  have HST := hide hst
  refine (RHead_any (Wset p v) _ p mo nL hnL s _ hv).mono ?_
  rintro e w2 ⟨rfl, h2⟩
  have I2 := hide (HST.out _ _ h2)
  clear h2 HST hv hst HA HX HE y0 y1 y2 y3 y4 y5 y6 y7 y8 y9 y10
  generalize hs2 : putW (headW mo nL) s = s2 at *
  have HS2 := hide hs2
  clear hs2
  go_wp2_with fail
  go_loopw [5] (fun kv wr => ∃ k : Nat, kv = .int .i64 (k : Nat) ∧ k ≤ nL ∧ Hid (VAt S w0 p (putsW ((T.map fun t => textW nn (sb t)).take k) s2) wr ∧ wr.heap[g]? = some (.cells #[.int .i64 wh, x1, .int .i64 mo, .int .i64 nn, x4, x5, x6, x7, x8, .slice aL nL cL, x10] 35 (0, 0)) ∧ Els (fun b => ¬ S b ∧ b < w0.heap.size) wr aL nL (sv T))) (fun kv _ => nL - (intOf kv).toNat)
  case atStart => exact ⟨0, rfl, Nat.zero_le _, I2.out⟩
  case round => as_aux_lemma =>
    clear I2
    obtain ⟨k, rfl, hk2, HD⟩ := hrel
    obtain ⟨y0, y1, y2, y3, y4, y5, y6, y7, y8, y9, y10⟩ := cells11 HD.out.2.1
    by_cases hlt : k < nL
    · have hlt' : (k : Int) < (nL : Int) := by omega
      obtain ⟨y, hy⟩ : ∃ y, T[k]? = some y := ⟨_, List.getElem?_eq_getElem (by have := HLn.out; omega)⟩
      have hiv : (sv T)[k]? = some (.string y) := by unfold sv; rw [List.getElem?_map, hy]; rfl
      have HF : Hid (putsW ((T.map fun t => textW nn (sb t)).take (k + 1)) s2 = putW (textW nn (sb y)) (putsW ((T.map fun t => textW nn (sb t)).take k) s2)) := puts_succ _ k _ (by rw [List.getElem?_map, hy]; rfl) s2
      have hyb := HY.out y (List.mem_of_getElem? hy)
      obtain ⟨b, off, eA, HC⟩ : ∃ b off, aL = some ⟨b, off, none⟩ ∧ Hid (∀ W' : World, Els (fun b => ¬ S b ∧ b < w0.heap.size) W' aL nL (sv T) → W'.cell? ⟨b, off + k, none⟩ = some (.string y)) := by
        rcases HD.out.2.2.2.2 with h0 | ⟨b, off, e, _, hc⟩
        · omega
        · refine ⟨b, off, e, fun W' hE' => ?_⟩
          rcases hE'.2.2 with h0 | ⟨b', off', e', _, hc'⟩
          · omega
          · rw [e] at e'
            injection e' with e'
            injection e' with e1 e2
            subst e1 e2
            exact hc' k _ hiv
      subst eA
      go_upto_region 23 with fail
      clear y0 y1 y2 y3 y4 y5 y6 y7 y8 y9 y10 hiv hy
      have HDd : Hid (VAt S w0 p (putsW ((T.map fun t => textW nn (sb t)).take k) s2) wr.drew ∧ wr.drew.heap[g]? = some (.cells #[.int .i64 wh, x1, .int .i64 mo, .int .i64 nn, x4, x5, x6, x7, x8, .slice (some ⟨b, off, none⟩) nL cL, x10] 35 (0, 0)) ∧ Els (fun b => ¬ S b ∧ b < w0.heap.size) wr.drew (some ⟨b, off, none⟩) nL (sv T)) := ⟨HD.out.1.drew, HD.out.2.1, els_keep HD.out.2.2 (Below.refl _ _).drew fun _ h => h⟩
      obtain ⟨v3, hv3, hst3⟩ := v_step HDd.out.1 HDd.out.2.1 (by decide) (by decide) HDd.out.2.2
      have HST3 := hide hst3
      have HV3 := hide hv3
      clear hv3 hst3
      have HS : Hid (∀ W' : World, W'.heap[g]? = some (.cells #[.int .i64 wh, x1, .int .i64 mo, .int .i64 nn, x4, x5, x6, x7, x8, .slice (some ⟨b, off, none⟩) nL cL, x10] 35 (0, 0)) → W'.cell? ⟨b, off + k, none⟩ = some (.string y) → (fun W' : World => W'.cell? ⟨g, 3, none⟩ = some (.int .i64 nn) ∧ W'.cell? ⟨g, 9, none⟩ = some (.slice (some ⟨b, off, none⟩) nL cL) ∧ W'.cell? ⟨b, off + k, none⟩ = some (.string y)) W') := fun W' k k2 => ⟨(cells11 k).2.2.2.1, (cells11 k).2.2.2.2.2.2.2.2.2.1, k2⟩
      go_region_held3 (fun W' : World => W'.cell? ⟨g, 3, none⟩ = some (.int .i64 nn) ∧ W'.cell? ⟨g, 9, none⟩ = some (.slice (some ⟨b, off, none⟩) nL cL) ∧ W'.cell? ⟨b, off + k, none⟩ = some (.string y)) (first | (exact HS.out _ HDd.out.2.1 (HC.out _ HDd.out.2.2)) | (exact HS.out _ I3.out.2.1 (HC.out _ I3.out.2.2)) | (exact HS.out _ HD.out.2.1 (HC.out _ HD.out.2.2)) | go_keep)
        (first | (go_at_call 51; refine (RText_any (Wset p v3) _ p nn y hyb _ _ HV3.out).mono ?_; rintro e w3 ⟨rfl, h3⟩; rw [← HF.out] at h3; have I3 := hide (HST3.out _ _ h3); clear h3))
      go_wp2_with fail
      go_roundw
      · exact ⟨k + 1, rfl, by omega, I3.out⟩
      · show nL - ((k : Int) + 1).toNat < nL - (k : Int).toNat
        omega
    · obtain rfl : k = nL := by omega
      have hge : ¬ ((k : Int) < (k : Int)) := by omega
      have HZ : Hid (VAt S w0 p (putsW (T.map fun t => textW nn (sb t)) s2) wr) := by
        have := HD.out.1
        rw [List.take_of_length_le (by rw [List.length_map]; have := HLn.out; omega)] at this
        exact this
      clear HD
      go_wp2_with fail
      go_end0
      refine ⟨rfl, ?_⟩
      rw [HS2.out]
      exact HZ.out
set_option maxRecDepth 100000 in
set_option maxHeartbeats 4000000 in
theorem laid_words (S : Nat → Prop) (w0 : World) (p : Nat) (s : K.WS) (wh : Int) (mo : Int) (aL : Option Addr) (nL cL : Nat) (L : List Int) (x1 x3 x4 x5 x6 x7 x9 x10 : Value) (w : World) (h : VAt S w0 p s w) (h1 : -9223372036854775808 ≤ wh) (h2 : wh ≤ 9223372036854775807) (hk : ((pk wh : Nat) : Int) = 8) (hE : Els (fun b => ¬ S b ∧ b < w0.heap.size) w aL nL (iv L)) (hY : ∀ y ∈ L, y ≤ 9223372036854775807) :
    Calls Tryz.prog 10 #[.pointer (some ⟨p, 0, none⟩), .agg #[.int .i64 wh, x1, .int .i64 mo, x3, x4, x5, x6, x7, .slice aL nL cL, x9, x10]] w fun en w' => en = .returned (.tuple #[]) ∧ VAt S w0 p (putsW (L.map fun y => wordW (wd y)) (putW (headW mo nL) s)) w' := by
  have hb0 := (Below.refl w.heap.size w).alloc (Nat.le_refl _) (.cells #[.int .i64 wh, x1, .int .i64 mo, x3, x4, x5, x6, x7, .slice aL nL cL, x9, x10] 35)
  have HA := hide (h.below hb0)
  have HX := hide (heap_alloc_new w (.cells #[.int .i64 wh, x1, .int .i64 mo, x3, x4, x5, x6, x7, .slice aL nL cL, x9, x10] 35))
  have HE := hide (els_keep hE hb0 fun _ h => h)
  have HLn : Hid (nL = L.length) := by show _ = _; have := hE.1; unfold iv at this; rw [List.length_map] at this; exact this
  have hnL := hE.2.1
  have HY := hide hY
  clear hb0 h hE hY
  go_enter Tryz.func10, Tryz.ntmps10
  go_upto_region 1 with fail
  generalize w.alloc (.cells #[.int .i64 wh, x1, .int .i64 mo, x3, x4, x5, x6, x7, .slice aL nL cL, x9, x10] 35) = W at *
  generalize w.heap.size = g at *
  obtain ⟨y0, y1, y2, y3, y4, y5, y6, y7, y8, y9, y10⟩ := cells11 HX.out
  go_wp2_with fail
  refine (pick_any wh h1 h2 _).mono ?_
  rintro e w1 ⟨rfl, rfl⟩
  rw [hk]
  go_wp2_with fail
  obtain ⟨v, hv, hst⟩ := v_step HA.out HX.out (by decide) (by decide) HE.out
  have HST := hide hst
  refine (RHead_any (Wset p v) _ p mo nL hnL s _ hv).mono ?_
  rintro e w2 ⟨rfl, h2⟩
  have I2 := hide (HST.out _ _ h2)
  clear h2 HST hv hst HA HX HE y0 y1 y2 y3 y4 y5 y6 y7 y8 y9 y10
  generalize hs2 : putW (headW mo nL) s = s2 at *
  have HS2 := hide hs2
  clear hs2
  go_wp2_with fail
  go_loopw [8] (fun kv wr => ∃ k : Nat, kv = .int .i64 (k : Nat) ∧ k ≤ nL ∧ Hid (VAt S w0 p (putsW ((L.map fun y => wordW (wd y)).take k) s2) wr ∧ wr.heap[g]? = some (.cells #[.int .i64 wh, x1, .int .i64 mo, x3, x4, x5, x6, x7, .slice aL nL cL, x9, x10] 35 (0, 0)) ∧ Els (fun b => ¬ S b ∧ b < w0.heap.size) wr aL nL (iv L))) (fun kv _ => nL - (intOf kv).toNat)
  case atStart => exact ⟨0, rfl, Nat.zero_le _, I2.out⟩
  case round => as_aux_lemma =>
    clear I2
    obtain ⟨k, rfl, hk2, HD⟩ := hrel
    obtain ⟨y0, y1, y2, y3, y4, y5, y6, y7, y8, y9, y10⟩ := cells11 HD.out.2.1
    by_cases hlt : k < nL
    · have hlt' : (k : Int) < (nL : Int) := by omega
      obtain ⟨y, hy⟩ : ∃ y, L[k]? = some y := ⟨_, List.getElem?_eq_getElem (by have := HLn.out; omega)⟩
      have hiv : (iv L)[k]? = some (.int .i64 y) := by unfold iv; rw [List.getElem?_map, hy]; rfl
      have HF : Hid (putsW ((L.map fun y => wordW (wd y)).take (k + 1)) s2 = putW (wordW (wd y)) (putsW ((L.map fun y => wordW (wd y)).take k) s2)) := puts_succ _ k _ (by rw [List.getElem?_map, hy]; rfl) s2
      have hyb := HY.out y (List.mem_of_getElem? hy)
      obtain ⟨b, off, eA, HC⟩ : ∃ b off, aL = some ⟨b, off, none⟩ ∧ Hid (∀ W' : World, Els (fun b => ¬ S b ∧ b < w0.heap.size) W' aL nL (iv L) → W'.cell? ⟨b, off + k, none⟩ = some (.int .i64 y)) := by
        rcases HD.out.2.2.2.2 with h0 | ⟨b, off, e, _, hc⟩
        · omega
        · refine ⟨b, off, e, fun W' hE' => ?_⟩
          rcases hE'.2.2 with h0 | ⟨b', off', e', _, hc'⟩
          · omega
          · rw [e] at e'
            injection e' with e'
            injection e' with e1 e2
            subst e1 e2
            exact hc' k _ hiv
      subst eA
      have ewd : IntKind.u64.wrap y = ((wd y : Nat) : Int) := by rw [IntKind.wrap_u64]; unfold wd; omega
      have hcl := HC.out _ HD.out.2.2
      obtain ⟨v3, hv3, hst3⟩ := v_step HD.out.1 HD.out.2.1 (by decide) (by decide) HD.out.2.2
      have HST3 := hide hst3
      have HV3 := hide hv3
      clear hv3 hst3 hyb
      clear hiv hy
      go_wp2_with fail
      refine (RWord_any (Wset p v3) _ p (wd y) (wd_lt y) _ _ HV3.out).mono ?_
      rintro e w3 ⟨rfl, h3⟩
      rw [← HF.out] at h3
      have I3 := hide (HST3.out _ _ h3)
      clear h3 hcl y0 y1 y2 y3 y4 y5 y6 y7 y8 y9 y10 HD HV3 HST3
      go_wp2_with fail
      go_roundw
      · exact ⟨k + 1, rfl, by omega, I3.out⟩
      · show nL - ((k : Int) + 1).toNat < nL - (k : Int).toNat
        omega
    · obtain rfl : k = nL := by omega
      have hge : ¬ ((k : Int) < (k : Int)) := by omega
      have HZ : Hid (VAt S w0 p (putsW (L.map fun y => wordW (wd y)) s2) wr) := by
        have := HD.out.1
        rw [List.take_of_length_le (by rw [List.length_map]; have := HLn.out; omega)] at this
        exact this
      clear HD
      go_wp2_with fail
      go_end0
      refine ⟨rfl, ?_⟩
      rw [HS2.out]
      exact HZ.out
end Wm
end Go.Proofs.YtinhpanpjamjlaaGreat
