/- Package disk: Remove of one that is safe; Remove. -/
import Derived.Test.YtilpidioengnbaaDRmv
namespace Go.Proofs.Ytilpidioengnbaa
open Go.RowKit Go.Lib

theorem alloc3_cells {w W : World} {a b c : Value} {t : TypeId} (h : W = w.alloc (.cells #[a, b, c] t)) : W.cell? ⟨w.heap.size, 0, none⟩ = some a ∧ W.cell? ⟨w.heap.size, 1, none⟩ = some b ∧ W.cell? ⟨w.heap.size, 2, none⟩ = some c := by
  have h0 : W.heap[w.heap.size]? = some (.cells #[a, b, c] t (0, 0)) := by rw [h]; exact heap_alloc_new w _
  exact ⟨cell_blk h0 0 rfl, cell_blk h0 1 rfl, cell_blk h0 2 rfl⟩

set_option maxRecDepth 10000 in
set_option maxHeartbeats 4000000 in
theorem remove_grown (S : Nat → Prop) (w : World) (p : Nat) (s : St) (bt bo : Nat) (val : Int → Value) (k : Int) (l m : List Nat) (h : DIn S w p s bt bo val) (h1 : -9223372036854775808 ≤ k) (h2 : k ≤ 9223372036854775807) (hS : ∀ i, w.heap.size ≤ i → S i)
    (hd : s.down = false) (ht : s.there k = some l) (hs : s.safe k = some m) (hne : l ≠ m) (hpre : m.length ≤ l.length ∧ l.take m.length = m) (hu : 64 + l.length ≤ s.used) (hb : s.used < 1152921504606846976) (hlf : ∀ n, s.left = some n → n ≤ 9223372036854775807) (hsg : Segs (fun k => pastOf (s.there k) (s.safe k) (val k))) :
    Calls Try.prog 31 #[.pointer (some ⟨p, 0, none⟩), .int .i64 k] w (Did S w p ({ s with there := upd s.there k none, used := s.used - (64 + l.length) } : St).spend) := by
  have c3 := h.c3
  have hl2 := (h.mo.look mapO zeroP h1 h2 0).1
  rw [show w.drewN 0 = w from rfl] at hl2
  have hpo : pastOf (some l) (some m) (val k) = some (.agg #[.bool true, .int .i64 (m.length : Nat), .slice none 0 0]) := by
    unfold pastOf
    rw [if_neg (by intro e; injection e with e; exact hne e)]
  simp only [ht, hs, hpo, Option.getD_some, Option.isSome_some] at hl2
  have hfv : foundV s val k = val k := by simp [foundV, hd, ht]
  have hfc : s.find k = 0 := by simp [St.find, hd, ht]
  have HF := hide (find_any S w p s bt bo val k h h1 h2)
  rw [hfv, hfc] at HF
  obtain ⟨W0, hW0⟩ : ∃ W0, W0 = w.alloc (.cells #[.bool true, .int .i64 (m.length : Nat), .slice none 0 0] 71) := ⟨_, rfl⟩
  have hk0 : Keep (fun _ => False) w W0 := by rw [hW0]; exact Keep.alloc _ _ _
  have H0 := hide (h.stay hk0 fun _ _ _ f => f)
  have HDr := hide (drop_any S _ p s bt bo val k l H0.out h1 h2 ht hu hb)
  have hne1 : w.heap.size ≠ p := fun e => by have := (Array.getElem?_eq_some_iff.1 h.blk).1; omega
  have hne2 : w.heap.size ≠ bt := fun e => by have := h.mt.lt; omega
  have hne3 : w.heap.size ≠ bo := fun e => by have := h.mo.lt; omega
  obtain ⟨a0, a1, _⟩ := alloc3_cells hW0
  rw [hW0] at a0 a1 HDr
  have hhe : s.held k = some l := by unfold St.held; rw [ht]
  obtain ⟨av, cv, hv⟩ := ownsRow_shape (h.row k l hhe).1
  have HG : Hid (∀ g, (Value.slice av l.length cv).ownBlock = some g → g ≠ p ∧ g ≠ bt ∧ g ≠ bo ∧ g ≠ w.heap.size) := fun g e => by
    rw [← hv] at e
    obtain ⟨g1, g2, g3⟩ := h.gne hhe e
    refine ⟨g1, g2, g3, fun e' => ?_⟩
    have := ((h.row k l hhe).1.lt g e).2
    omega
  rw [hv] at HF
  have HV := hide hv
  have HRw := hide (H0.out.row k l hhe)
  have H := hide h
  have HK0 := hide hk0
  have HW0 := hide hW0
  have HS := hide hs
  have HT := hide ht
  have HSS := hide hS
  have HL := hide hlf
  have HPre := hide hpre
  have HSg := hide hsg
  clear h hS hd ht hs hu hb hlf hpo hfv hfc hk0 hv hne hpre hW0 hsg hhe
  go_enter Try.func31, Try.ntmps31
  go_wp2_with (first
    | (go_at_call 49; refine HF.out.mono ?_; rintro e w' ⟨rfl, rfl⟩)
    | (go_at_call 52
       refine HDr.out.mono ?_
       rintro e w1 hdr
       obtain rfl := hdr.1
       rw [← HW0.out] at hdr a0 a1
       have HD1 := hide hdr
       have b0 := hdr.2.2.2.cell a0 (fun e => e.elim hne1 hne2)
       have b1 := hide (hdr.2.2.2.cell a1 (fun e => e.elim hne1 hne2))
       have C3 : Hid (w1.cell? ⟨p, 3, none⟩ = some (.map (some bo))) := cell_blk hdr.2.1 3 rfl
       have M1 := hide (H0.out.mo.keep hdr.2.2.2 fun e => e.elim (fun e => H.out.po e.symm) fun e => H.out.ne e.symm)
       have R1 := hide (HRw.out.keep hdr.2.2.2 fun g e e' => by rw [HV.out] at e; exact e'.elim (HG.out g e).1 (HG.out g e).2.1)
       clear hdr))
  have C3d : Hid (w1.drew.cell? ⟨p, 3, none⟩ = some (.map (some bo))) := C3.out
  have B1d : Hid (w1.drew.cell? ⟨w'.heap.size, 1, none⟩ = some (.int .i64 (m.length : Nat))) := b1.out
  have R1d : Hid (Row w1.drew (.slice av l.length cv) l) := by rw [← HV.out]; exact R1.out.keep (Keep.drew (fun _ => False) _) fun _ _ f => f
  go_region_held3 (fun wx => wx.cell? ⟨p, 3, none⟩ = some (.map (some bo)) ∧ wx.cell? ⟨w'.heap.size, 1, none⟩ = some (.int .i64 (m.length : Nat))) (first | (exact ⟨C3d.out, B1d.out⟩) | (exact ⟨HKc.out.cell C3d.out fun e => (HG.out p e).1 rfl, HKc.out.cell B1d.out fun e => (HG.out _ e).2.2.2 rfl⟩) | (exact ⟨K3.out.cell (HKc.out.cell C3d.out fun e => (HG.out p e).1 rfl) fun e => H.out.po e, K3.out.cell (HKc.out.cell B1d.out fun e => (HG.out _ e).2.2.2 rfl) fun e => hne3 e⟩) | go_keep)
    ((go_at_call 53
      refine (cut_any (.slice av l.length cv) l m.length w1.drew R1d.out HPre.out.1).mono ?_
      rintro e W1 ⟨v', rfl, hrow, hkp, hown⟩
      rw [HPre.out.2] at hrow
      obtain ⟨w3, hst, m3, k3, z3⟩ := ((M1.out.of_blk (w' := w1.drew) rfl).keep hkp fun e => (HG.out bo e).2.2.1 rfl).store mapO h1 h2 HSg.out (.agg #[.bool true, .int .i64 0, v'])
      obtain ⟨va, vn, vc, hvs⟩ : ∃ va vn vc, v' = .slice va vn vc := by obtain ⟨x, y, e⟩ := ownsRow_shape hrow.1; exact ⟨x, _, y, e⟩
      subst hvs
      have M3 := hide m3
      have K3 := hide k3
      have HRow1 := hide hrow
      have HKc := hide hkp
      have HOwn := hide hown
      clear m3 k3 hrow hown z3 hkp))
  go_wp2_with (go_at_call 48
               have HD := H.out.removed (w2 := W1) (k := k) HSS.out HT.out HK0.out HD1.out (.slice va vn vc) ((Keep.drew _ _).more (HKc.out.mono fun i e => by rw [HV.out]; exact e)) K3.out (by rw [HS.out]; exact M3.out) (fun m' e => by rw [HS.out] at e; injection e with e; rw [← e]; exact HRow1.out) (by rw [HV.out]; exact HOwn.out)
               refine (spend_any S _ p _ bt bo _ HD HL.out).mono ?_
               rintro e w5 ⟨rfl, H5, K5⟩
               have H5' := hide H5
               have K5' := hide K5
               clear H5 K5 HD)
  go_ret
  refine ⟨rfl, ⟨_, _, _, H5'.out⟩, ?_⟩
  exact (((((HK0.out.mono fun _ f => f.elim).more (HD1.out.2.2.2.mono fun i e => e.elim (fun e => e ▸ H.out.sp) fun e => e ▸ H.out.st)).more (Keep.drew _ _)).more (HKc.out.mono fun i e => H.out.own k i (by unfold St.held; rw [HT.out]; simp) (by rw [HV.out]; exact e))).more (K3.out.mono fun i e => e ▸ H.out.so)).more (K5'.out.mono fun i e => e ▸ H.out.sp)

set_option maxRecDepth 10000 in
set_option maxHeartbeats 4000000 in
theorem remove_same (S : Nat → Prop) (w : World) (p : Nat) (s : St) (bt bo : Nat) (val : Int → Value) (k : Int) (l : List Nat) (h : DIn S w p s bt bo val) (h1 : -9223372036854775808 ≤ k) (h2 : k ≤ 9223372036854775807) (hS : ∀ i, w.heap.size ≤ i → S i)
    (hd : s.down = false) (ht : s.there k = some l) (hs : s.safe k = some l) (hu : 64 + l.length ≤ s.used) (hb : s.used < 1152921504606846976) (hlf : ∀ n, s.left = some n → n ≤ 9223372036854775807) (hsg : Segs (fun k => pastOf (s.there k) (s.safe k) (val k))) :
    Calls Try.prog 31 #[.pointer (some ⟨p, 0, none⟩), .int .i64 k] w (Did S w p ({ s with there := upd s.there k none, used := s.used - (64 + l.length) } : St).spend) := by
  have c3 := h.c3
  have hl2 := (h.mo.look mapO zeroP h1 h2 0).1
  rw [show w.drewN 0 = w from rfl] at hl2
  have hpre : l.length ≤ l.length ∧ l.take l.length = l := ⟨Nat.le_refl _, List.take_length⟩
  simp only [ht, hs, pastOf_none, Option.getD_none, Option.isSome_none] at hl2
  have hfv : foundV s val k = val k := by simp [foundV, hd, ht]
  have hfc : s.find k = 0 := by simp [St.find, hd, ht]
  have HF := hide (find_any S w p s bt bo val k h h1 h2)
  rw [hfv, hfc] at HF
  obtain ⟨W0, hW0⟩ : ∃ W0, W0 = w.alloc (.cells #[.bool true, .int .i64 (l.length : Nat), .slice none 0 0] 71) := ⟨_, rfl⟩
  have hk0 : Keep (fun _ => False) w W0 := by rw [hW0]; exact Keep.alloc _ _ _
  have H0 := hide (h.stay hk0 fun _ _ _ f => f)
  have HDr := hide (drop_any S _ p s bt bo val k l H0.out h1 h2 ht hu hb)
  have hne1 : w.heap.size ≠ p := fun e => by have := (Array.getElem?_eq_some_iff.1 h.blk).1; omega
  have hne2 : w.heap.size ≠ bt := fun e => by have := h.mt.lt; omega
  have hne3 : w.heap.size ≠ bo := fun e => by have := h.mo.lt; omega
  obtain ⟨a0, a1, _⟩ := alloc3_cells hW0
  rw [hW0] at a0 a1 HDr
  have hhe : s.held k = some l := by unfold St.held; rw [ht]
  obtain ⟨av, cv, hv⟩ := ownsRow_shape (h.row k l hhe).1
  have HG : Hid (∀ g, (Value.slice av l.length cv).ownBlock = some g → g ≠ p ∧ g ≠ bt ∧ g ≠ bo ∧ g ≠ w.heap.size) := fun g e => by
    rw [← hv] at e
    obtain ⟨g1, g2, g3⟩ := h.gne hhe e
    refine ⟨g1, g2, g3, fun e' => ?_⟩
    have := ((h.row k l hhe).1.lt g e).2
    omega
  rw [hv] at HF
  have HV := hide hv
  have HRw := hide (H0.out.row k l hhe)
  have H := hide h
  have HK0 := hide hk0
  have HW0 := hide hW0
  have HS := hide hs
  have HT := hide ht
  have HSS := hide hS
  have HL := hide hlf
  have HPre := hide hpre
  have HSg := hide hsg
  clear h hS hd ht hs hu hb hlf hfv hfc hk0 hv hpre hW0 hsg hhe
  go_enter Try.func31, Try.ntmps31
  go_wp2_with (first
    | (go_at_call 49; refine HF.out.mono ?_; rintro e w' ⟨rfl, rfl⟩)
    | (go_at_call 52
       refine HDr.out.mono ?_
       rintro e w1 hdr
       obtain rfl := hdr.1
       rw [← HW0.out] at hdr a0 a1
       have HD1 := hide hdr
       have b0 := hdr.2.2.2.cell a0 (fun e => e.elim hne1 hne2)
       have b1 := hide (hdr.2.2.2.cell a1 (fun e => e.elim hne1 hne2))
       have C3 : Hid (w1.cell? ⟨p, 3, none⟩ = some (.map (some bo))) := cell_blk hdr.2.1 3 rfl
       have M1 := hide (H0.out.mo.keep hdr.2.2.2 fun e => e.elim (fun e => H.out.po e.symm) fun e => H.out.ne e.symm)
       have R1 := hide (HRw.out.keep hdr.2.2.2 fun g e e' => by rw [HV.out] at e; exact e'.elim (HG.out g e).1 (HG.out g e).2.1)
       clear hdr))
  have C3d : Hid (w1.drew.cell? ⟨p, 3, none⟩ = some (.map (some bo))) := C3.out
  have B1d : Hid (w1.drew.cell? ⟨w'.heap.size, 1, none⟩ = some (.int .i64 (l.length : Nat))) := b1.out
  have R1d : Hid (Row w1.drew (.slice av l.length cv) l) := by rw [← HV.out]; exact R1.out.keep (Keep.drew (fun _ => False) _) fun _ _ f => f
  go_region_held3 (fun wx => wx.cell? ⟨p, 3, none⟩ = some (.map (some bo)) ∧ wx.cell? ⟨w'.heap.size, 1, none⟩ = some (.int .i64 (l.length : Nat))) (first | (exact ⟨C3d.out, B1d.out⟩) | (exact ⟨HKc.out.cell C3d.out fun e => (HG.out p e).1 rfl, HKc.out.cell B1d.out fun e => (HG.out _ e).2.2.2 rfl⟩) | (exact ⟨K3.out.cell (HKc.out.cell C3d.out fun e => (HG.out p e).1 rfl) fun e => H.out.po e, K3.out.cell (HKc.out.cell B1d.out fun e => (HG.out _ e).2.2.2 rfl) fun e => hne3 e⟩) | go_keep)
    ((go_at_call 53
      refine (cut_any (.slice av l.length cv) l l.length w1.drew R1d.out HPre.out.1).mono ?_
      rintro e W1 ⟨v', rfl, hrow, hkp, hown⟩
      rw [HPre.out.2] at hrow
      obtain ⟨w3, hst, m3, k3, z3⟩ := ((M1.out.of_blk (w' := w1.drew) rfl).keep hkp fun e => (HG.out bo e).2.2.1 rfl).store mapO h1 h2 HSg.out (.agg #[.bool true, .int .i64 0, v'])
      obtain ⟨va, vn, vc, hvs⟩ : ∃ va vn vc, v' = .slice va vn vc := by obtain ⟨x, y, e⟩ := ownsRow_shape hrow.1; exact ⟨x, _, y, e⟩
      subst hvs
      have M3 := hide m3
      have K3 := hide k3
      have HRow1 := hide hrow
      have HKc := hide hkp
      have HOwn := hide hown
      clear m3 k3 hrow hown z3 hkp))
  go_wp2_with (go_at_call 48
               have HD := H.out.removed (w2 := W1) (k := k) HSS.out HT.out HK0.out HD1.out (.slice va vn vc) ((Keep.drew _ _).more (HKc.out.mono fun i e => by rw [HV.out]; exact e)) K3.out (by rw [HS.out]; exact M3.out) (fun m' e => by rw [HS.out] at e; injection e with e; rw [← e]; exact HRow1.out) (by rw [HV.out]; exact HOwn.out)
               refine (spend_any S _ p _ bt bo _ HD HL.out).mono ?_
               rintro e w5 ⟨rfl, H5, K5⟩
               have H5' := hide H5
               have K5' := hide K5
               clear H5 K5 HD)
  go_ret
  refine ⟨rfl, ⟨_, _, _, H5'.out⟩, ?_⟩
  exact (((((HK0.out.mono fun _ f => f.elim).more (HD1.out.2.2.2.mono fun i e => e.elim (fun e => e ▸ H.out.sp) fun e => e ▸ H.out.st)).more (Keep.drew _ _)).more (HKc.out.mono fun i e => H.out.own k i (by unfold St.held; rw [HT.out]; simp) (by rw [HV.out]; exact e))).more (K3.out.mono fun i e => e ▸ H.out.so)).more (K5'.out.mono fun i e => e ▸ H.out.sp)

set_option maxRecDepth 10000 in
theorem remove_no (S : Nat → Prop) (w : World) (p : Nat) (s : St) (bt bo : Nat) (val : Int → Value) (k : Int) (h : DIn S w p s bt bo val) (h1 : -9223372036854775808 ≤ k) (h2 : k ≤ 9223372036854775807) (h0 : s.find k ≠ 0) :
    Calls Try.prog 31 #[.pointer (some ⟨p, 0, none⟩), .int .i64 k] w (Did S w p (s.find k, s)) := by
  have HF := hide (find_any S w p s bt bo val k h h1 h2)
  have H := hide h
  generalize foundV s val k = fv at HF
  generalize s.find k = fc at HF h0 ⊢
  clear h
  go_enter Try.func31, Try.ntmps31
  go_wp2_with (go_at_call 49; refine HF.out.mono ?_; rintro e w1 ⟨rfl, rfl⟩)
  go_ret
  exact ⟨rfl, ⟨_, _, _, H.out⟩, Keep.refl _ _⟩

theorem Ok.there_le {s : St} (ok : Ok s) {k : Int} {l : List Nat} (ht : s.there k = some l) : 64 + l.length ≤ s.used := by
  have hsg := ok.seg k (by unfold St.held; rw [ht]; simp)
  have := tot_le s.there hsg.1 hsg.2
  rw [ht, ← ok.tot] at this
  exact this

theorem remove_any (S : Nat → Prop) (w : World) (p : Nat) (s : St) (k : Int) (h : DAt S w p s) (ok : Ok s) (h1 : -9223372036854775808 ≤ k) (h2 : k ≤ 9223372036854775807) (hS : ∀ i, w.heap.size ≤ i → S i) :
    Calls Try.prog 31 #[.pointer (some ⟨p, 0, none⟩), .int .i64 k] w (Did S w p (s.remove k)) := by
  obtain ⟨bt, bo, val, h⟩ := h
  unfold St.remove
  by_cases hd : s.down = true
  · rw [if_pos hd]
    have := remove_no S w p s bt bo val k h h1 h2 (by simp [St.find, hd])
    rw [show s.find k = 56 by simp [St.find, hd]] at this
    exact this
  have hd' : s.down = false := by simpa using hd
  rw [if_neg hd]
  cases ht : s.there k with
  | none =>
    have := remove_no S w p s bt bo val k h h1 h2 (by simp [St.find, hd', ht])
    rw [show s.find k = 53 by simp [St.find, hd', ht]] at this
    exact this
  | some l =>
    show Calls _ _ _ _ (Did S w p ({ s with there := upd s.there k none, used := s.used - (64 + l.length) } : St).spend)
    have hle := ok.there_le ht
    cases hs : s.safe k with
    | none => exact remove_new S w p s bt bo val k l h h1 h2 hS hd' ht hs hle ok.big ok.left
    | some m =>
      by_cases hlm : l = m
      · subst hlm
        exact remove_same S w p s bt bo val k l h h1 h2 hS hd' ht hs hle ok.big ok.left (segO ok)
      · exact remove_grown S w p s bt bo val k l m h h1 h2 hS hd' ht hs hlm (ok.pre k l m ht hs) hle ok.big ok.left (segO ok)

end Go.Proofs.Ytilpidioengnbaa
