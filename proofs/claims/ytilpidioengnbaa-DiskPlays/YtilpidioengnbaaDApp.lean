/- Package disk: Append. -/
import Derived.Test.YtilpidioengnbaaDCre
namespace Go.Proofs.Ytilpidioengnbaa
open Go.RowKit Go.Lib

theorem Rd.stay' {w w' : World} {a : Option Addr} {n : Nat} {l : List Nat} {S : Nat → Prop} (h : Rd w a n l) (hk : Keep S w w') (hS : ∀ b off, a = some ⟨b, off, none⟩ → n ≠ 0 → ¬ S b) : Rd w' a n l := by
  by_cases h0 : n = 0
  · exact ⟨h.1, h.2.1, h.2.2.1, .inl h0⟩
  · exact h.stay hk fun b off e => hS b off e h0

/-- a disk in whose map of those open to loss one entry is new already -/
structure Mid (S : Nat → Prop) (w W : World) (p : Nat) (s : St) (bt bo : Nat) (val : Int → Value) (k : Int) (o : Option Value) : Prop where
  d : DIn S w p s bt bo val
  kp : Keep (fun i => i = bo) w W
  mo : MapIs W bo (upd (fun j => pastOf (s.there j) (s.safe j) (val j)) k o)

section
variable {S : Nat → Prop} {w W : World} {p : Nat} {s : St} {bt bo : Nat} {val : Int → Value} {k : Int} {o : Option Value}
theorem Mid.mt (h : Mid S w W p s bt bo val k o) : MapIs W bt (fun k => (s.there k).map fun _ => val k) := h.d.mt.keep h.kp h.d.ne
theorem Mid.blk (h : Mid S w W p s bt bo val k o) : W.heap[p]? = some (.cells (dcells s bt bo) 68 (0, 0)) := h.kp.blk h.d.blk h.d.po
theorem Mid.row (h : Mid S w W p s bt bo val k o) {j : Int} {l : List Nat} (hl : s.held j = some l) : Row W (val j) l := (h.d.row j l hl).keep h.kp fun _ hg e => (h.d.gne hl hg).2.2 e
theorem Mid.cell2 (h : Mid S w W p s bt bo val k o) : W.cell? ⟨p, 2, none⟩ = some (.map (some bt)) := cell_blk h.blk 2 rfl
theorem Mid.drew (h : Mid S w W p s bt bo val k o) : Mid S w W.drew p s bt bo val k o := ⟨h.d, h.kp.more (Keep.drew _ _), h.mo.of_blk rfl⟩
theorem Mid.of (h : DIn S w p s bt bo val) (hk : Keep (fun _ => False) w W) (ho : o = pastOf (s.there k) (s.safe k) (val k)) : Mid S w W p s bt bo val k o :=
  ⟨h, hk.mono fun _ f => f.elim, by rw [ho, upd_id (fun j => pastOf (s.there j) (s.safe j) (val j)) k]; exact h.mo.keep hk fun f => f⟩
end

/-- the disk behind lay and the store of what was laid -/
theorem Mid.laid {S : Nat → Prop} {w W W1 w2 : World} {p : Nat} {s s' : St} {bt bo : Nat} {val : Int → Value} {k : Int} {v' : Value} {l l' : List Nat} (hS : ∀ i, w.heap.size ≤ i → S i) (hl : s.there k = some l)
    (ht : s'.there = upd s.there k (some l')) (hs : s'.safe = s.safe)
    (h : Mid S w W p s bt bo val k (pastOf (some l') (s.safe k) (.slice none 0 0)))
    (hr : Row W1 v' l') (hk : Keep (fun i => (val k).ownBlock = some i) W W1) (hn : NewBlk W (val k) v') (m2 : MapIs w2 bt (upd (fun k => (s.there k).map fun _ => val k) k (some v'))) (k2 : Keep (fun i => i = bt) W1 w2)
    {w3 : World} (k3 : Keep (fun i => i = p) w2 w3) (hb : w3.heap[p]? = some (.cells (dcells s' bt bo) 68 (0, 0))) : DIn S w3 p s' bt bo (upd val k v') := by
  have hh : s.held k = some l := by unfold St.held; rw [hl]
  have hg : ∀ g, (val k).ownBlock = some g → g ≠ p ∧ g ≠ bt ∧ g ≠ bo := fun g e => h.d.gne hh e
  refine h.d.change hS k v' s' (fun j e => ⟨by rw [ht, upd_other _ _ e], by rw [hs]⟩) ?_ hb ?_ ?_ ?_ ?_
  · exact (((h.kp.mono fun i e => .inr (.inr (.inl e))).more (hk.mono fun i e => .inr (.inr (.inr ⟨e, by rw [hh]; simp⟩)))).more (k2.mono fun i e => .inr (.inl e))).more (k3.mono fun i e => .inl e)
  · rw [ht, upd_same]
    exact m2.keep k3 (fun e => h.d.pt e.symm)
  · rw [ht, upd_same, hs]
    have e : pastOf (some l') (s.safe k) v' = pastOf (some l') (s.safe k) (.slice none 0 0) := by
      unfold pastOf
      cases s.safe k <;> rfl
    rw [e]
    refine ((h.mo.keep hk fun e => ?_).keep k2 (fun e => h.d.ne e.symm)).keep k3 (fun e => h.d.po e.symm)
    exact (hg bo e).2.2 rfl
  · intro l0 h0
    have : l0 = l' := by
      unfold St.held at h0
      rw [ht, upd_same] at h0
      injection h0 with h0
      exact h0.symm
    subst this
    have hv : ∀ g, v'.ownBlock = some g → g ≠ p ∧ g ≠ bt := fun g e => by
      obtain ⟨cs, hc⟩ := row_blk hr e
      refine ⟨fun e' => ?_, fun e' => ?_⟩
      · have := hk.blk h.blk (fun e2 => (hg p e2).1 rfl)
        rw [← e', hc] at this
        simp at this
      · obtain ⟨es, c, hb'⟩ := (h.mt.keep hk fun e2 => (hg bt e2).2.1 rfl).blk
        rw [← e', hc] at hb'
        cases hb'
    exact (hr.keep k2 fun g e e' => (hv g e).2 e').keep k3 fun g e e' => (hv g e).1 e'
  · rcases hn with e | e
    · exact .inl ⟨e, by rw [hh]; simp⟩
    · exact .inr fun g hg => Nat.le_trans h.kp.size (e g hg)

set_option maxRecDepth 10000 in
set_option maxHeartbeats 2000000 in
theorem append_ok (S : Nat → Prop) (w : World) (p : Nat) (s : St) (bt bo : Nat) (val : Int → Value) (k : Int) (a : Option Addr) (n c : Nat) (b l : List Nat) (h : DIn S w p s bt bo val) (ok : Ok s) (h1 : -9223372036854775808 ≤ k) (h2 : k ≤ 9223372036854775807) (hS : ∀ i, w.heap.size ≤ i → S i)
    (hb : Rd w a n b) (hbS : ∀ g off, a = some ⟨g, off, none⟩ → n ≠ 0 → ¬ S g) (hd : s.down = false) (ht : s.there k = some l) (hr : n ≤ s.room) :
    Calls Try.prog 23 #[.pointer (some ⟨p, 0, none⟩), .int .i64 k, .slice a n c] w (Did S w p ({ s with there := upd s.there k (some (l ++ b)), used := s.used + n } : St).spend) := by
  have c3 := h.c3
  have hl2 := fun j => (h.mo.look mapO zeroP h1 h2 j).1
  obtain ⟨x, y, u, hsh, hu⟩ := pastOf_shape (some l) (s.safe k) (val k)
  have hu' : u = .slice none 0 0 := by
    rcases hu with rfl | ⟨rfl, e⟩
    · rfl
    · cases e
  subst hu'
  have hh : s.held k = some l := by unfold St.held; rw [ht]
  have hfv : foundV s val k = val k := by simp [foundV, hd, ht]
  have hfc : s.find k = 0 := by simp [St.find, hd, ht]
  have HF := hide (find_any S w p s bt bo val k h h1 h2)
  rw [hfv, hfc] at HF
  have HR := hide (room_any S w p s bt bo val h ok.cap ok.big)
  have hle : ¬ s.room < n := by omega
  have hle' : ¬ ((n : Int) > (s.room : Nat)) := by omega
  obtain ⟨av, cv, hv⟩ := ownsRow_shape (h.row k l hh).1
  rw [hv] at HF
  have HV := hide hv
  have HSg := hide (segT (val := val) ok)
  have HSo := hide (segO (val := val) ok)
  have hcap := ok.cap
  have hlen := ok.len k l hh
  have hbig := ok.big
  have hroom : n ≤ 67108864 := by unfold St.room at hr; omega
  have HLf := hide ok.left
  have HPre := hide (ok.pre k l)
  have HH := hide h
  have HB := hide hb
  have HBS := hide hbS
  have HSS := hide hS
  have HT := hide ht
  have HBN := hide hb.1
  have HHe := hide hh
  have HNE : Hid (∀ i, (Value.slice av l.length cv).ownBlock = some i → i ≠ p ∧ i ≠ bt ∧ i ≠ bo) := fun i e => h.gne hh (by rw [hv]; exact e)
  have hwu := wrap_id (n := (s.used : Int) + (n : Int)) (by omega) (by omega)
  clear hu hfv hfc hr hv ok hb hbS hS hd hh hcap hbig
  by_cases ho : some l = s.safe k
  · have hs0 : s.safe k = some l := ho.symm
    have hns : ¬ (some l ≠ s.safe k) := fun e => e ho
    simp only [ht, hsh, pastOf_isSome, decide_eq_false hns] at hl2
    by_cases hn0 : n = 0
    · have HM : Hid (pastOf (some (l ++ b)) (s.safe k) (.slice none 0 0) = pastOf (s.there k) (s.safe k) (val k)) := by
        show _ = _
        obtain rfl : b = [] := List.eq_nil_of_length_eq_zero (by have := HBN.out; omega)
        rw [ht, hs0, List.append_nil, pastOf_none, pastOf_none]
      have hn1 : ¬ ((n : Int) > 0) := by omega
      clear ho hsh h ht hs0 hns hn0
      go_enter Try.func23, Try.ntmps23
      go_wp2_with (first
        | (go_at_call 49; refine HF.out.mono ?_; rintro e w1 ⟨rfl, rfl⟩)
        | (go_at_call 47
           refine HR.out.mono ?_
           rintro e w2 ⟨rfl, j, hw2⟩
           have c3' : w2.cell? ⟨p, 3, none⟩ = some (.map (some bo)) := by rw [hw2]; exact c3
           have hl2' := hl2 j
           rw [← hw2] at hl2'
           have K2 : Hid (Keep (fun _ => False) w1 w2) := by rw [hw2]; exact ⟨rfl, rfl, rfl, Nat.le_refl _, fun _ _ _ => rfl⟩
           have H2 := hide (HH.out.stay K2.out fun _ _ _ f => f)
           clear hw2))
      generalize hW : w2.alloc (.cells #[.bool x, .int .i64 y, .slice none 0 0] 71) = W
      have kW : Keep (fun _ => False) w2 W := by rw [← hW]; exact Keep.alloc _ _ _
      have HMd := hide (Mid.of (k := k) HH.out (K2.out.more kW) HM.out).drew
      clear kW hW c3' hl2' hl2
      have HRow := hide (HMd.out.row HHe.out)
      rw [HV.out] at HRow
      have HRd : Hid (Rd W.drew a n b) := HB.out.stay' HMd.out.kp fun g off e h0 e' => HBS.out g off e h0 (e' ▸ HH.out.so)
      have HC2 := hide HMd.out.cell2
      go_region_held3 (fun w' => w'.cell? ⟨p, 2, none⟩ = some (.map (some bt))) (first | (exact HC2.out) | (exact hkp.cell HC2.out fun e => (HNE.out p e).1 rfl) | (exact K3.out.cell (hkp.cell HC2.out fun e => (HNE.out p e).1 rfl) fun e => HH.out.pt e) | go_keep)
        ((go_at_call 29
          refine (lay_any (.slice av l.length cv) l b a n c W.drew HRow.out HRd.out (by omega)).mono ?_
          rintro e W1 ⟨v', rfl, hrow, hkp, hnew⟩
          obtain ⟨w3, hst, m3, k3, z3⟩ := (HMd.out.mt.keep hkp fun e => (HNE.out bt e).2.1 rfl).store mapT h1 h2 HSg.out v'
          have M3 := hide m3
          have K3 := hide k3
          have HRow1 := hide hrow
          have HKp := hide hkp
          have HNew := hide hnew
          clear m3 k3 hrow hnew z3))
      have B3 := hide (K3.out.blk (HKp.out.blk HMd.out.blk fun e => (HNE.out p e).1 rfl) fun e => HH.out.pt e)
      have c1' : w3.cell? ⟨p, 1, none⟩ = some (.int .i64 (s.used : Nat)) := cell_blk B3.out 1 rfl
      have f1' := frozen_blk B3.out 1
      go_wp2_with (go_at_call 48
                   have HD : DIn S (w3.setCell ⟨p, 1, none⟩ (.int .i64 ((s.used : Int) + (n : Int)))) p { s with there := upd s.there k (some (l ++ b)), used := s.used + n } bt bo (upd val k v') := by
                     refine Mid.laid (s' := { s with there := upd s.there k (some (l ++ b)), used := s.used + n }) HSS.out HT.out rfl rfl HMd.out HRow1.out (by rw [HV.out]; exact HKp.out) (by rw [HV.out]; exact HNew.out) M3.out K3.out (keep_cell w3 p 1 _) ?_
                     rw [set_blk B3.out 1 _]
                     simp [dcells]
                   refine (spend_any S _ p _ bt bo _ HD HLf.out).mono ?_
                   rintro e w5 ⟨rfl, H5, K5⟩
                   have H5' := hide H5
                   have K5' := hide K5
                   clear H5 K5 HD)
      go_ret
      refine ⟨rfl, ⟨_, _, _, H5'.out⟩, ?_⟩
      exact ((((HMd.out.kp.mono fun i e => e ▸ HH.out.so).more (HKp.out.mono fun i e => HH.out.own k i (by rw [HHe.out]; simp) (by rw [HV.out]; exact e))).more (K3.out.mono fun i e => e ▸ HH.out.st)).more ((keep_cell w3 p 1 _).mono fun i e => e ▸ HH.out.sp)).more (K5'.out.mono fun i e => e ▸ HH.out.sp)
    · have HM : Hid (pastOf (some (l ++ b)) (s.safe k) (.slice none 0 0) = some (.agg #[.bool true, .int .i64 (l.length : Nat), .slice none 0 0])) := by
        show _ = _
        unfold pastOf
        rw [hs0, if_neg]
        intro e
        injection e with e
        have h3 : l.length + b.length = l.length := by rw [← List.length_append, e]
        have := HBN.out
        omega
      have hn1 : (n : Int) > 0 := by omega
      clear ho hsh h ht hs0 hns hn0
      go_enter Try.func23, Try.ntmps23
      go_wp2_with (first
        | (go_at_call 49; refine HF.out.mono ?_; rintro e w1 ⟨rfl, rfl⟩)
        | (go_at_call 47
           refine HR.out.mono ?_
           rintro e w2 ⟨rfl, j, hw2⟩
           have c3' : w2.cell? ⟨p, 3, none⟩ = some (.map (some bo)) := by rw [hw2]; exact c3
           have hl2' := hl2 j
           rw [← hw2] at hl2'
           have K2 : Hid (Keep (fun _ => False) w1 w2) := by rw [hw2]; exact ⟨rfl, rfl, rfl, Nat.le_refl _, fun _ _ _ => rfl⟩
           have H2 := hide (HH.out.stay K2.out fun _ _ _ f => f)
           have c3'' := (Keep.alloc (fun _ => False) w2 (.cells #[.bool x, .int .i64 y, .slice none 0 0] 71)).cell c3' fun f => f
           clear hw2)
        | (at_mapUpdate
           refine wpList_store rfl _ _ _ 66 rfl 71 mapO bo _ k (.agg #[.bool true, .int .i64 (l.length : Nat), .slice none 0 0]) rfl rfl rfl ((H2.out.mo.keep (Keep.alloc (fun _ => False) _ _) fun f => f)) h1 h2 HSo.out ?_
           intro W m2 k2 _
           have HM2 := hide m2
           have HK2 := hide k2
           clear m2 k2))
      have HMd : Hid (Mid S w1 W.drew p s bt bo val k (pastOf (some (l ++ b)) (s.safe k) (.slice none 0 0))) := (Mid.drew ⟨HH.out, ((K2.out.more (Keep.alloc _ _ _)).mono fun _ f => f.elim).more HK2.out, by rw [HM.out]; exact HM2.out⟩)
      clear c3' hl2' hl2
      have HRow := hide (HMd.out.row HHe.out)
      rw [HV.out] at HRow
      have HRd : Hid (Rd W.drew a n b) := HB.out.stay' HMd.out.kp fun g off e h0 e' => HBS.out g off e h0 (e' ▸ HH.out.so)
      have HC2 := hide HMd.out.cell2
      go_region_held3 (fun w' => w'.cell? ⟨p, 2, none⟩ = some (.map (some bt))) (first | (exact HC2.out) | (exact hkp.cell HC2.out fun e => (HNE.out p e).1 rfl) | (exact K3.out.cell (hkp.cell HC2.out fun e => (HNE.out p e).1 rfl) fun e => HH.out.pt e) | go_keep)
        ((go_at_call 29
          refine (lay_any (.slice av l.length cv) l b a n c W.drew HRow.out HRd.out (by omega)).mono ?_
          rintro e W1 ⟨v', rfl, hrow, hkp, hnew⟩
          obtain ⟨w3, hst, m3, k3, z3⟩ := (HMd.out.mt.keep hkp fun e => (HNE.out bt e).2.1 rfl).store mapT h1 h2 HSg.out v'
          have M3 := hide m3
          have K3 := hide k3
          have HRow1 := hide hrow
          have HKp := hide hkp
          have HNew := hide hnew
          clear m3 k3 hrow hnew z3))
      have B3 := hide (K3.out.blk (HKp.out.blk HMd.out.blk fun e => (HNE.out p e).1 rfl) fun e => HH.out.pt e)
      have c1' : w3.cell? ⟨p, 1, none⟩ = some (.int .i64 (s.used : Nat)) := cell_blk B3.out 1 rfl
      have f1' := frozen_blk B3.out 1
      go_wp2_with (go_at_call 48
                   have HD : DIn S (w3.setCell ⟨p, 1, none⟩ (.int .i64 ((s.used : Int) + (n : Int)))) p { s with there := upd s.there k (some (l ++ b)), used := s.used + n } bt bo (upd val k v') := by
                     refine Mid.laid (s' := { s with there := upd s.there k (some (l ++ b)), used := s.used + n }) HSS.out HT.out rfl rfl HMd.out HRow1.out (by rw [HV.out]; exact HKp.out) (by rw [HV.out]; exact HNew.out) M3.out K3.out (keep_cell w3 p 1 _) ?_
                     rw [set_blk B3.out 1 _]
                     simp [dcells]
                   refine (spend_any S _ p _ bt bo _ HD HLf.out).mono ?_
                   rintro e w5 ⟨rfl, H5, K5⟩
                   have H5' := hide H5
                   have K5' := hide K5
                   clear H5 K5 HD)
      go_ret
      refine ⟨rfl, ⟨_, _, _, H5'.out⟩, ?_⟩
      exact ((((HMd.out.kp.mono fun i e => e ▸ HH.out.so).more (HKp.out.mono fun i e => HH.out.own k i (by rw [HHe.out]; simp) (by rw [HV.out]; exact e))).more (K3.out.mono fun i e => e ▸ HH.out.st)).more ((keep_cell w3 p 1 _).mono fun i e => e ▸ HH.out.sp)).more (K5'.out.mono fun i e => e ▸ HH.out.sp)
  · simp only [ht, hsh, pastOf_isSome, decide_eq_true ho] at hl2
    have HO := hide ho
    have HM : Hid (pastOf (some (l ++ b)) (s.safe k) (.slice none 0 0) = pastOf (s.there k) (s.safe k) (val k)) := by
      show _ = _
      rw [HT.out]
      unfold pastOf
      rw [if_neg ho]
      cases hs : s.safe k with
      | none => rfl
      | some m =>
        have := HPre.out m ht hs
        rw [if_neg]
        intro e
        injection e with e
        have h3 : m.length = l.length + b.length := by rw [← e, List.length_append]
        have h4 : m = l := by rw [← this.2, List.take_of_length_le (by omega)]
        exact ho (by rw [hs, h4])
    clear ho hsh h ht
    go_enter Try.func23, Try.ntmps23
    go_wp2_with (first
      | (go_at_call 49; refine HF.out.mono ?_; rintro e w1 ⟨rfl, rfl⟩)
      | (go_at_call 47
         refine HR.out.mono ?_
         rintro e w2 ⟨rfl, j, hw2⟩
         have c3' : w2.cell? ⟨p, 3, none⟩ = some (.map (some bo)) := by rw [hw2]; exact c3
         have hl2' := hl2 j
         rw [← hw2] at hl2'
         have K2 : Hid (Keep (fun _ => False) w1 w2) := by rw [hw2]; exact ⟨rfl, rfl, rfl, Nat.le_refl _, fun _ _ _ => rfl⟩
         have H2 := hide (HH.out.stay K2.out fun _ _ _ f => f)
         clear hw2))
    generalize hW : w2.alloc (.cells #[.bool x, .int .i64 y, .slice none 0 0] 71) = W
    have kW : Keep (fun _ => False) w2 W := by rw [← hW]; exact Keep.alloc _ _ _
    have HMd := hide (Mid.of (k := k) HH.out (K2.out.more kW) HM.out).drew
    clear kW hW c3' hl2' hl2
    have HRow := hide (HMd.out.row HHe.out)
    rw [HV.out] at HRow
    have HRd : Hid (Rd W.drew a n b) := HB.out.stay' HMd.out.kp fun g off e h0 e' => HBS.out g off e h0 (e' ▸ HH.out.so)
    have HC2 := hide HMd.out.cell2
    go_region_held3 (fun w' => w'.cell? ⟨p, 2, none⟩ = some (.map (some bt))) (first | (exact HC2.out) | (exact hkp.cell HC2.out fun e => (HNE.out p e).1 rfl) | (exact K3.out.cell (hkp.cell HC2.out fun e => (HNE.out p e).1 rfl) fun e => HH.out.pt e) | go_keep)
      ((go_at_call 29
        refine (lay_any (.slice av l.length cv) l b a n c W.drew HRow.out HRd.out (by omega)).mono ?_
        rintro e W1 ⟨v', rfl, hrow, hkp, hnew⟩
        obtain ⟨w3, hst, m3, k3, z3⟩ := (HMd.out.mt.keep hkp fun e => (HNE.out bt e).2.1 rfl).store mapT h1 h2 HSg.out v'
        have M3 := hide m3
        have K3 := hide k3
        have HRow1 := hide hrow
        have HKp := hide hkp
        have HNew := hide hnew
        clear m3 k3 hrow hnew z3))
    have B3 := hide (K3.out.blk (HKp.out.blk HMd.out.blk fun e => (HNE.out p e).1 rfl) fun e => HH.out.pt e)
    have c1' : w3.cell? ⟨p, 1, none⟩ = some (.int .i64 (s.used : Nat)) := cell_blk B3.out 1 rfl
    have f1' := frozen_blk B3.out 1
    go_wp2_with (go_at_call 48
                 have HD : DIn S (w3.setCell ⟨p, 1, none⟩ (.int .i64 ((s.used : Int) + (n : Int)))) p { s with there := upd s.there k (some (l ++ b)), used := s.used + n } bt bo (upd val k v') := by
                   refine Mid.laid (s' := { s with there := upd s.there k (some (l ++ b)), used := s.used + n }) HSS.out HT.out rfl rfl HMd.out HRow1.out (by rw [HV.out]; exact HKp.out) (by rw [HV.out]; exact HNew.out) M3.out K3.out (keep_cell w3 p 1 _) ?_
                   rw [set_blk B3.out 1 _]
                   simp [dcells]
                 refine (spend_any S _ p _ bt bo _ HD HLf.out).mono ?_
                 rintro e w5 ⟨rfl, H5, K5⟩
                 have H5' := hide H5
                 have K5' := hide K5
                 clear H5 K5 HD)
    go_ret
    refine ⟨rfl, ⟨_, _, _, H5'.out⟩, ?_⟩
    exact ((((HMd.out.kp.mono fun i e => e ▸ HH.out.so).more (HKp.out.mono fun i e => HH.out.own k i (by rw [HHe.out]; simp) (by rw [HV.out]; exact e))).more (K3.out.mono fun i e => e ▸ HH.out.st)).more ((keep_cell w3 p 1 _).mono fun i e => e ▸ HH.out.sp)).more (K5'.out.mono fun i e => e ▸ HH.out.sp)

set_option maxRecDepth 10000 in
set_option maxHeartbeats 1000000 in
theorem append_no (S : Nat → Prop) (w : World) (p : Nat) (s : St) (bt bo : Nat) (val : Int → Value) (k : Int) (a : Option Addr) (n c : Nat) (h : DIn S w p s bt bo val) (ok : Ok s) (h1 : -9223372036854775808 ≤ k) (h2 : k ≤ 9223372036854775807)
    (cd : Int) (hc : s.find k ≠ 0 ∧ cd = s.find k ∨ s.find k = 0 ∧ s.room < n ∧ cd = 54) :
    Calls Try.prog 23 #[.pointer (some ⟨p, 0, none⟩), .int .i64 k, .slice a n c] w (Did S w p (cd, s)) := by
  have HF := hide (find_any S w p s bt bo val k h h1 h2)
  have HR := hide (room_any S w p s bt bo val h ok.cap ok.big)
  have H := hide h
  generalize foundV s val k = fv at HF
  rcases hc with ⟨h0, rfl⟩ | ⟨h0, hr, rfl⟩
  · generalize s.find k = fc at HF h0 ⊢
    clear h ok
    go_enter Try.func23, Try.ntmps23
    go_wp2_with (go_at_call 49; refine HF.out.mono ?_; rintro e w1 ⟨rfl, rfl⟩)
    go_ret
    exact ⟨rfl, ⟨_, _, _, H.out⟩, Keep.refl _ _⟩
  · rw [h0] at HF
    have hr' : (n : Int) > (s.room : Nat) := by omega
    clear h ok h0
    go_enter Try.func23, Try.ntmps23
    go_wp2_with (first
      | (go_at_call 49; refine HF.out.mono ?_; rintro e w1 ⟨rfl, rfl⟩)
      | (go_at_call 47; refine HR.out.mono ?_; rintro e w2 ⟨rfl, j, rfl⟩))
    go_ret
    exact ⟨rfl, ⟨_, _, _, H.out.stay (T := fun _ => False) ⟨rfl, rfl, rfl, Nat.le_refl _, fun _ _ _ => rfl⟩ fun _ _ _ f => f⟩, ⟨rfl, rfl, rfl, Nat.le_refl _, fun _ _ _ => rfl⟩⟩

theorem append_any (S : Nat → Prop) (w : World) (p : Nat) (s : St) (k : Int) (a : Option Addr) (n c : Nat) (b : List Nat) (h : DAt S w p s) (ok : Ok s) (h1 : -9223372036854775808 ≤ k) (h2 : k ≤ 9223372036854775807) (hS : ∀ i, w.heap.size ≤ i → S i)
    (hb : Rd w a n b) (hbS : ∀ g off, a = some ⟨g, off, none⟩ → n ≠ 0 → ¬ S g) :
    Calls Try.prog 23 #[.pointer (some ⟨p, 0, none⟩), .int .i64 k, .slice a n c] w (Did S w p (s.append k b)) := by
  obtain ⟨bt, bo, val, h⟩ := h
  unfold St.append
  by_cases hd : s.down = true
  · rw [if_pos hd]
    exact append_no S w p s bt bo val k a n c h ok h1 h2 56 (.inl (by simp [St.find, hd]))
  have hd' : s.down = false := by simpa using hd
  rw [if_neg hd]
  cases ht : s.there k with
  | none => exact append_no S w p s bt bo val k a n c h ok h1 h2 53 (.inl (by simp [St.find, hd', ht]))
  | some l =>
    have hn := hb.1
    show Calls _ _ _ _ (Did S w p (if s.room < b.length then (54, s) else ({ s with there := upd s.there k (some (l ++ b)), used := s.used + b.length } : St).spend))
    by_cases hr : s.room < b.length
    · rw [if_pos hr]
      exact append_no S w p s bt bo val k a n c h ok h1 h2 54 (.inr ⟨by simp [St.find, hd', ht], by omega, rfl⟩)
    · rw [if_neg hr, ← hn]
      exact append_ok S w p s bt bo val k a n c b l h ok h1 h2 hS hb hbS hd' ht (by omega)

end Go.Proofs.Ytilpidioengnbaa
