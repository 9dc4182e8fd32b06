/- Codec: the document's SamePlan (written by cet_gen.py, its head out of GRfS.lean). -/
import Derived.Test.YtbjcckfhfbjchaaGreatCEs
import Derived.Deep.RegionHeld3
namespace Go.Proofs.YtbjcckfhfbjchaaGreat
namespace Cd
open Go.RowKit Go.Deep Gr

def AlkP (pm : ByteArray) (dl : Int) (xs : List No) (pm' : ByteArray) (dl' : Int) (ys : List No) : Prop := pm = pm' ∧ dl = dl' ∧ xs.length = ys.length ∧ ∀ (i : Nat) (x y : No), xs[i]? = some x → ys[i]? = some y → Alk x y
set_option maxRecDepth 100000 in
set_option maxHeartbeats 20000000 in
theorem plan12_any (pm : ByteArray) (dl : Int) (s : Option Addr × Nat × Nat) (xs : List No) (pm' : ByteArray) (dl' : Int) (s' : Option Addr × Nat × Nat) (ys : List No) (B C : Nat) (w : World) (hP : RdP B w s xs) (hQ : RdP C w s' ys) :
    Calls Tryz.prog 21 #[.agg #[.string pm, .int .i64 dl, .slice s.1 s.2.1 s.2.2], .agg #[.string pm', .int .i64 dl', .slice s'.1 s'.2.1 s'.2.2]] w fun e w' => SmE (AlkP pm dl xs pm' dl' ys) e ∧ Keep (fun _ => False) w w' := by
  obtain ⟨a, n, c⟩ := s
  obtain ⟨a', n', c'⟩ := s'
  have HN : Hid (n = xs.length) := hP.1
  have HN' : Hid (n' = ys.length) := hQ.1
  have hnb : n ≤ 1172812402926 := hP.2.1
  have HAF : Hid (¬ AlkP pm dl xs pm' dl' ys → (false = true ↔ AlkP pm dl xs pm' dl' ys)) := fun h => ⟨fun e => (by cases e), fun e => absurd e h⟩
  have K1 := Keep.alloc (fun _ => False) w (.cells #[.string pm, .int .i64 dl, .slice a n c] 30)
  have K2 := Keep.alloc (fun _ => False) (w.alloc (.cells #[.string pm, .int .i64 dl, .slice a n c] 30)) (.cells #[.string pm', .int .i64 dl', .slice a' n' c'] 30)
  have hs1 : (w.alloc (.cells #[.string pm, .int .i64 dl, .slice a n c] 30)).heap.size = w.heap.size + 1 := by simp
  have hb1 := K2.blk (heap_alloc_new w (.cells #[.string pm, .int .i64 dl, .slice a n c] 30)) (fun f => f)
  have hb2 := heap_alloc_new (w.alloc (.cells #[.string pm, .int .i64 dl, .slice a n c] 30)) (.cells #[.string pm', .int .i64 dl', .slice a' n' c'] 30)
  rw [hs1] at hb2
  have KW := hide (K1.more K2)
  have HB1 := hide hb1
  have HB2 := hide hb2
  have HP := hide hP
  have HQ := hide hQ
  clear K1 K2 hb1 hb2 hs1 hP hQ
  go_enter Tryz.func21, Tryz.ntmps21
  go_upto_region 1 with fail
  generalize (w.alloc (.cells #[.string pm, .int .i64 dl, .slice a n c] 30)).alloc (.cells #[.string pm', .int .i64 dl', .slice a' n' c'] 30) = w2 at *
  generalize w.heap.size = N at *
  have HM : Hid (∀ W, Keep (fun _ => False) w2 W → (W.cell? ⟨N, 0, none⟩ = some (.string pm) ∧ W.cell? ⟨N, 1, none⟩ = some (.int .i64 dl) ∧ W.cell? ⟨N, 2, none⟩ = some (.slice a n c) ∧ W.cell? ⟨N + 1, 0, none⟩ = some (.string pm') ∧ W.cell? ⟨N + 1, 1, none⟩ = some (.int .i64 dl') ∧ W.cell? ⟨N + 1, 2, none⟩ = some (.slice a' n' c')) ∧ RdP B W (a, n, c) xs ∧ RdP C W (a', n', c') ys ∧ Keep (fun _ => False) w W) := fun W k =>
    ⟨⟨cell_blk (k.blk HB1.out (fun h => h)) 0 rfl, cell_blk (k.blk HB1.out (fun h => h)) 1 rfl, cell_blk (k.blk HB1.out (fun h => h)) 2 rfl, cell_blk (k.blk HB2.out (fun h => h)) 0 rfl, cell_blk (k.blk HB2.out (fun h => h)) 1 rfl, cell_blk (k.blk HB2.out (fun h => h)) 2 rfl⟩, HP.out.new (KW.out.more k), HQ.out.new (KW.out.more k), KW.out.more k⟩
  clear HP HQ KW HB1 HB2
  obtain ⟨⟨c0, c1, c2, c3, c4, c5⟩, _, _, kf⟩ := HM.out w2 (Keep.refl _ _)
  have KF := hide kf
  clear kf
  by_cases d0 : pm = pm'
  case neg =>
    have d0' := bytes_ne d0
    have HA0 := hide (HAF.out fun h => d0 h.1)
    clear d0
    go_wp2_with fail
    go_ret
    exact ⟨⟨false, rfl, HA0.out⟩, KF.out⟩
  subst d0
  by_cases d1 : dl = dl'
  case neg =>
    have d1' : (dl != dl') = true := by simpa using d1
    have HA0 := hide (HAF.out fun h => d1 h.2.1)
    clear d1
    go_wp2_with fail
    go_ret
    exact ⟨⟨false, rfl, HA0.out⟩, KF.out⟩
  subst d1
  by_cases d2 : n = n'
  case neg =>
    have d2' : ((n : Int) != (n' : Int)) = true := by simp; omega
    have HA0 := hide (HAF.out fun h => d2 (by rw [HN.out, HN'.out]; exact h.2.2.1))
    clear d2
    go_wp2_with fail
    go_ret
    exact ⟨⟨false, rfl, HA0.out⟩, KF.out⟩
  subst d2
  clear KF
  go_wp2_with fail
  clear c0 c1 c2 c3 c4 c5
  go_loopw [5] (fun iv wr => ∃ i : Nat, iv = .int .i64 (i : Nat) ∧ i ≤ n ∧ Hid (Keep (fun _ => False) w2 wr ∧ ∀ (j : Nat) (x y : No), j < i → xs[j]? = some x → ys[j]? = some y → Alk x y)) (fun iv _ => n - (intOf iv).toNat)
  case atStart => exact ⟨0, rfl, Nat.zero_le _, Keep.refl _ _, fun j x y h => absurd h (Nat.not_lt_zero _)⟩
  case round =>
    obtain ⟨i, rfl, hi, HD⟩ := hrel
    obtain ⟨⟨c0, c1, c2, c3, c4, c5⟩, hp, hq, kf⟩ := HM.out wr HD.out.1
    by_cases hlt : i < n
    · obtain ⟨g, off, x, ha, hg, hx, hnd, hz1, hz2⟩ := hp.at (i := i) hlt
      obtain ⟨g', off', y, ha', hg', hy, hnd', hz1', hz2'⟩ := hq.at (i := i) hlt
      have ha : a = some ⟨g, off, none⟩ := ha
      have ha' : a' = some ⟨g', off', none⟩ := ha'
      subst ha
      subst ha'
      have HA1 : Hid (¬ Alk x y → (false = true ↔ AlkP pm dl xs pm dl ys)) := fun h => HAF.out fun e => h (e.2.2.2 i x y hx hy)
      have HA2 : Hid (Alk x y → ∀ (j : Nat) (u v : No), j < i + 1 → xs[j]? = some u → ys[j]? = some v → Alk u v) := fun h j u v hj hu hv => by
        by_cases e : j = i
        · subst e
          rw [hx] at hu
          rw [hy] at hv
          obtain rfl := Option.some.inj hu
          obtain rfl := Option.some.inj hv
          exact h
        · exact HD.out.2 j u v (by omega) hu hv
      have SN := hide (node12_any x y _ _ wr.drew ⟨hz1.new (Keep.drew _ _), hz2.new (Keep.drew _ _)⟩ ⟨hz1'.new (Keep.drew _ _), hz2'.new (Keep.drew _ _)⟩)
      obtain ⟨⟨nm, la, bu, cl, be, ba, ca, ji, ⟨ne1, ne2, ne3⟩, ⟨af1, af2, af3⟩⟩, nl, al⟩ := x
      obtain ⟨⟨nm', la', bu', cl', be', ba', ca', ji', ⟨ne1', ne2', ne3'⟩, ⟨af1', af2', af3'⟩⟩, nl', al'⟩ := y
      have SN2 : Hid (Calls Tryz.prog 38 #[.agg #[.string nm, .int .i64 la, .int .i64 bu, .int .i64 cl, .int .i64 be, .int .i64 ba, .int .i64 ca, .int .i64 ji, .slice ne1 ne2 ne3, .slice af1 af2 af3], .agg #[.string nm', .int .i64 la', .int .i64 bu', .int .i64 cl', .int .i64 be', .int .i64 ba', .int .i64 ca', .int .i64 ji', .slice ne1' ne2' ne3', .slice af1' af2' af3']] wr.drew fun e w' => SmE (Alk ⟨⟨nm, la, bu, cl, be, ba, ca, ji, ⟨ne1, ne2, ne3⟩, ⟨af1, af2, af3⟩⟩, nl, al⟩ ⟨⟨nm', la', bu', cl', be', ba', ca', ji', ⟨ne1', ne2', ne3'⟩, ⟨af1', af2', af3'⟩⟩, nl', al'⟩) e ∧ Keep (fun _ => False) wr.drew w') := SN.out
      generalize Alk ⟨⟨nm, la, bu, cl, be, ba, ca, ji, ⟨ne1, ne2, ne3⟩, ⟨af1, af2, af3⟩⟩, nl, al⟩ ⟨⟨nm', la', bu', cl', be', ba', ca', ji', ⟨ne1', ne2', ne3'⟩, ⟨af1', af2', af3'⟩⟩, nl', al'⟩ = Q at *
      have HND := hide hnd
      have HND' := hide hnd'
      have hn := hnd.all
      have hn' := hnd'.all
      simp only at hn hn'
      have HSW : Hid (∀ wx, Keep (fun _ => False) wr wx → (wx.cell? ⟨N, 2, none⟩ = some (.slice (some ⟨g, off, none⟩) n c) ∧ wx.cell? ⟨N + 1, 2, none⟩ = some (.slice (some ⟨g', off', none⟩) n c')) ∧ (wx.cell? ⟨g, off + i * 10, none⟩ = some (.string nm) ∧ wx.cell? ⟨g, off + i * 10 + 1, none⟩ = some (.int .i64 la) ∧ wx.cell? ⟨g, off + i * 10 + 2, none⟩ = some (.int .i64 bu) ∧ wx.cell? ⟨g, off + i * 10 + 3, none⟩ = some (.int .i64 cl) ∧ wx.cell? ⟨g, off + i * 10 + 4, none⟩ = some (.int .i64 be) ∧ wx.cell? ⟨g, off + i * 10 + 5, none⟩ = some (.int .i64 ba) ∧ wx.cell? ⟨g, off + i * 10 + 6, none⟩ = some (.int .i64 ca) ∧ wx.cell? ⟨g, off + i * 10 + 7, none⟩ = some (.int .i64 ji) ∧ wx.cell? ⟨g, off + i * 10 + 8, none⟩ = some (.slice ne1 ne2 ne3) ∧ wx.cell? ⟨g, off + i * 10 + 9, none⟩ = some (.slice af1 af2 af3)) ∧ wx.cell? ⟨g', off' + i * 10, none⟩ = some (.string nm') ∧ wx.cell? ⟨g', off' + i * 10 + 1, none⟩ = some (.int .i64 la') ∧ wx.cell? ⟨g', off' + i * 10 + 2, none⟩ = some (.int .i64 bu') ∧ wx.cell? ⟨g', off' + i * 10 + 3, none⟩ = some (.int .i64 cl') ∧ wx.cell? ⟨g', off' + i * 10 + 4, none⟩ = some (.int .i64 be') ∧ wx.cell? ⟨g', off' + i * 10 + 5, none⟩ = some (.int .i64 ba') ∧ wx.cell? ⟨g', off' + i * 10 + 6, none⟩ = some (.int .i64 ca') ∧ wx.cell? ⟨g', off' + i * 10 + 7, none⟩ = some (.int .i64 ji') ∧ wx.cell? ⟨g', off' + i * 10 + 8, none⟩ = some (.slice ne1' ne2' ne3') ∧ wx.cell? ⟨g', off' + i * 10 + 9, none⟩ = some (.slice af1' af2' af3')) := fun wx k => by
        have a1 := (HND.out.keep k (fun f => f)).all
        have a2 := (HND'.out.keep k (fun f => f)).all
        simp only at a1 a2
        exact ⟨⟨k.cell c2 (fun f => f), k.cell c5 (fun f => f)⟩, a1, a2⟩
      have HW := hide HD.out
      clear SN hx hy hnd hnd' hz1 hz2 hz1' hz2' hp hq kf HD HND HND' hn hn'
      have HS0 := hide (HSW.out wr (Keep.refl _ _))
      obtain ⟨⟨c2, c5⟩, ⟨n0, n1, n2, n3, n4, n5, n6, n7, n8, n9⟩, m0, m1, m2, m3, m4, m5, m6, m7, m8, m9⟩ := HSW.out wr (Keep.refl _ _)
      go_upto_region 6 with fail
      go_region_held3 (fun wx => (wx.cell? ⟨N, 2, none⟩ = some (.slice (some ⟨g, off, none⟩) n c) ∧ wx.cell? ⟨N + 1, 2, none⟩ = some (.slice (some ⟨g', off', none⟩) n c')) ∧ (wx.cell? ⟨g, off + i * 10, none⟩ = some (.string nm) ∧ wx.cell? ⟨g, off + i * 10 + 1, none⟩ = some (.int .i64 la) ∧ wx.cell? ⟨g, off + i * 10 + 2, none⟩ = some (.int .i64 bu) ∧ wx.cell? ⟨g, off + i * 10 + 3, none⟩ = some (.int .i64 cl) ∧ wx.cell? ⟨g, off + i * 10 + 4, none⟩ = some (.int .i64 be) ∧ wx.cell? ⟨g, off + i * 10 + 5, none⟩ = some (.int .i64 ba) ∧ wx.cell? ⟨g, off + i * 10 + 6, none⟩ = some (.int .i64 ca) ∧ wx.cell? ⟨g, off + i * 10 + 7, none⟩ = some (.int .i64 ji) ∧ wx.cell? ⟨g, off + i * 10 + 8, none⟩ = some (.slice ne1 ne2 ne3) ∧ wx.cell? ⟨g, off + i * 10 + 9, none⟩ = some (.slice af1 af2 af3)) ∧ wx.cell? ⟨g', off' + i * 10, none⟩ = some (.string nm') ∧ wx.cell? ⟨g', off' + i * 10 + 1, none⟩ = some (.int .i64 la') ∧ wx.cell? ⟨g', off' + i * 10 + 2, none⟩ = some (.int .i64 bu') ∧ wx.cell? ⟨g', off' + i * 10 + 3, none⟩ = some (.int .i64 cl') ∧ wx.cell? ⟨g', off' + i * 10 + 4, none⟩ = some (.int .i64 be') ∧ wx.cell? ⟨g', off' + i * 10 + 5, none⟩ = some (.int .i64 ba') ∧ wx.cell? ⟨g', off' + i * 10 + 6, none⟩ = some (.int .i64 ca') ∧ wx.cell? ⟨g', off' + i * 10 + 7, none⟩ = some (.int .i64 ji') ∧ wx.cell? ⟨g', off' + i * 10 + 8, none⟩ = some (.slice ne1' ne2' ne3') ∧ wx.cell? ⟨g', off' + i * 10 + 9, none⟩ = some (.slice af1' af2' af3')) (first | (exact HS0.out) | (exact HS4.out) | go_keep) (first
        | (go_at_call 38; refine SN2.out.mono ?_; rintro e w4 ⟨⟨r, rfl, hr⟩, k4⟩; have HRQ := hide hr; have K4 := hide ((Keep.drew (fun _ => False) wr).more k4); have HS4 := hide (HSW.out w4 K4.out); clear hr k4 SN2))
      cases r
      case false =>
        have HA0 := hide (HA1.out fun h => by have := HRQ.out.2 h; cases this)
        have KF := hide (HM.out w4 (HW.out.1.more K4.out)).2.2.2
        clear HA1 HA2 HRQ
        go_wp2_with fail
        go_ret
        exact ⟨⟨false, rfl, HA0.out⟩, KF.out⟩
      case true =>
        have HA0 := hide (HA2.out (HRQ.out.1 rfl))
        have K7 := hide (HW.out.1.more K4.out)
        clear HA1 HA2 HRQ
        go_wp2_with fail
        go_roundw
        · exact ⟨i + 1, rfl, by omega, K7.out, HA0.out⟩
        · show n - ((i : Int) + 1).toNat < n - (i : Int).toNat
          omega
    · obtain rfl : i = n := by omega
      have HT : Hid (AlkP pm dl xs pm dl ys) := ⟨rfl, rfl, by rw [← HN.out, ← HN'.out], fun j x y hx hy => HD.out.2 j x y (by rw [HN.out]; exact (List.getElem?_eq_some_iff.1 hx).1) hx hy⟩
      have KF := hide kf
      clear hp hq kf HD
      go_wp2_with fail
      go_ret
      exact ⟨⟨true, rfl, fun _ => HT.out, fun _ => rfl⟩, KF.out⟩
end Cd
end Go.Proofs.YtbjcckfhfbjchaaGreat
