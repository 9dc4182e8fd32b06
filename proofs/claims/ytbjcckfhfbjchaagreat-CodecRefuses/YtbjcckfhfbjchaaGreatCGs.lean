/- Codec: the laws' alike (written by cgs_gen.py, its head out of CEt.lean). -/
import Derived.Test.YtbjcckfhfbjchaaGreatCEz
import Derived.Test.YtbjcckfhfbjchaaGreatCEt
import Derived.Test.YtbjcckfhfbjchaaGreatCGd
namespace Go.Proofs.YtbjcckfhfbjchaaGreat
namespace Cd
open Go.RowKit Go.Deep Gr

set_option maxRecDepth 100000 in
set_option maxHeartbeats 20000000 in
theorem alike12_any (pm : ByteArray) (dl : Int) (s : Option Addr × Nat × Nat) (xs : List No) (pm' : ByteArray) (dl' : Int) (s' : Option Addr × Nat × Nat) (ys : List No) (B C : Nat) (w : World) (hP : RdP B w s xs) (hQ : RdP C w s' ys) :
    Calls Tryz.prog 17 #[.agg #[.string pm, .int .i64 dl, .slice s.1 s.2.1 s.2.2], .agg #[.string pm', .int .i64 dl', .slice s'.1 s'.2.1 s'.2.2]] w fun e w' => SmE (AlkP pm dl xs pm' dl' ys) e ∧ Keep (fun _ => False) w w' := by
  obtain ⟨a, n, c⟩ := s
  obtain ⟨a', n', c'⟩ := s'
  have HN : Hid (n = xs.length) := hP.1
  have HN' : Hid (n' = ys.length) := hQ.1
  have hnb : n ≤ 1172812402926 := hP.2.1
  have HAF : Hid (¬ AlkP pm dl xs pm' dl' ys → (false = true ↔ AlkP pm dl xs pm' dl' ys)) := fun h => ⟨fun e => (by cases e), fun e => absurd e h⟩
  have K1 := Keep.alloc (fun _ => False) w (.cells #[.string pm, .int .i64 dl, .slice a n c] 30)
  have K2 := Keep.alloc (fun _ => False) (w.alloc (.cells #[.string pm, .int .i64 dl, .slice a n c] 30)) (.cells #[.string pm', .int .i64 dl', .slice a' n' c'] 30)
  have hs1 : (w.alloc (.cells #[.string pm, .int .i64 dl, .slice a n c] 30)).heap.size = w.heap.size + 1 := by simp
  have hb1 := K2.blk (heap_alloc_new w (.cells #[.string pm, .int .i64 dl, .slice a n c] 30)) (fun f => f)
  have hb2 := heap_alloc_new (w.alloc (.cells #[.string pm, .int .i64 dl, .slice a n c] 30)) (.cells #[.string pm', .int .i64 dl', .slice a' n' c'] 30)
  rw [hs1] at hb2
  have KW := hide (K1.more K2)
  have HB1 := hide hb1
  have HB2 := hide hb2
  have HP := hide hP
  have HQ := hide hQ
  clear K1 K2 hb1 hb2 hs1 hP hQ
  go_enter Tryz.func17, Tryz.ntmps17
  go_upto_region 1 with fail
  generalize (w.alloc (.cells #[.string pm, .int .i64 dl, .slice a n c] 30)).alloc (.cells #[.string pm', .int .i64 dl', .slice a' n' c'] 30) = w2 at *
  generalize w.heap.size = N at *
  have HM : Hid (∀ W, Keep (fun _ => False) w2 W → (W.cell? ⟨N, 0, none⟩ = some (.string pm) ∧ W.cell? ⟨N, 1, none⟩ = some (.int .i64 dl) ∧ W.cell? ⟨N, 2, none⟩ = some (.slice a n c) ∧ W.cell? ⟨N + 1, 0, none⟩ = some (.string pm') ∧ W.cell? ⟨N + 1, 1, none⟩ = some (.int .i64 dl') ∧ W.cell? ⟨N + 1, 2, none⟩ = some (.slice a' n' c')) ∧ RdP B W (a, n, c) xs ∧ RdP C W (a', n', c') ys ∧ Keep (fun _ => False) w W) := fun W k =>
    ⟨⟨cell_blk (k.blk HB1.out (fun h => h)) 0 rfl, cell_blk (k.blk HB1.out (fun h => h)) 1 rfl, cell_blk (k.blk HB1.out (fun h => h)) 2 rfl, cell_blk (k.blk HB2.out (fun h => h)) 0 rfl, cell_blk (k.blk HB2.out (fun h => h)) 1 rfl, cell_blk (k.blk HB2.out (fun h => h)) 2 rfl⟩, HP.out.new (KW.out.more k), HQ.out.new (KW.out.more k), KW.out.more k⟩
  clear HP HQ KW HB1 HB2
  obtain ⟨⟨c0, c1, c2, c3, c4, c5⟩, _, _, kf⟩ := HM.out w2 (Keep.refl _ _)
  have KF := hide kf
  clear kf
  by_cases d0 : pm = pm'
  case neg =>
    have d0' := bytes_ne d0
    have HA0 := hide (HAF.out fun h => d0 h.1)
    clear d0
    go_wp2_with fail
    go_ret
    exact ⟨⟨false, rfl, HA0.out⟩, KF.out⟩
  subst d0
  by_cases d1 : dl = dl'
  case neg =>
    have d1' : (dl != dl') = true := by simpa using d1
    have HA0 := hide (HAF.out fun h => d1 h.2.1)
    clear d1
    go_wp2_with fail
    go_ret
    exact ⟨⟨false, rfl, HA0.out⟩, KF.out⟩
  subst d1
  by_cases d2 : n = n'
  case neg =>
    have d2' : ((n : Int) != (n' : Int)) = true := by simp; omega
    have HA0 := hide (HAF.out fun h => d2 (by rw [HN.out, HN'.out]; exact h.2.2.1))
    clear d2
    go_wp2_with fail
    go_ret
    exact ⟨⟨false, rfl, HA0.out⟩, KF.out⟩
  subst d2
  clear KF
  go_wp2_with fail
  clear c0 c1 c2 c3 c4 c5
  go_loopw [5] (fun iv wr => ∃ i : Nat, iv = .int .i64 (i : Nat) ∧ i ≤ n ∧ Hid (Keep (fun _ => False) w2 wr ∧ ∀ (j : Nat) (x y : No), j < i → xs[j]? = some x → ys[j]? = some y → Alk x y)) (fun iv _ => n - (intOf iv).toNat)
  case atStart => exact ⟨0, rfl, Nat.zero_le _, Keep.refl _ _, fun j x y h => absurd h (Nat.not_lt_zero _)⟩
  case round =>
    obtain ⟨i, rfl, hi, HD⟩ := hrel
    obtain ⟨⟨c0, c1, c2, c3, c4, c5⟩, hp, hq, kf⟩ := HM.out wr HD.out.1
    by_cases hlt : i < n
    · obtain ⟨g, off, x, ha, hg, hx, hnd, hz1, hz2⟩ := hp.at (i := i) hlt
      obtain ⟨g', off', y, ha', hg', hy, hnd', hz1', hz2'⟩ := hq.at (i := i) hlt
      have ha : a = some ⟨g, off, none⟩ := ha
      have ha' : a' = some ⟨g', off', none⟩ := ha'
      subst ha
      subst ha'
      have HA1 : Hid (¬ Alk x y → (false = true ↔ AlkP pm dl xs pm dl ys)) := fun h => HAF.out fun e => h (e.2.2.2 i x y hx hy)
      have HA2 : Hid (Alk x y → ∀ (j : Nat) (u v : No), j < i + 1 → xs[j]? = some u → ys[j]? = some v → Alk u v) := fun h j u v hj hu hv => by
        by_cases e : j = i
        · subst e
          rw [hx] at hu
          rw [hy] at hv
          obtain rfl := Option.some.inj hu
          obtain rfl := Option.some.inj hv
          exact h
        · exact HD.out.2 j u v (by omega) hu hv
      obtain ⟨⟨nm, la, bu, cl, be, ba, ca, ji, ⟨ne1, ne2, ne3⟩, ⟨af1, af2, af3⟩⟩, nl, al⟩ := x
      obtain ⟨⟨nm', la', bu', cl', be', ba', ca', ji', ⟨ne1', ne2', ne3'⟩, ⟨af1', af2', af3'⟩⟩, nl', al'⟩ := y
      have hn := hnd.all
      have hn' := hnd'.all
      simp only at hn hn'
      obtain ⟨n0, n1, n2, n3, n4, n5, n6, n7, n8, n9⟩ := hn
      have HALK : Hid (Alk ⟨⟨nm, la, bu, cl, be, ba, ca, ji, ⟨ne1, ne2, ne3⟩, ⟨af1, af2, af3⟩⟩, nl, al⟩ ⟨⟨nm', la', bu', cl', be', ba', ca', ji', ⟨ne1', ne2', ne3'⟩, ⟨af1', af2', af3'⟩⟩, nl', al'⟩ ↔ nl = nl' ∧ al = al' ∧ nm = nm' ∧ la = la' ∧ bu = bu' ∧ cl = cl' ∧ be = be' ∧ ba = ba' ∧ ca = ca' ∧ ji = ji') := Iff.rfl
      generalize Alk ⟨⟨nm, la, bu, cl, be, ba, ca, ji, ⟨ne1, ne2, ne3⟩, ⟨af1, af2, af3⟩⟩, nl, al⟩ ⟨⟨nm', la', bu', cl', be', ba', ca', ji', ⟨ne1', ne2', ne3'⟩, ⟨af1', af2', af3'⟩⟩, nl', al'⟩ = P at *
      have K1 := Keep.alloc (fun _ => False) wr (.cells #[.string nm, .int .i64 la, .int .i64 bu, .int .i64 cl, .int .i64 be, .int .i64 ba, .int .i64 ca, .int .i64 ji, .slice ne1 ne2 ne3, .slice af1 af2 af3] 57)
      have hx1 := heap_alloc_new wr (.cells #[.string nm, .int .i64 la, .int .i64 bu, .int .i64 cl, .int .i64 be, .int .i64 ba, .int .i64 ca, .int .i64 ji, .slice ne1 ne2 ne3, .slice af1 af2 af3] 57)
      have HN2 := hide (hnd'.keep K1 (fun f => f))
      have HZ1 := hide (hz1.new K1)
      have HZ2 := hide (hz2.new K1)
      have HZ1' := hide (hz1'.new K1)
      have HZ2' := hide (hz2'.new K1)
      have HX1 := hide hx1
      have HW := hide HD.out.2
      have HKW := hide (HD.out.1.more K1)
      have HI : Hid ((Tryz.prog.info? 57).map (·.size) = some (#[.string nm, .int .i64 la, .int .i64 bu, .int .i64 cl, .int .i64 be, .int .i64 ba, .int .i64 ca, .int .i64 ji, .slice ne1 ne2 ne3, .slice af1 af2 af3] : Array Value).size) := sizeNd
      clear hx hy hnd hnd' hz1 hz2 hz1' hz2' hp hq kf HD K1 hx1 hn'
      go_upto_region 7 with fail
      generalize wr.alloc (.cells #[.string nm, .int .i64 la, .int .i64 bu, .int .i64 cl, .int .i64 be, .int .i64 ba, .int .i64 ca, .int .i64 ji, .slice ne1 ne2 ne3, .slice af1 af2 af3] 57) = w3 at *
      generalize wr.heap.size = B1 at *
      clear n0 n1 n2 n3 n4 n5 n6 n7 n8 n9
      obtain ⟨⟨_, _, c2, _, _, c5⟩, _, _, _⟩ := HM.out w3 HKW.out
      have hn := HN2.out.all
      simp only at hn
      obtain ⟨n0, n1, n2, n3, n4, n5, n6, n7, n8, n9⟩ := hn
      have K2 := Keep.alloc (fun _ => False) w3 (.cells #[.string nm', .int .i64 la', .int .i64 bu', .int .i64 cl', .int .i64 be', .int .i64 ba', .int .i64 ca', .int .i64 ji', .slice ne1' ne2' ne3', .slice af1' af2' af3'] 57)
      have HX2 := hide (heap_alloc_new w3 (.cells #[.string nm', .int .i64 la', .int .i64 bu', .int .i64 cl', .int .i64 be', .int .i64 ba', .int .i64 ca', .int .i64 ji', .slice ne1' ne2' ne3', .slice af1' af2' af3'] 57))
      have HX1b := hide (K2.blk HX1.out (fun f => f))
      have HKW2 := hide (HKW.out.more K2)
      have S1 := hide (lints12_any (ne1, ne2, ne3) (ne1', ne2', ne3') nl nl' _ _ _ (HZ1.out.new K2) (HZ1'.out.new K2))
      have S2 := hide (fun W k => lints12_any (af1, af2, af3) (af1', af2', af3') al al' _ _ W ((HZ2.out.new K2).new k) ((HZ2'.out.new K2).new k))
      clear K2 HZ1 HZ2 HZ1' HZ2' HX1 HKW HN2
      go_upto_region 8 with fail
      generalize w3.alloc (.cells #[.string nm', .int .i64 la', .int .i64 bu', .int .i64 cl', .int .i64 be', .int .i64 ba', .int .i64 ca', .int .i64 ji', .slice ne1' ne2' ne3', .slice af1' af2' af3'] 57) = w4 at *
      generalize w3.heap.size = B2 at *
      clear c2 c5 n0 n1 n2 n3 n4 n5 n6 n7 n8 n9
      have KF := hide (HM.out w4 HKW2.out).2.2.2
      have p0 := cell_blk HX1b.out 0 (v := .string nm) rfl
      have q0 := cell_blk HX2.out 0 (v := .string nm') rfl
      have p1 := cell_blk HX1b.out 1 (v := .int .i64 la) rfl
      have q1 := cell_blk HX2.out 1 (v := .int .i64 la') rfl
      have p2 := cell_blk HX1b.out 2 (v := .int .i64 bu) rfl
      have q2 := cell_blk HX2.out 2 (v := .int .i64 bu') rfl
      have p3 := cell_blk HX1b.out 3 (v := .int .i64 cl) rfl
      have q3 := cell_blk HX2.out 3 (v := .int .i64 cl') rfl
      have p4 := cell_blk HX1b.out 4 (v := .int .i64 be) rfl
      have q4 := cell_blk HX2.out 4 (v := .int .i64 be') rfl
      have p5 := cell_blk HX1b.out 5 (v := .int .i64 ba) rfl
      have q5 := cell_blk HX2.out 5 (v := .int .i64 ba') rfl
      have p6 := cell_blk HX1b.out 6 (v := .int .i64 ca) rfl
      have q6 := cell_blk HX2.out 6 (v := .int .i64 ca') rfl
      have p7 := cell_blk HX1b.out 7 (v := .int .i64 ji) rfl
      have q7 := cell_blk HX2.out 7 (v := .int .i64 ji') rfl
      have p8 := cell_blk HX1b.out 8 (v := .slice ne1 ne2 ne3) rfl
      have q8 := cell_blk HX2.out 8 (v := .slice ne1' ne2' ne3') rfl
      have p9 := cell_blk HX1b.out 9 (v := .slice af1 af2 af3) rfl
      have q9 := cell_blk HX2.out 9 (v := .slice af1' af2' af3') rfl
      by_cases d : nm = nm'
      case neg =>
        have d' := bytes_ne d
        have HA0 := hide (HA1.out fun g => d (by have h := HALK.out.1 g; exact h.2.2.1))
        clear d HA1 HA2
        go_wp2_with fail
        go_ret
        exact ⟨⟨false, rfl, HA0.out⟩, KF.out⟩
      subst d
      by_cases d : la = la'
      case neg =>
        have d' := (show (la != la') = true by simpa using d)
        have HA0 := hide (HA1.out fun g => d (by have h := HALK.out.1 g; exact h.2.2.2.1))
        clear d HA1 HA2
        go_wp2_with fail
        go_ret
        exact ⟨⟨false, rfl, HA0.out⟩, KF.out⟩
      subst d
      by_cases d : bu = bu'
      case neg =>
        have d' := (show (bu != bu') = true by simpa using d)
        have HA0 := hide (HA1.out fun g => d (by have h := HALK.out.1 g; exact h.2.2.2.2.1))
        clear d HA1 HA2
        go_wp2_with fail
        go_ret
        exact ⟨⟨false, rfl, HA0.out⟩, KF.out⟩
      subst d
      by_cases d : cl = cl'
      case neg =>
        have d' := (show (cl != cl') = true by simpa using d)
        have HA0 := hide (HA1.out fun g => d (by have h := HALK.out.1 g; exact h.2.2.2.2.2.1))
        clear d HA1 HA2
        go_wp2_with fail
        go_ret
        exact ⟨⟨false, rfl, HA0.out⟩, KF.out⟩
      subst d
      by_cases d : be = be'
      case neg =>
        have d' := (show (be != be') = true by simpa using d)
        have HA0 := hide (HA1.out fun g => d (by have h := HALK.out.1 g; exact h.2.2.2.2.2.2.1))
        clear d HA1 HA2
        go_wp2_with fail
        go_ret
        exact ⟨⟨false, rfl, HA0.out⟩, KF.out⟩
      subst d
      by_cases d : ba = ba'
      case neg =>
        have d' := (show (ba != ba') = true by simpa using d)
        have HA0 := hide (HA1.out fun g => d (by have h := HALK.out.1 g; exact h.2.2.2.2.2.2.2.1))
        clear d HA1 HA2
        go_wp2_with fail
        go_ret
        exact ⟨⟨false, rfl, HA0.out⟩, KF.out⟩
      subst d
      by_cases d : ca = ca'
      case neg =>
        have d' := (show (ca != ca') = true by simpa using d)
        have HA0 := hide (HA1.out fun g => d (by have h := HALK.out.1 g; exact h.2.2.2.2.2.2.2.2.1))
        clear d HA1 HA2
        go_wp2_with fail
        go_ret
        exact ⟨⟨false, rfl, HA0.out⟩, KF.out⟩
      subst d
      by_cases d : ji = ji'
      case neg =>
        have d' := (show (ji != ji') = true by simpa using d)
        have HA0 := hide (HA1.out fun g => d (by have h := HALK.out.1 g; exact h.2.2.2.2.2.2.2.2.2))
        clear d HA1 HA2
        go_wp2_with fail
        go_ret
        exact ⟨⟨false, rfl, HA0.out⟩, KF.out⟩
      subst d
      have HQ1 : Hid ((decide (nl = nl') = true) ↔ nl = nl') := by show _ ↔ _; simp
      generalize decide (nl = nl') = b1 at *
      go_wp2_with fail
      go_at_call 37
      refine S1.out.mono ?_
      rintro e w5 ⟨rfl, k5⟩
      have K5 := hide (HKW2.out.more k5)
      have S2' := hide (S2.out w5 k5)
      have hx1 := k5.blk HX1b.out (fun f => f)
      have hx2 := k5.blk HX2.out (fun f => f)
      clear p0 q0 p1 q1 p2 q2 p3 q3 p4 q4 p5 q5 p6 q6 p7 q7 p8 q8 p9 q9
      have p9 := cell_blk hx1 9 (v := .slice af1 af2 af3) rfl
      have q9 := cell_blk hx2 9 (v := .slice af1' af2' af3') rfl
      clear S1 S2 k5 hx1 hx2 KF
      cases b1
      case false =>
        have HA0 := hide (HA1.out fun g => absurd (HQ1.out.2 (HALK.out.1 g).1) (by decide))
        have KF := hide (HM.out w5 K5.out).2.2.2
        clear HA1 HA2 HQ1
        go_wp2_with fail
        go_ret
        exact ⟨⟨false, rfl, HA0.out⟩, KF.out⟩
      have HQ2 : Hid ((decide (al = al') = true) ↔ al = al') := by show _ ↔ _; simp
      generalize decide (al = al') = b2 at *
      go_wp2_with fail
      go_at_call 37
      refine S2'.out.mono ?_
      rintro e w6 ⟨rfl, k6⟩
      have K6 := hide (K5.out.more k6)
      clear p9 q9 k6 S2' K5
      cases b2
      case false =>
        have HA0 := hide (HA1.out fun g => absurd (HQ2.out.2 (HALK.out.1 g).2.1) (by decide))
        have KF := hide (HM.out w6 K6.out).2.2.2
        clear HA1 HA2 HQ1 HQ2
        go_wp2_with fail
        go_ret
        exact ⟨⟨false, rfl, HA0.out⟩, KF.out⟩
      have HA0 := hide (HA2.out (HALK.out.2 ⟨HQ1.out.1 (by trivial), HQ2.out.1 (by trivial), by trivial, by trivial, by trivial, by trivial, by trivial, by trivial, by trivial, by trivial⟩))
      clear HA1 HA2 HQ1 HQ2
      go_wp2_with fail
      go_roundw
      · exact ⟨i + 1, rfl, by omega, K6.out, HA0.out⟩
      · show n - ((i : Int) + 1).toNat < n - (i : Int).toNat
        omega
    · obtain rfl : i = n := by omega
      have HT : Hid (AlkP pm dl xs pm dl ys) := ⟨rfl, rfl, by rw [← HN.out, ← HN'.out], fun j x y hx hy => HD.out.2 j x y (by rw [HN.out]; exact (List.getElem?_eq_some_iff.1 hx).1) hx hy⟩
      have KF := hide kf
      clear hp hq kf HD
      go_wp2_with fail
      go_ret
      exact ⟨⟨true, rfl, fun _ => HT.out, fun _ => rfl⟩, KF.out⟩
/-- plans are alike just if their values are one -/
theorem nv_iff (x y : No) : Alk x y ↔ nv x.q x.nl x.al = nv y.q y.nl y.al := by
  constructor
  · rintro ⟨h1, h2, h3, h4, h5, h6, h7, h8, h9, h10⟩
    unfold nv
    rw [h1, h2, h3, h4, h5, h6, h7, h8, h9, h10]
  · intro h
    unfold nv at h
    simp only [Prod.mk.injEq] at h
    obtain ⟨⟨⟨⟨⟨⟨⟨⟨⟨h3, h4⟩, h5⟩, h6⟩, h7⟩, h8⟩, h9⟩, h10⟩, h1⟩, h2⟩ := h
    have e := congrArg str h3
    rw [str_sb, str_sb] at e
    exact ⟨h1, h2, e, h4, h5, h6, h7, h8, h9, h10⟩
theorem alkp_iff (pm : ByteArray) (dl : Int) (xs : List No) (pm' : ByteArray) (dl' : Int) (ys : List No) : AlkP pm dl xs pm' dl' ys ↔ pv pm dl xs = pv pm' dl' ys := by
  constructor
  · rintro ⟨h1, h2, h3, h4⟩
    subst h1 h2
    unfold pv nvs
    congr 1
    apply List.ext_getElem?
    intro i
    rw [List.getElem?_map, List.getElem?_map]
    cases hx : xs[i]? with
    | none => rw [List.getElem?_eq_none (by have := List.getElem?_eq_none_iff.1 hx; omega)]
    | some x =>
      have hi := (List.getElem?_eq_some_iff.1 hx).1
      have hy := List.getElem?_eq_getElem (show i < ys.length by omega)
      rw [hy]
      exact congrArg some ((nv_iff _ _).1 (h4 i x _ hx hy))
  · intro h
    unfold pv at h
    simp only [Prod.mk.injEq] at h
    obtain ⟨⟨h1, h2⟩, h3⟩ := h
    have e := congrArg str h1
    rw [str_sb, str_sb] at e
    have hl : xs.length = ys.length := by have := congrArg List.length h3; simpa [nvs] using this
    refine ⟨e, h2, hl, fun i x y hx hy => (nv_iff x y).2 ?_⟩
    have := congrArg (fun l : List Nv => l[i]?) h3
    simp only [nvs, List.getElem?_map, hx, hy, Option.map_some, Option.some.injEq] at this
    exact this
theorem alike_val {d e : Pv} {w : World} {u v : Value} (h : PlV d w u) (hk : PvK d) (g : PlV e w v) (gk : PvK e) :
    Calls Tryz.prog 17 #[u, v] w fun en w' => SmE (d = e) en ∧ Keep (fun _ => False) w w' := by
  obtain ⟨a, n, c, xs, rfl, h1, h2, h3, h4, -, -, -⟩ := h.inp hk
  obtain ⟨a', n', c', ys, rfl, g1, g2, g3, g4, -, -, -⟩ := g.inp gk
  have t := alike12_any (str d.1.1) d.1.2 (a, n, c) xs (str e.1.1) e.1.2 (a', n', c') ys _ _ w h1 g1
  rw [show AlkP (str d.1.1) d.1.2 xs (str e.1.1) e.1.2 ys = (d = e) from propext ((alkp_iff _ _ _ _ _ _).trans (by rw [h4, g4]))] at t
  exact t
end Cd
end Go.Proofs.YtbjcckfhfbjchaaGreat
