/- The document's same, Same. -/
import Derived.Test.YtgjiaajeionofaaGRow
import Derived.Test.YtgjiaajeionofaaGRfE
namespace Go.Proofs.Ytgjiaajeionofaa
namespace Gr
open Go.RowKit

set_option maxHeartbeats 1000000 in
theorem rsame_any (s t : Option Addr × Nat × Nat) (z y : List Int) (B C : Nat) (w : World) (hz : RdZ B w s z) (hy : RdZ C w t y) :
    Calls Try.prog 14 #[.slice s.1 s.2.1 s.2.2, .slice t.1 t.2.1 t.2.2] w fun e w' => e = .returned (.bool (decide (z = y))) ∧ Keep (fun _ => False) w w' := by
  obtain ⟨a, n, c⟩ := s
  obtain ⟨a', n', c'⟩ := t
  have HN : Hid (n = z.length) := hz.1
  have HM : Hid (n' = y.length) := hy.1
  have hn2 : n ≤ 17592186044416 := hz.2.1
  have HZ := hide hz
  have HY := hide hy
  clear hz hy
  generalize hr : decide (z = y) = r
  have HR := hide hr
  clear hr
  by_cases hl : n = n'
  · subst hl
    go_enter Try.func14, Try.ntmps14
    go_wp2_with fail
    go_loopw [5] (fun iv wr => ∃ i : Nat, iv = .int .i64 (i : Nat) ∧ i ≤ n ∧ Hid (z.take i = y.take i ∧ Keep (fun _ => False) w wr)) (fun iv _ => n - (intOf iv).toNat)
    case atStart => exact ⟨0, rfl, Nat.zero_le _, rfl, Keep.refl _ _⟩
    case round =>
      obtain ⟨i, rfl, hi, HD⟩ := hrel
      by_cases hlt : i < n
      · obtain ⟨g, off, x, ha, hg, hx, hc⟩ := (HZ.out.new HD.out.2).at hlt
        obtain ⟨g', off', x', ha', hg', hx', hc'⟩ := (HY.out.new HD.out.2).at hlt
        have ha : a = some ⟨g, off, none⟩ := ha
        have ha' : a' = some ⟨g', off', none⟩ := ha'
        subst ha
        subst ha'
        have HX := hide hx
        have HX' := hide hx'
        clear hx hx' HZ HY
        by_cases e : x = x'
        · subst e
          go_wp2_with fail
          go_region
          go_wp2
          go_roundw
          · refine ⟨i + 1, rfl, by omega, ?_, HD.out.2.more (Keep.drew _ _)⟩
            rw [take_snoc _ _ _ HX.out, take_snoc _ _ _ HX'.out, HD.out.1]
          · show n - ((i : Int) + 1).toNat < n - (i : Int).toNat
            omega
        · obtain rfl : r = false := by
            rw [← HR.out]
            refine decide_eq_false fun h => e ?_
            have := HX.out
            rw [h, HX'.out] at this
            exact (Option.some.inj this).symm
          go_wp2_with fail
          go_region
          go_wp2
          go_ret
          exact ⟨rfl, HD.out.2.more (Keep.drew _ _)⟩
      · obtain rfl : i = n := by omega
        obtain rfl : r = true := by
          rw [← HR.out]
          refine decide_eq_true ?_
          have := HD.out.1
          rwa [List.take_of_length_le (by have := HN.out; omega), List.take_of_length_le (by have := HM.out; omega)] at this
        go_wp2_with fail
        go_ret
        exact ⟨rfl, HD.out.2⟩
  · obtain rfl : r = false := by
      rw [← HR.out]
      refine decide_eq_false fun h => hl ?_
      rw [HN.out, HM.out, h]
    have hl' : ¬ ((n : Int) = n') := by omega
    go_enter Try.func14, Try.ntmps14
    go_wp2_with fail
    go_ret
    exact ⟨rfl, Keep.refl _ _⟩
/-- what is answered, of a thing that is so or not -/
def SmE (P : Prop) (e : Ending) : Prop := ∃ r : Bool, e = .returned (.bool r) ∧ (r = true ↔ P)
/-- nodes that are the same -/
def Alk (x y : No) : Prop := x.nl = y.nl ∧ x.al = y.al ∧ x.q.nm = y.q.nm ∧ x.q.la = y.q.la ∧ x.q.bu = y.q.bu ∧ x.q.cl = y.q.cl ∧ x.q.be = y.q.be ∧ x.q.ba = y.q.ba ∧ x.q.ca = y.q.ca ∧ x.q.ji = y.q.ji
/-- plans that are the same -/
def AlkP (pm : ByteArray) (dl : Int) (xs : List No) (pm' : ByteArray) (dl' : Int) (ys : List No) : Prop := pm = pm' ∧ dl = dl' ∧ xs.length = ys.length ∧ ∀ (i : Nat) (x y : No), xs[i]? = some x → ys[i]? = some y → Alk x y

set_option maxRecDepth 100000 in
set_option maxHeartbeats 20000000 in
theorem refSame_any (pm : ByteArray) (dl : Int) (s : Option Addr × Nat × Nat) (xs : List No) (pm' : ByteArray) (dl' : Int) (s' : Option Addr × Nat × Nat) (ys : List No) (B C : Nat) (w : World) (hP : RdP B w s xs) (hQ : RdP C w s' ys) :
    Calls Try.prog 8 #[.agg #[.string pm, .int .i64 dl, .slice s.1 s.2.1 s.2.2], .agg #[.string pm', .int .i64 dl', .slice s'.1 s'.2.1 s'.2.2]] w fun e w' => SmE (AlkP pm dl xs pm' dl' ys) e ∧ Keep (fun _ => False) w w' := by
  obtain ⟨a, n, c⟩ := s
  obtain ⟨a', n', c'⟩ := s'
  have HN : Hid (n = xs.length) := hP.1
  have HN' : Hid (n' = ys.length) := hQ.1
  have hnb : n ≤ 1172812402926 := hP.2.1
  have HAF : Hid (¬ AlkP pm dl xs pm' dl' ys → (false = true ↔ AlkP pm dl xs pm' dl' ys)) := fun h => ⟨fun e => (by cases e), fun e => absurd e h⟩
  have K1 := Keep.alloc (fun _ => False) w (.cells #[.string pm, .int .i64 dl, .slice a n c] 24)
  have K2 := Keep.alloc (fun _ => False) (w.alloc (.cells #[.string pm, .int .i64 dl, .slice a n c] 24)) (.cells #[.string pm', .int .i64 dl', .slice a' n' c'] 24)
  have hs1 : (w.alloc (.cells #[.string pm, .int .i64 dl, .slice a n c] 24)).heap.size = w.heap.size + 1 := by simp
  have hb1 := K2.blk (heap_alloc_new w (.cells #[.string pm, .int .i64 dl, .slice a n c] 24)) (fun f => f)
  have hb2 := heap_alloc_new (w.alloc (.cells #[.string pm, .int .i64 dl, .slice a n c] 24)) (.cells #[.string pm', .int .i64 dl', .slice a' n' c'] 24)
  rw [hs1] at hb2
  have KW := hide (K1.more K2)
  have HB1 := hide hb1
  have HB2 := hide hb2
  have HP := hide hP
  have HQ := hide hQ
  have RS := hide (fun s t z y B C W h1 h2 => rsame_any s t z y B C W h1 h2)
  clear K1 K2 hb1 hb2 hs1 hP hQ
  go_enter Try.func8, Try.ntmps8
  go_upto_region 1 with fail
  generalize (w.alloc (.cells #[.string pm, .int .i64 dl, .slice a n c] 24)).alloc (.cells #[.string pm', .int .i64 dl', .slice a' n' c'] 24) = w2 at *
  generalize w.heap.size = N at *
  have HM : Hid (∀ W, Keep (fun _ => False) w2 W → (W.cell? ⟨N, 0, none⟩ = some (.string pm) ∧ W.cell? ⟨N, 1, none⟩ = some (.int .i64 dl) ∧ W.cell? ⟨N, 2, none⟩ = some (.slice a n c) ∧ W.cell? ⟨N + 1, 0, none⟩ = some (.string pm') ∧ W.cell? ⟨N + 1, 1, none⟩ = some (.int .i64 dl') ∧ W.cell? ⟨N + 1, 2, none⟩ = some (.slice a' n' c')) ∧ RdP B W (a, n, c) xs ∧ RdP C W (a', n', c') ys ∧ Keep (fun _ => False) w W) := fun W k =>
    ⟨⟨cell_blk (k.blk HB1.out (fun h => h)) 0 rfl, cell_blk (k.blk HB1.out (fun h => h)) 1 rfl, cell_blk (k.blk HB1.out (fun h => h)) 2 rfl, cell_blk (k.blk HB2.out (fun h => h)) 0 rfl, cell_blk (k.blk HB2.out (fun h => h)) 1 rfl, cell_blk (k.blk HB2.out (fun h => h)) 2 rfl⟩, HP.out.new (KW.out.more k), HQ.out.new (KW.out.more k), KW.out.more k⟩
  clear HP HQ KW HB1 HB2
  obtain ⟨⟨c0, c1, c2, c3, c4, c5⟩, _, _, kf⟩ := HM.out w2 (Keep.refl _ _)
  have KF := hide kf
  clear kf
  by_cases d0 : pm = pm'
  case neg =>
    have d0' := bytes_ne d0
    have HA0 := hide (HAF.out fun h => d0 h.1)
    clear d0
    go_wp2_with fail
    go_ret
    exact ⟨⟨false, rfl, HA0.out⟩, KF.out⟩
  subst d0
  by_cases d1 : dl = dl'
  case neg =>
    have d1' : (dl != dl') = true := by simpa using d1
    have HA0 := hide (HAF.out fun h => d1 h.2.1)
    clear d1
    go_wp2_with fail
    go_ret
    exact ⟨⟨false, rfl, HA0.out⟩, KF.out⟩
  subst d1
  by_cases d2 : n = n'
  case neg =>
    have d2' : ((n : Int) != (n' : Int)) = true := by simp; omega
    have HA0 := hide (HAF.out fun h => d2 (by rw [HN.out, HN'.out]; exact h.2.2.1))
    clear d2
    go_wp2_with fail
    go_ret
    exact ⟨⟨false, rfl, HA0.out⟩, KF.out⟩
  subst d2
  clear KF
  go_wp2_with fail
  clear c0 c1 c2 c3 c4 c5
  go_loopw [5] (fun iv wr => ∃ i : Nat, iv = .int .i64 (i : Nat) ∧ i ≤ n ∧ Hid (Keep (fun _ => False) w2 wr ∧ ∀ (j : Nat) (x y : No), j < i → xs[j]? = some x → ys[j]? = some y → Alk x y)) (fun iv _ => n - (intOf iv).toNat)
  case atStart => exact ⟨0, rfl, Nat.zero_le _, Keep.refl _ _, fun j x y h => absurd h (Nat.not_lt_zero _)⟩
  case round =>
    obtain ⟨i, rfl, hi, HD⟩ := hrel
    obtain ⟨⟨c0, c1, c2, c3, c4, c5⟩, hp, hq, kf⟩ := HM.out wr HD.out.1
    by_cases hlt : i < n
    · obtain ⟨g, off, x, ha, hg, hx, hnd, hz1, hz2⟩ := hp.at (i := i) hlt
      obtain ⟨g', off', y, ha', hg', hy, hnd', hz1', hz2'⟩ := hq.at (i := i) hlt
      have ha : a = some ⟨g, off, none⟩ := ha
      have ha' : a' = some ⟨g', off', none⟩ := ha'
      subst ha
      subst ha'
      have HA1 : Hid (¬ Alk x y → (false = true ↔ AlkP pm dl xs pm dl ys)) := fun h => HAF.out fun e => h (e.2.2.2 i x y hx hy)
      have HA2 : Hid (Alk x y → ∀ (j : Nat) (u v : No), j < i + 1 → xs[j]? = some u → ys[j]? = some v → Alk u v) := fun h j u v hj hu hv => by
        by_cases e : j = i
        · subst e
          rw [hx] at hu
          rw [hy] at hv
          obtain rfl := Option.some.inj hu
          obtain rfl := Option.some.inj hv
          exact h
        · exact HD.out.2 j u v (by omega) hu hv
      obtain ⟨⟨nm, la, bu, cl, be, ba, ca, ji, ⟨ne1, ne2, ne3⟩, ⟨af1, af2, af3⟩⟩, nl, al⟩ := x
      obtain ⟨⟨nm', la', bu', cl', be', ba', ca', ji', ⟨ne1', ne2', ne3'⟩, ⟨af1', af2', af3'⟩⟩, nl', al'⟩ := y
      have K1 := Keep.alloc (fun _ => False) wr (.cells #[.string nm, .int .i64 la, .int .i64 bu, .int .i64 cl, .int .i64 be, .int .i64 ba, .int .i64 ca, .int .i64 ji, .slice ne1 ne2 ne3, .slice af1 af2 af3] 39)
      have K2 := Keep.alloc (fun _ => False) (wr.alloc (.cells #[.string nm, .int .i64 la, .int .i64 bu, .int .i64 cl, .int .i64 be, .int .i64 ba, .int .i64 ca, .int .i64 ji, .slice ne1 ne2 ne3, .slice af1 af2 af3] 39)) (.cells #[.string nm', .int .i64 la', .int .i64 bu', .int .i64 cl', .int .i64 be', .int .i64 ba', .int .i64 ca', .int .i64 ji', .slice ne1' ne2' ne3', .slice af1' af2' af3'] 39)
      have hs1 : (wr.alloc (.cells #[.string nm, .int .i64 la, .int .i64 bu, .int .i64 cl, .int .i64 be, .int .i64 ba, .int .i64 ca, .int .i64 ji, .slice ne1 ne2 ne3, .slice af1 af2 af3] 39)).heap.size = wr.heap.size + 1 := by simp
      have hb1 := K2.blk (heap_alloc_new wr (.cells #[.string nm, .int .i64 la, .int .i64 bu, .int .i64 cl, .int .i64 be, .int .i64 ba, .int .i64 ca, .int .i64 ji, .slice ne1 ne2 ne3, .slice af1 af2 af3] 39)) (fun f => f)
      have hb2 := heap_alloc_new (wr.alloc (.cells #[.string nm, .int .i64 la, .int .i64 bu, .int .i64 cl, .int .i64 be, .int .i64 ba, .int .i64 ca, .int .i64 ji, .slice ne1 ne2 ne3, .slice af1 af2 af3] 39)) (.cells #[.string nm', .int .i64 la', .int .i64 bu', .int .i64 cl', .int .i64 be', .int .i64 ba', .int .i64 ca', .int .i64 ji', .slice ne1' ne2' ne3', .slice af1' af2' af3'] 39)
      rw [hs1] at hb2
      have HB1 := hide hb1
      have HB2 := hide hb2
      have K0 := hide HD.out.1
      have KK1 := hide K1
      have KK2 := hide K2
      have HZ1 := hide hz1
      have HZ2 := hide hz2
      have HZ1' := hide hz1'
      have HZ2' := hide hz2'
      obtain ⟨n0, n1, n2, n3, n4, n5, n6, n7, n8, n9⟩ := hnd.all
      obtain ⟨m0, m1, m2, m3, m4, m5, m6, m7, m8, m9⟩ := (hnd'.keep K1 (fun f => f)).all
      have c5' := K1.cell c5 (fun f => f)
      simp only at n0 n1 n2 n3 n4 n5 n6 n7 n8 n9 m0 m1 m2 m3 m4 m5 m6 m7 m8 m9
      clear hx hy hnd hnd' hz1 hz2 hz1' hz2' hp hq kf HD K1 K2 hb1 hb2 c0 c1 c3 c4 HAF
      simp only at HZ1 HZ2 HZ1' HZ2'
      go_upto_region 8 with fail
      generalize hw4 : (wr.alloc (.cells #[.string nm, .int .i64 la, .int .i64 bu, .int .i64 cl, .int .i64 be, .int .i64 ba, .int .i64 ca, .int .i64 ji, .slice ne1 ne2 ne3, .slice af1 af2 af3] 39)).alloc (.cells #[.string nm', .int .i64 la', .int .i64 bu', .int .i64 cl', .int .i64 be', .int .i64 ba', .int .i64 ca', .int .i64 ji', .slice ne1' ne2' ne3', .slice af1' af2' af3'] 39) = w4 at *
      have K4 := hide ((K0.out.more KK1.out).more KK2.out)
      have S1 := hide (RS.out (ne1, ne2, ne3) (ne1', ne2', ne3') nl nl' _ _ w4 (HZ1.out.new (KK1.out.more KK2.out)) (HZ1'.out.new (KK1.out.more KK2.out)))
      have S2 := hide (fun W k => RS.out (af1, af2, af3) (af1', af2', af3') al al' _ _ W (HZ2.out.new ((KK1.out.more KK2.out).more k)) (HZ2'.out.new ((KK1.out.more KK2.out).more k)))
      have HC : Hid (∀ W, Keep (fun _ => False) w4 W → (W.cell? ⟨wr.heap.size, 0, none⟩ = some (.string nm) ∧ W.cell? ⟨wr.heap.size, 1, none⟩ = some (.int .i64 la) ∧ W.cell? ⟨wr.heap.size, 2, none⟩ = some (.int .i64 bu) ∧ W.cell? ⟨wr.heap.size, 3, none⟩ = some (.int .i64 cl) ∧ W.cell? ⟨wr.heap.size, 4, none⟩ = some (.int .i64 be) ∧ W.cell? ⟨wr.heap.size, 5, none⟩ = some (.int .i64 ba) ∧ W.cell? ⟨wr.heap.size, 6, none⟩ = some (.int .i64 ca) ∧ W.cell? ⟨wr.heap.size, 7, none⟩ = some (.int .i64 ji) ∧ W.cell? ⟨wr.heap.size, 8, none⟩ = some (.slice ne1 ne2 ne3) ∧ W.cell? ⟨wr.heap.size, 9, none⟩ = some (.slice af1 af2 af3)) ∧ W.cell? ⟨wr.heap.size + 1, 0, none⟩ = some (.string nm') ∧ W.cell? ⟨wr.heap.size + 1, 1, none⟩ = some (.int .i64 la') ∧ W.cell? ⟨wr.heap.size + 1, 2, none⟩ = some (.int .i64 bu') ∧ W.cell? ⟨wr.heap.size + 1, 3, none⟩ = some (.int .i64 cl') ∧ W.cell? ⟨wr.heap.size + 1, 4, none⟩ = some (.int .i64 be') ∧ W.cell? ⟨wr.heap.size + 1, 5, none⟩ = some (.int .i64 ba') ∧ W.cell? ⟨wr.heap.size + 1, 6, none⟩ = some (.int .i64 ca') ∧ W.cell? ⟨wr.heap.size + 1, 7, none⟩ = some (.int .i64 ji') ∧ W.cell? ⟨wr.heap.size + 1, 8, none⟩ = some (.slice ne1' ne2' ne3') ∧ W.cell? ⟨wr.heap.size + 1, 9, none⟩ = some (.slice af1' af2' af3')) := fun W k =>
        ⟨⟨cell_blk (k.blk HB1.out (fun h => h)) 0 rfl, cell_blk (k.blk HB1.out (fun h => h)) 1 rfl, cell_blk (k.blk HB1.out (fun h => h)) 2 rfl, cell_blk (k.blk HB1.out (fun h => h)) 3 rfl, cell_blk (k.blk HB1.out (fun h => h)) 4 rfl, cell_blk (k.blk HB1.out (fun h => h)) 5 rfl, cell_blk (k.blk HB1.out (fun h => h)) 6 rfl, cell_blk (k.blk HB1.out (fun h => h)) 7 rfl, cell_blk (k.blk HB1.out (fun h => h)) 8 rfl, cell_blk (k.blk HB1.out (fun h => h)) 9 rfl⟩, cell_blk (k.blk HB2.out (fun h => h)) 0 rfl, cell_blk (k.blk HB2.out (fun h => h)) 1 rfl, cell_blk (k.blk HB2.out (fun h => h)) 2 rfl, cell_blk (k.blk HB2.out (fun h => h)) 3 rfl, cell_blk (k.blk HB2.out (fun h => h)) 4 rfl, cell_blk (k.blk HB2.out (fun h => h)) 5 rfl, cell_blk (k.blk HB2.out (fun h => h)) 6 rfl, cell_blk (k.blk HB2.out (fun h => h)) 7 rfl, cell_blk (k.blk HB2.out (fun h => h)) 8 rfl, cell_blk (k.blk HB2.out (fun h => h)) 9 rfl⟩
      clear n0 n1 n2 n3 n4 n5 n6 n7 n8 n9 m0 m1 m2 m3 m4 m5 m6 m7 m8 m9 c2 c5 c5' KK1 KK2 K0 HZ1 HZ2 HZ1' HZ2' HB1 HB2 hs1 hw4
      generalize wr.heap.size = M at *
      obtain ⟨⟨n0, n1, n2, n3, n4, n5, n6, n7, n8, n9⟩, m0, m1, m2, m3, m4, m5, m6, m7, m8, m9⟩ := HC.out w4 (Keep.refl _ _)
      clear n0 n1 n2 n3 n4 n5 n6 n7 n9 m0 m1 m2 m3 m4 m5 m6 m7 m9
      go_wp2_with fail
      go_at_call 14
      refine S1.out.mono ?_
      rintro e w5 ⟨rfl, k5⟩
      have K5 := hide k5
      have S2' := hide (S2.out w5 k5)
      obtain ⟨⟨n0, n1, n2, n3, n4, n5, n6, n7, n8', n9⟩, m0, m1, m2, m3, m4, m5, m6, m7, m8', m9⟩ := HC.out w5 k5
      clear n0 n1 n2 n3 n4 n5 n6 n7 n8' m0 m1 m2 m3 m4 m5 m6 m7 m8' n8 m8 S1 S2 k5
      have HQ1 : Hid ((decide (nl = nl') = true) ↔ nl = nl') := by show _ ↔ _; simp
      generalize decide (nl = nl') = q1 at *
      go_wp2_with fail
      go_at_call 14
      refine S2'.out.mono ?_
      rintro e w6 ⟨rfl, k6⟩
      have K6 := hide (K5.out.more k6)
      have KF := hide (HM.out w6 (K4.out.more K6.out)).2.2.2
      obtain ⟨⟨n0, n1, n2, n3, n4, n5, n6, n7, n8, n9'⟩, m0, m1, m2, m3, m4, m5, m6, m7, m8, m9'⟩ := HC.out w6 K6.out
      clear n9 m9 n9' m9' n8 m8 S2' k6 K5
      have HQ2 : Hid ((decide (al = al') = true) ↔ al = al') := by show _ ↔ _; simp
      generalize decide (al = al') = q2 at *
      cases q1
      case false =>
        have HA0 := hide (HA1.out fun h => by have := HQ1.out.2 h.1; cases this)
        go_wp2_with fail
        go_ret
        exact ⟨⟨false, rfl, HA0.out⟩, KF.out⟩
      cases q2
      case false =>
        have HA0 := hide (HA1.out fun h => by have := HQ2.out.2 h.2.1; cases this)
        go_wp2_with fail
        go_ret
        exact ⟨⟨false, rfl, HA0.out⟩, KF.out⟩
      by_cases d : nm = nm'
      case neg =>
        have d' := bytes_ne d
        have HA0 := hide (HA1.out fun h => d h.2.2.1)
        clear d
        go_wp2_with fail
        go_ret
        exact ⟨⟨false, rfl, HA0.out⟩, KF.out⟩
      subst d
      by_cases d : la = la'
      case neg =>
        have d' := (show (la != la') = true by simpa using d)
        have HA0 := hide (HA1.out fun h => d h.2.2.2.1)
        clear d
        go_wp2_with fail
        go_ret
        exact ⟨⟨false, rfl, HA0.out⟩, KF.out⟩
      subst d
      by_cases d : bu = bu'
      case neg =>
        have d' := (show (bu != bu') = true by simpa using d)
        have HA0 := hide (HA1.out fun h => d h.2.2.2.2.1)
        clear d
        go_wp2_with fail
        go_ret
        exact ⟨⟨false, rfl, HA0.out⟩, KF.out⟩
      subst d
      by_cases d : cl = cl'
      case neg =>
        have d' := (show (cl != cl') = true by simpa using d)
        have HA0 := hide (HA1.out fun h => d h.2.2.2.2.2.1)
        clear d
        go_wp2_with fail
        go_ret
        exact ⟨⟨false, rfl, HA0.out⟩, KF.out⟩
      subst d
      by_cases d : be = be'
      case neg =>
        have d' := (show (be != be') = true by simpa using d)
        have HA0 := hide (HA1.out fun h => d h.2.2.2.2.2.2.1)
        clear d
        go_wp2_with fail
        go_ret
        exact ⟨⟨false, rfl, HA0.out⟩, KF.out⟩
      subst d
      by_cases d : ba = ba'
      case neg =>
        have d' := (show (ba != ba') = true by simpa using d)
        have HA0 := hide (HA1.out fun h => d h.2.2.2.2.2.2.2.1)
        clear d
        go_wp2_with fail
        go_ret
        exact ⟨⟨false, rfl, HA0.out⟩, KF.out⟩
      subst d
      by_cases d : ca = ca'
      case neg =>
        have d' := (show (ca != ca') = true by simpa using d)
        have HA0 := hide (HA1.out fun h => d h.2.2.2.2.2.2.2.2.1)
        clear d
        go_wp2_with fail
        go_ret
        exact ⟨⟨false, rfl, HA0.out⟩, KF.out⟩
      subst d
      by_cases d : ji = ji'
      case neg =>
        have d' := (show (ji != ji') = true by simpa using d)
        have HA0 := hide (HA1.out fun h => d h.2.2.2.2.2.2.2.2.2)
        clear d
        go_wp2_with fail
        go_ret
        exact ⟨⟨false, rfl, HA0.out⟩, KF.out⟩
      subst d
      have HA0 := hide (HA2.out ⟨HQ1.out.1 rfl, HQ2.out.1 rfl, rfl, rfl, rfl, rfl, rfl, rfl, rfl, rfl⟩)
      have K7 := hide (K4.out.more K6.out)
      clear HA1 HA2 HQ1 HQ2
      go_wp2_with fail
      go_roundw
      · exact ⟨i + 1, rfl, by omega, K7.out, HA0.out⟩
      · show n - ((i : Int) + 1).toNat < n - (i : Int).toNat
        omega
    · obtain rfl : i = n := by omega
      have HT : Hid (AlkP pm dl xs pm dl ys) := ⟨rfl, rfl, by rw [← HN.out, ← HN'.out], fun j x y hx hy => HD.out.2 j x y (by rw [HN.out]; exact (List.getElem?_eq_some_iff.1 hx).1) hx hy⟩
      have KF := hide kf
      clear hp hq kf HD
      go_wp2_with fail
      go_ret
      exact ⟨⟨true, rfl, fun _ => HT.out, fun _ => rfl⟩, KF.out⟩
end Gr
end Go.Proofs.Ytgjiaajeionofaa
