/- slices.EqualFunc over nodes, Same. -/
import Derived.Test.YtpblmleodcaamaaGSmN
import Derived.Test.YtpblmleodcaamaaGChM
namespace Go.Proofs.Ytpblmleodcaamaa
namespace Gr
open Go.RowKit

theorem enter_sn : ∀ args w, (callFunc 39 args).run Try.prog w = .ok (.enter 39 args) w := by intro args w; simp [go_sem]
set_option maxRecDepth 100000 in
set_option maxHeartbeats 20000000 in
theorem equalFunc_any (s : Option Addr × Nat × Nat) (xs : List No) (s' : Option Addr × Nat × Nat) (ys : List No) (B C : Nat) (w : World) (hP : RdP B w s xs) (hQ : RdP C w s' ys) :
    Calls Try.prog 38 #[.slice s.1 s.2.1 s.2.2, .slice s'.1 s'.2.1 s'.2.2, .func (.func 39) #[] #[]] w fun e w' => SmE (Alks xs ys) e ∧ Keep (fun _ => False) w w' := by
  obtain ⟨a, n, c⟩ := s
  obtain ⟨a', n', c'⟩ := s'
  have HN : Hid (n = xs.length) := hP.1
  have HN' : Hid (n' = ys.length) := hQ.1
  have hnb : n ≤ 1172812402926 := hP.2.1
  have HP := hide hP
  have HQ := hide hQ
  have SN := hide (fun x y B C W h1 h2 => sameNode_any x y B C W h1 h2)
  clear hP hQ
  by_cases hl : n = n'
  case neg =>
    have hl' : ((n : Int) != (n' : Int)) = true := by simp; omega
    have HA0 : Hid (false = true ↔ Alks xs ys) := ⟨fun e => (by cases e), fun e => absurd e.1 fun h => hl (by rw [HN.out, HN'.out, h])⟩
    clear hl
    go_enter Try.func38, Try.ntmps38
    go_wp2_with fail
    go_ret
    exact ⟨⟨false, rfl, HA0.out⟩, Keep.refl _ _⟩
  subst hl
  go_enter Try.func38, Try.ntmps38
  go_wp2_with fail
  go_loopw [17] (fun iv wr => ∃ i : Nat, iv = .int .i64 (i : Nat) ∧ i ≤ n ∧ Hid (Keep (fun _ => False) w wr ∧ ∀ (j : Nat) (x y : No), j < i → xs[j]? = some x → ys[j]? = some y → Alk x y)) (fun iv _ => n - (intOf iv).toNat)
  case atStart => exact ⟨0, rfl, Nat.zero_le _, Keep.refl _ _, fun j x y h => absurd h (Nat.not_lt_zero _)⟩
  case round =>
    obtain ⟨i, rfl, hi, HD⟩ := hrel
    by_cases hlt : i < n
    · obtain ⟨g, off, x, ha, hg, hx, hnd, hz1, hz2⟩ := (HP.out.new HD.out.1).at (i := i) hlt
      obtain ⟨g', off', y, ha', hg', hy, hnd', hz1', hz2'⟩ := (HQ.out.new HD.out.1).at (i := i) hlt
      have ha : a = some ⟨g, off, none⟩ := ha
      have ha' : a' = some ⟨g', off', none⟩ := ha'
      subst ha
      subst ha'
      have HA1 : Hid (¬ Alk x y → (false = true ↔ Alks xs ys)) := fun h => ⟨fun e => (by cases e), fun e => absurd (e.2 i x y hx hy) h⟩
      have HA2 : Hid (Alk x y → ∀ (j : Nat) (u v : No), j < i + 1 → xs[j]? = some u → ys[j]? = some v → Alk u v) := fun h j u v hj hu hv => by
        by_cases e : j = i
        · subst e
          rw [hx] at hu
          rw [hy] at hv
          obtain rfl := Option.some.inj hu
          obtain rfl := Option.some.inj hv
          exact h
        · exact HD.out.2 j u v (by omega) hu hv
      have K1 := Keep.alloc (fun _ => False) wr (.cells #[.string x.q.nm, .int .i64 x.q.la, .int .i64 x.q.bu, .int .i64 x.q.cl, .int .i64 x.q.be, .int .i64 x.q.ba, .int .i64 x.q.ca, .int .i64 x.q.ji, .slice x.q.ne.1 x.q.ne.2.1 x.q.ne.2.2, .slice x.q.af.1 x.q.af.2.1 x.q.af.2.2] 44)
      have K2 := Keep.alloc (fun _ => False) (wr.alloc (.cells #[.string x.q.nm, .int .i64 x.q.la, .int .i64 x.q.bu, .int .i64 x.q.cl, .int .i64 x.q.be, .int .i64 x.q.ba, .int .i64 x.q.ca, .int .i64 x.q.ji, .slice x.q.ne.1 x.q.ne.2.1 x.q.ne.2.2, .slice x.q.af.1 x.q.af.2.1 x.q.af.2.2] 44)) (.cells #[.string y.q.nm, .int .i64 y.q.la, .int .i64 y.q.bu, .int .i64 y.q.cl, .int .i64 y.q.be, .int .i64 y.q.ba, .int .i64 y.q.ca, .int .i64 y.q.ji, .slice y.q.ne.1 y.q.ne.2.1 y.q.ne.2.2, .slice y.q.af.1 y.q.af.2.1 y.q.af.2.2] 44)
      have hs1 : (wr.alloc (.cells #[.string x.q.nm, .int .i64 x.q.la, .int .i64 x.q.bu, .int .i64 x.q.cl, .int .i64 x.q.be, .int .i64 x.q.ba, .int .i64 x.q.ca, .int .i64 x.q.ji, .slice x.q.ne.1 x.q.ne.2.1 x.q.ne.2.2, .slice x.q.af.1 x.q.af.2.1 x.q.af.2.2] 44)).heap.size = wr.heap.size + 1 := by simp
      have hb1 := K2.blk (heap_alloc_new wr (.cells #[.string x.q.nm, .int .i64 x.q.la, .int .i64 x.q.bu, .int .i64 x.q.cl, .int .i64 x.q.be, .int .i64 x.q.ba, .int .i64 x.q.ca, .int .i64 x.q.ji, .slice x.q.ne.1 x.q.ne.2.1 x.q.ne.2.2, .slice x.q.af.1 x.q.af.2.1 x.q.af.2.2] 44)) (fun f => f)
      have hb2 := heap_alloc_new (wr.alloc (.cells #[.string x.q.nm, .int .i64 x.q.la, .int .i64 x.q.bu, .int .i64 x.q.cl, .int .i64 x.q.be, .int .i64 x.q.ba, .int .i64 x.q.ca, .int .i64 x.q.ji, .slice x.q.ne.1 x.q.ne.2.1 x.q.ne.2.2, .slice x.q.af.1 x.q.af.2.1 x.q.af.2.2] 44)) (.cells #[.string y.q.nm, .int .i64 y.q.la, .int .i64 y.q.bu, .int .i64 y.q.cl, .int .i64 y.q.be, .int .i64 y.q.ba, .int .i64 y.q.ca, .int .i64 y.q.ji, .slice y.q.ne.1 y.q.ne.2.1 y.q.ne.2.2, .slice y.q.af.1 y.q.af.2.1 y.q.af.2.2] 44)
      rw [hs1] at hb2
      have S1 := hide (SN.out x y _ _ _ ⟨hz1.new (K1.more K2), hz2.new (K1.more K2)⟩ ⟨hz1'.new (K1.more K2), hz2'.new (K1.more K2)⟩)
      have KK := hide (HD.out.1.more (K1.more K2))
      have HB1 := hide hb1
      have HB2 := hide hb2
      obtain ⟨n0, n1, n2, n3, n4, n5, n6, n7, n8, n9⟩ := hnd.all
      obtain ⟨m0, m1, m2, m3, m4, m5, m6, m7, m8, m9⟩ := (hnd'.keep K1 (fun f => f)).all
      clear hx hy hnd hnd' hz1 hz2 hz1' hz2' HD K1 K2 hb1 hb2
      go_upto_region 7 with fail
      have j0 := cell_blk HB1.out 0 (v := .string x.q.nm) rfl
      have j1 := cell_blk HB1.out 1 (v := .int .i64 x.q.la) rfl
      have j2 := cell_blk HB1.out 2 (v := .int .i64 x.q.bu) rfl
      have j3 := cell_blk HB1.out 3 (v := .int .i64 x.q.cl) rfl
      have j4 := cell_blk HB1.out 4 (v := .int .i64 x.q.be) rfl
      have j5 := cell_blk HB1.out 5 (v := .int .i64 x.q.ba) rfl
      have j6 := cell_blk HB1.out 6 (v := .int .i64 x.q.ca) rfl
      have j7 := cell_blk HB1.out 7 (v := .int .i64 x.q.ji) rfl
      have j8 := cell_blk HB1.out 8 (v := .slice x.q.ne.1 x.q.ne.2.1 x.q.ne.2.2) rfl
      have j9 := cell_blk HB1.out 9 (v := .slice x.q.af.1 x.q.af.2.1 x.q.af.2.2) rfl
      have l0 := cell_blk HB2.out 0 (v := .string y.q.nm) rfl
      have l1 := cell_blk HB2.out 1 (v := .int .i64 y.q.la) rfl
      have l2 := cell_blk HB2.out 2 (v := .int .i64 y.q.bu) rfl
      have l3 := cell_blk HB2.out 3 (v := .int .i64 y.q.cl) rfl
      have l4 := cell_blk HB2.out 4 (v := .int .i64 y.q.be) rfl
      have l5 := cell_blk HB2.out 5 (v := .int .i64 y.q.ba) rfl
      have l6 := cell_blk HB2.out 6 (v := .int .i64 y.q.ca) rfl
      have l7 := cell_blk HB2.out 7 (v := .int .i64 y.q.ji) rfl
      have l8 := cell_blk HB2.out 8 (v := .slice y.q.ne.1 y.q.ne.2.1 y.q.ne.2.2) rfl
      have l9 := cell_blk HB2.out 9 (v := .slice y.q.af.1 y.q.af.2.1 y.q.af.2.2) rfl
      clear n0 n1 n2 n3 n4 n5 n6 n7 n8 n9 m0 m1 m2 m3 m4 m5 m6 m7 m8 m9 HB1 HB2 hs1
      go_wp2_with fail
      refine S1.out.mono ?_
      rintro e w5 ⟨⟨r, rfl, hr⟩, k5⟩
      have K5 := hide (KK.out.more k5)
      have HR := hide hr
      clear S1 SN k5 hr j0 j1 j2 j3 j4 j5 j6 j7 j8 j9 l0 l1 l2 l3 l4 l5 l6 l7 l8 l9 KK
      cases r
      · have HA0 := hide (HA1.out fun h => by have := HR.out.2 h; cases this)
        clear HA1 HA2 HR
        go_wp2_with fail
        go_ret
        exact ⟨⟨false, rfl, HA0.out⟩, K5.out⟩
      · have HA0 := hide (HA2.out (HR.out.1 (by trivial)))
        clear HA1 HA2 HR
        go_wp2_with fail
        go_roundw
        · exact ⟨i + 1, rfl, by omega, K5.out, HA0.out⟩
        · show n - ((i : Int) + 1).toNat < n - (i : Int).toNat
          omega
    · obtain rfl : i = n := by omega
      have HT : Hid (Alks xs ys) := ⟨by rw [← HN.out, ← HN'.out], fun j x y hx hy => HD.out.2 j x y (by rw [HN.out]; exact (List.getElem?_eq_some_iff.1 hx).1) hx hy⟩
      have KF := hide HD.out.1
      clear HD
      go_wp2_with fail
      go_ret
      exact ⟨⟨true, rfl, fun _ => HT.out, fun _ => rfl⟩, KF.out⟩

set_option maxRecDepth 100000 in
set_option maxHeartbeats 20000000 in
theorem same_plans (pm : ByteArray) (dl : Int) (s : Option Addr × Nat × Nat) (xs : List No) (pm' : ByteArray) (dl' : Int) (s' : Option Addr × Nat × Nat) (ys : List No) (B C : Nat) (w : World) (hP : RdP B w s xs) (hQ : RdP C w s' ys) :
    Calls Try.prog 20 #[.agg #[.string pm, .int .i64 dl, .slice s.1 s.2.1 s.2.2], .agg #[.string pm', .int .i64 dl', .slice s'.1 s'.2.1 s'.2.2]] w fun e w' => SmE (AlkP pm dl xs pm' dl' ys) e ∧ Keep (fun _ => False) w w' := by
  obtain ⟨a, n, c⟩ := s
  obtain ⟨a', n', c'⟩ := s'
  have K1 := Keep.alloc (fun _ => False) w (.cells #[.string pm, .int .i64 dl, .slice a n c] 24)
  have K2 := Keep.alloc (fun _ => False) (w.alloc (.cells #[.string pm, .int .i64 dl, .slice a n c] 24)) (.cells #[.string pm', .int .i64 dl', .slice a' n' c'] 24)
  have hs1 : (w.alloc (.cells #[.string pm, .int .i64 dl, .slice a n c] 24)).heap.size = w.heap.size + 1 := by simp
  have hb1 := K2.blk (heap_alloc_new w (.cells #[.string pm, .int .i64 dl, .slice a n c] 24)) (fun f => f)
  have hb2 := heap_alloc_new (w.alloc (.cells #[.string pm, .int .i64 dl, .slice a n c] 24)) (.cells #[.string pm', .int .i64 dl', .slice a' n' c'] 24)
  rw [hs1] at hb2
  have KK := hide (K1.more K2)
  have EF := hide (equalFunc_any (a, n, c) xs (a', n', c') ys B C _ (hP.new (K1.more K2)) (hQ.new (K1.more K2)))
  have c0 := cell_blk hb1 0 (v := .string pm) rfl
  have c1 := cell_blk hb1 1 (v := .int .i64 dl) rfl
  have c2 := cell_blk hb1 2 (v := .slice a n c) rfl
  have e0 := cell_blk hb2 0 (v := .string pm') rfl
  have e1 := cell_blk hb2 1 (v := .int .i64 dl') rfl
  have e2 := cell_blk hb2 2 (v := .slice a' n' c') rfl
  clear K1 K2 hb1 hb2 hs1 hP hQ
  by_cases d0 : pm = pm'
  case neg =>
    have d0' := bytes_ne d0
    have HA0 : Hid (false = true ↔ AlkP pm dl xs pm' dl' ys) := ⟨fun e => (by cases e), fun e => absurd e.1 d0⟩
    clear d0
    go_enter Try.func20, Try.ntmps20
    go_wp2_with fail
    go_ret
    exact ⟨⟨false, rfl, HA0.out⟩, KK.out⟩
  subst d0
  by_cases d1 : dl = dl'
  case neg =>
    have d1' : (dl == dl') = false := by simpa using d1
    have HA0 : Hid (false = true ↔ AlkP pm dl xs pm dl' ys) := ⟨fun e => (by cases e), fun e => absurd e.2.1 d1⟩
    clear d1
    go_enter Try.func20, Try.ntmps20
    go_wp2_with fail
    go_ret
    exact ⟨⟨false, rfl, HA0.out⟩, KK.out⟩
  subst d1
  go_enter Try.func20, Try.ntmps20
  go_wp2_with fail
  go_at_call 38
  refine EF.out.mono ?_
  rintro e w5 ⟨⟨r, rfl, hr⟩, k5⟩
  have K5 := hide (KK.out.more k5)
  have HR : Hid (r = true ↔ AlkP pm dl xs pm dl ys) := ⟨fun h => ⟨rfl, rfl, hr.1 h⟩, fun h => hr.2 h.2.2⟩
  clear hr k5 EF
  go_wp2_with fail
  go_ret
  exact ⟨⟨r, rfl, HR.out⟩, K5.out⟩
end Gr
end Go.Proofs.Ytpblmleodcaamaa
