/- PlanEdges: the walk. -/
import Derived.Test.YtljfomaiikpdjaaGWith
namespace Go.Proofs.Ytljfomaiikpdjaa
namespace Gr
open Go.RowKit

theorem Pluss.sz {af : Bool} {t fr : Nat} {xs ys : List No} (h : Pluss af t fr xs ys) {nm : ByteArray} (hs : Sz nm xs) : Sz nm ys := by
  refine ⟨hs.1, fun y hy => ?_⟩
  obtain ⟨k, hk⟩ := List.getElem?_of_mem hy
  obtain ⟨x, hx⟩ : ∃ x, xs[k]? = some x := ⟨_, List.getElem?_eq_getElem (by have := h.1; have := (List.getElem?_eq_some_iff.1 hk).1; omega)⟩
  have hr := h.2 k x y hx hk
  have he : x.q.nm = y.q.nm := by
    by_cases c : k = fr
    · exact (hr.2.2 c).1
    · exact (hr.2.1 c).1
  rw [← he]
  exact hs.2 x (List.mem_of_getElem? hx)

set_option maxRecDepth 100000 in
set_option maxHeartbeats 40000000 in
theorem edges_walk (nm : ByteArray) (dl fd td : Int) (af : Bool) (s : Option Addr × Nat × Nat) (xs : List No) (w : World) (hP : RdP w.heap.size w s xs) (hs : Sz nm xs) (hc : Caps xs) (hfd : -9223372036854775808 ≤ fd ∧ fd ≤ 9223372036854775807) (htd : -9223372036854775808 ≤ td ∧ td ≤ 9223372036854775807) :
    Calls Try.prog 3 #[.agg #[.string nm, .int .i64 dl, .slice s.1 s.2.1 s.2.2, .int .i64 fd, .int .i64 td, .bool af]] w fun e w' => e = .returned (.bool true) ∧ Below w.heap.size w w' := by
  obtain ⟨a, n, c⟩ := s
  have HN : Hid (n = xs.length) := hP.1
  have k1 := Keep.alloc (fun _ => False) w (.cells #[.string nm, .int .i64 dl, .slice a n c, .int .i64 fd, .int .i64 td, .bool af] 26)
  have b1 := heap_alloc_new w (.cells #[.string nm, .int .i64 dl, .slice a n c, .int .i64 fd, .int .i64 td, .bool af] 26)
  have HM : Hid (∀ W, Keep (fun _ => False) (w.alloc (.cells #[.string nm, .int .i64 dl, .slice a n c, .int .i64 fd, .int .i64 td, .bool af] 26)) W → (W.cell? ⟨w.heap.size, 0, none⟩ = some (.string nm) ∧ W.cell? ⟨w.heap.size, 1, none⟩ = some (.int .i64 dl) ∧ W.cell? ⟨w.heap.size, 2, none⟩ = some (.slice a n c) ∧ W.cell? ⟨w.heap.size, 3, none⟩ = some (.int .i64 fd) ∧ W.cell? ⟨w.heap.size, 4, none⟩ = some (.int .i64 td) ∧ W.cell? ⟨w.heap.size, 5, none⟩ = some (.bool af)) ∧ RdP w.heap.size W (a, n, c) xs ∧ Below w.heap.size w W ∧ w.heap.size < W.heap.size) := fun W k2 => by
    have kk := k1.more k2
    have bb := k2.blk b1 (fun f => f)
    exact ⟨⟨cell_blk bb 0 rfl, cell_blk bb 1 rfl, cell_blk bb 2 rfl, cell_blk bb 3 rfl, cell_blk bb 4 rfl, cell_blk bb 5 rfl⟩, hP.new kk, kk.below (Nat.le_refl _) fun _ f => f.elim, (Array.getElem?_eq_some_iff.1 bb).1⟩
  have HS := hide hs
  have HC := hide hc
  have HFD := hide hfd
  have HTD := hide htd
  clear hP hs hc hfd htd k1 b1
  go_enter Try.func3, Try.ntmps3
  go_upto_region 1 with fail
  obtain ⟨H, hH⟩ : ∃ H, H = w.heap.size := ⟨_, rfl⟩
  generalize w.alloc (.cells #[.string nm, .int .i64 dl, .slice a n c, .int .i64 fd, .int .i64 td, .bool af] 26) = w1 at *
  simp only [← hH] at HM ⊢
  have HHE := hide hH
  clear hH
  go_wp2_with fail
  go_at_call 5
  refine (awake_any w1).mono ?_
  rintro e w2 ⟨rfl, k2⟩
  have K2 := hide k2
  obtain ⟨⟨c0, c1, c2, c3, c4, c5⟩, hp, _, _⟩ := HM.out w2 k2
  have SM := hide (small_any nm dl (a, n, c) xs _ w2 hp)
  clear hp k2
  go_wp2_with fail
  go_at_call 6
  refine SM.out.mono ?_
  rintro e w3 ⟨⟨b, rfl, hb⟩, k3⟩
  have K3 := hide (K2.out.more k3)
  clear c0 c1 c2 c3 c4 c5 k3 SM K2
  obtain ⟨⟨c0, c1, c2, c3, c4, c5⟩, hp, hbl, hlt3⟩ := HM.out w3 K3.out
  have KW := hide hbl
  cases b
  case false =>
    go_wp2_with fail
    go_ret
    exact ⟨rfl, by rw [← HHE.out]; exact KW.out⟩
  have hes := hb rfl
  have HES := hide hes
  have CK := hide (check_any nm dl (a, n, c) xs _ w3 hp (by omega) HS.out)
  clear hb hp hbl hes hlt3
  obtain ⟨ck, hck⟩ : ∃ ck, ck = chk nm dl xs := ⟨_, rfl⟩
  rw [← hck] at CK
  have HCK := hide hck
  clear hck
  obtain ⟨ck1, ck2⟩ := ck
  simp only at CK
  go_wp2_with fail
  go_at_call 7
  refine CK.out.mono ?_
  rintro e w4 ⟨rfl, k4⟩
  have K4 := hide (K3.out.more k4)
  clear c0 c1 c2 c3 c4 c5 k4 CK K3 KW
  obtain ⟨⟨c0, c1, c2, c3, c4, c5⟩, hp, hbl, hlt4⟩ := HM.out w4 K4.out
  have KW := hide hbl
  by_cases hc2 : ck2 = 0
  case neg =>
    have hne : ((ck2 : Int) != 0) = true := by simp; omega
    clear hp hbl hlt4 hc2
    go_wp2_with fail
    go_ret
    exact ⟨by rfl, by rw [← HHE.out]; exact KW.out⟩
  case pos =>
    subst hc2
    have HC0 : Hid ((chk nm dl xs).2 = 0) := by show _ = _; rw [← HCK.out]
    have hok := chk_ok HC0.out
    have hn1 : 1 ≤ n := by rw [HN.out]; exact hok.2.2.1
    have hn64 : n ≤ 64 := by rw [HN.out]; exact hok.2.2.2.1.1
    have hn0 : ((n : Int) == 0) = false := by simp; omega
    have HV := hide hok.2.2.2.1
    have HFK : Hid (∀ x ∈ xs, fOk x.q = true) := fun x hx => by
      obtain ⟨k, hk⟩ := List.getElem?_of_mem hx
      exact (cN_ok hok.2.1 k x hk).2.1
    have PK := hide (pick_anyB fd n HFD.out.1 HFD.out.2 hn1 hn64 w4)
    have PT := hide (pick_anyB td n HTD.out.1 HTD.out.2 hn1 hn64 w4)
    have HP4 := hide hp
    clear hp hbl hok KW
    go_wp2_with fail
    go_at_call 8
    refine PK.out.mono ?_
    rintro e w5 ⟨⟨fr, rfl, hfr⟩, hw⟩
    subst hw
    go_wp2_with fail
    go_at_call 8
    refine PT.out.mono ?_
    rintro e w4 ⟨⟨t, rfl, htn⟩, hw⟩
    subst hw
    clear PK PT
    have WI := hide (with_any nm dl (a, n, c) xs fr t af H w4 HP4.out (by omega) HES.out (by have := HN.out; omega) (by have := HN.out; omega) HFK.out)
    go_wp2_with fail
    go_at_call 9
    refine WI.out.mono ?_
    rintro e w6 ⟨k6, ⟨sa, sn, sc⟩, r, rfl, hr⟩
    have kz := Keep.alloc (fun _ => False) w6 (.cells #[.string nm, .int .i64 dl, .slice sa sn sc] 24)
    have bd := heap_alloc_new w6 (.cells #[.string nm, .int .i64 dl, .slice sa sn sc] 24)
    have K6 := hide ((K4.out.more k6).more kz)
    have KZ := hide kz
    have HBD := hide bd
    have HR := hide hr
    clear c0 c1 c2 c3 c4 c5 k6 kz bd hr WI K4 HP4
    simp only
    go_upto_region 11 with fail
    generalize hw7 : w6.alloc (.cells #[.string nm, .int .i64 dl, .slice sa sn sc] 24) = w7 at *
    have hD7 : w7.heap.size = w6.heap.size + 1 := by rw [← hw7]; simp
    clear hw7
    obtain ⟨D, hD⟩ : ∃ D, D = w6.heap.size := ⟨_, rfl⟩
    rw [← hD] at HBD hD7
    simp only [← hD]
    have HDE := hide hD
    clear hD
    cases r
    case false =>
      go_wp2_with fail
      go_ret
      exact ⟨rfl, by rw [← HHE.out]; exact (HM.out _ K6.out).2.2.1⟩
    case true =>
      obtain ⟨ys, x, hx, hne, h3, h4, hrd, hcp, hpl⟩ := HR.out rfl
      have hsl : sn = ys.length := hrd.1
      have hyl := hpl.1
      have RD := hide (hrd.new KZ.out)
      have CP := hide hcp
      have SY := hide (hpl.sz HS.out)
      have CE := hide (chk_edge HC0.out hpl hx (show t < xs.length by have := HN.out; omega) hne h3 h4)
      have hfx : fr < xs.length := by have := HN.out; omega
      have hsz6 : w6.heap.size ≤ w7.heap.size := KZ.out.size
      have CK := hide (check_any nm dl (sa, sn, sc) ys _ w7 RD.out hsz6 SY.out)
      have d0 := cell_blk HBD.out 0 (v := .string nm) rfl
      have d1 := cell_blk HBD.out 1 (v := .int .i64 dl) rfl
      have d2 := cell_blk HBD.out 2 (v := .slice sa sn sc) rfl
      have HSL := hide hsl
      have HYL := hide hyl
      have HFX := hide hfx
      have HS6 := hide hsz6
      clear hrd hcp hpl HR hx h3 h4 hne hsl hyl hfx hsz6 hD7
      rcases CE.out with h102 | ⟨hv, he, ⟨hno, h0⟩ | ⟨hyes, m, h106, hm, hm1, hm2⟩⟩
      case inl =>
        rw [h102] at CK
        have CK : Hid (Calls Try.prog 7 #[.agg #[.string nm, .int .i64 dl, .slice sa sn sc]] w7 fun e w' => e = .returned (.tuple #[.int .i64 0, .int .i64 102]) ∧ Keep (fun _ => False) w7 w') := CK.out
        clear CE h102
        go_wp2_with fail
        go_at_call 7
        refine CK.out.mono ?_
        rintro e w8 ⟨rfl, k8⟩
        have K8 := hide (K6.out.more k8)
        clear d0 d1 d2 k8 CK
        go_wp2_with fail
        go_ret
        exact ⟨by rfl, by rw [← HHE.out]; exact (HM.out _ K8.out).2.2.1⟩
      case inr.inl =>
        rw [h0] at CK
        have CK : Hid (Calls Try.prog 7 #[.agg #[.string nm, .int .i64 dl, .slice sa sn sc]] w7 fun e w' => e = .returned (.tuple #[.int .i64 0, .int .i64 0]) ∧ Keep (fun _ => False) w7 w') := CK.out
        clear CE h0
        have HNO := hide hno
        clear hno hv he
        go_wp2_with fail
        go_at_call 7
        refine CK.out.mono ?_
        rintro e w8 ⟨rfl, k8⟩
        have K8 := hide (K6.out.more k8)
        clear d0 d1 d2 k8 CK
        obtain ⟨⟨c0, c1, c2, c3, c4, c5⟩, hp, _, hlt8⟩ := HM.out w8 K8.out
        have WA := hide (waits_any nm dl (a, n, c) xs t fr false H w8 hp (by omega) HV.out HC.out (by have := HN.out; omega) (by have := HES.out; omega))
        clear hp
        go_wp2_with fail
        go_at_call 10
        refine WA.out.mono ?_
        rintro e w9 ⟨⟨r, rfl, hr⟩, k9⟩
        have K9 := hide (K8.out.more k9)
        obtain rfl : r = false := by
          cases r
          · rfl
          · exact absurd (hr.1 rfl) HNO.out
        clear c0 c1 c2 c3 c4 c5 k9 WA hr
        go_wp2_with fail
        go_ret
        exact ⟨by rfl, by rw [← HHE.out]; exact (HM.out _ K9.out).2.2.1⟩
      case inr.inr =>
        rw [h106] at CK
        have HY1 := hide hyes
        have HM1 := hide hm1
        have HM2 := hide hm2
        have HVY := hide hv
        obtain ⟨mi, hmi⟩ : ∃ mi : Int, mi = ((m + 1 : Nat) : Int) := ⟨_, rfl⟩
        have CK : Hid (Calls Try.prog 7 #[.agg #[.string nm, .int .i64 dl, .slice sa sn sc]] w7 fun e w' => e = .returned (.tuple #[.int .i64 mi, .int .i64 106]) ∧ Keep (fun _ => False) w7 w') := by rw [hmi]; exact CK.out
        have hm64 : m < 64 := by have := HN.out; have := HYL.out; omega
        have hge : 1 ≤ mi := by omega
        have hle : mi ≤ (sn : Int) := by have := HSL.out; omega
        have hsub : mi - 1 = (m : Int) := by omega
        have HMI := hide hmi
        clear CE h106 hyes hm1 hm2 hv hmi
        go_wp2_with fail
        go_at_call 7
        refine CK.out.mono ?_
        rintro e w8 ⟨rfl, k8⟩
        have K8 := hide (K6.out.more k8)
        have KQ8 := hide k8
        clear d0 d1 d2 k8 CK
        obtain ⟨⟨c0, c1, c2, c3, c4, c5⟩, hp, _, hlt8⟩ := HM.out w8 K8.out
        have WA := hide (waits_any nm dl (a, n, c) xs t fr false H w8 hp (by omega) HV.out HC.out (by have := HN.out; omega) (by have := HES.out; omega))
        clear hp
        go_wp2_with fail
        go_at_call 10
        refine WA.out.mono ?_
        rintro e w9 ⟨⟨r, rfl, hr⟩, k9⟩
        have K9 := hide (K8.out.more k9)
        have KQ9 := hide (KQ8.out.more k9)
        obtain rfl : r = true := hr.2 HY1.out
        clear c0 c1 c2 c3 c4 c5 k9 WA hr K8 KQ8
        have b9 := KQ9.out.blk HBD.out fun f => f
        have d0 := cell_blk b9 0 (v := .string nm) rfl
        have d1 := cell_blk b9 1 (v := .int .i64 dl) rfl
        have d2 := cell_blk b9 2 (v := .slice sa sn sc) rfl
        have WB := hide (waits_any nm dl (sa, sn, sc) ys m fr false _ w9 (RD.out.new KQ9.out) (Nat.le_trans HS6.out KQ9.out.size) HVY.out CP.out hm (by omega))
        clear b9
        go_wp2_with fail
        go_at_call 10
        refine WB.out.mono ?_
        rintro e w10 ⟨⟨r, rfl, hr⟩, k10⟩
        have K10 := hide (K9.out.more k10)
        have KQ10 := hide (KQ9.out.more k10)
        obtain rfl : r = true := hr.2 HM1.out
        clear d0 d1 d2 k10 WB hr K9 KQ9
        have b9 := KQ10.out.blk HBD.out fun f => f
        have d0 := cell_blk b9 0 (v := .string nm) rfl
        have d1 := cell_blk b9 1 (v := .int .i64 dl) rfl
        have d2 := cell_blk b9 2 (v := .slice sa sn sc) rfl
        have WC := hide (waits_any nm dl (sa, sn, sc) ys fr m false _ w10 (RD.out.new KQ10.out) (Nat.le_trans HS6.out KQ10.out.size) HVY.out CP.out (by have := HFX.out; have := HYL.out; omega) (by omega))
        clear b9
        go_wp2_with fail
        go_at_call 10
        refine WC.out.mono ?_
        rintro e w11 ⟨⟨r, rfl, hr⟩, k11⟩
        have K11 := hide (K10.out.more k11)
        obtain rfl : r = true := hr.2 HM2.out
        clear d0 d1 d2 k11 WC hr K10 KQ10
        go_wp2_with fail
        go_ret
        exact ⟨by rfl, by rw [← HHE.out]; exact (HM.out _ K11.out).2.2.1⟩
end Gr
end Go.Proofs.Ytljfomaiikpdjaa
