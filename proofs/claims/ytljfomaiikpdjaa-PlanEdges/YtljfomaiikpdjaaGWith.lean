/- with: a plan with an edge more. -/
import Derived.Test.YtljfomaiikpdjaaGEgM
import Derived.Test.YtljfomaiikpdjaaGBoM
import Derived.Test.YtljfomaiikpdjaaGWai
import Derived.Deep.CutRange
namespace Go.Proofs.Ytljfomaiikpdjaa
namespace Gr
open Go.RowKit

/-- what with leaves and tells -/
def WiE (nm : ByteArray) (dl : Int) (xs : List No) (fr t : Nat) (af : Bool) (w : World) (e : Ending) (w' : World) : Prop :=
  Keep (fun _ => False) w w' ∧ ∃ (sl : Option Addr × Nat × Nat) (r : Bool), e = .returned (.tuple #[.agg #[.string nm, .int .i64 dl, .slice sl.1 sl.2.1 sl.2.2], .bool r]) ∧
    (r = true → ∃ (ys : List No) (x : No), xs[fr]? = some x ∧ fr ≠ t ∧ (t : Int) ∉ x.nl ∧ (t : Int) ∉ x.al ∧ RdP w'.heap.size w' sl ys ∧ Caps ys ∧ Pluss af t fr xs ys)

theorem res_plan2 {fn : Func} {p u : Tmp} (h : fn.results = #[.cell p 24, .tmp u]) (tmps : Array Value) (w : World) (g : Nat) (a b c : Value) (hp : tmps.getD p undef = .pointer (some ⟨g, 0, none⟩)) (hg : w.heap[g]? = some (.cells #[a, b, c] 24 (0, 0))) :
    (results fn tmps).run Try.prog w = .ok (.tuple #[.agg #[a, b, c], tmps.getD u undef]) w := by
  have hp' : tmps[p]?.getD undef = .pointer (some ⟨g, 0, none⟩) := by simpa using hp
  simp [results, h, hp', asAddr, run_loadVar_row w g 24 24 #[a, b, c] (0, 0) _ hg Try.underlying24 rfl (by rw [info_plan3]; rfl)]

theorem with_core {W : World} {xs ys : List No} {ms : List Nd} {G c : Nat} {x y : No} {q' : Nd} {t fr : Nat} {af : Bool} {sl' : Option Addr × Nat × Nat}
    (hr : RowsAt W G ((ys.map (·.q) ++ ms).set fr q')) (hl : Lts W xs ys) (hyl : ys.length = xs.length) (hx : xs[fr]? = some x) (hy : ys[fr]? = some y) (h64 : xs.length ≤ 64) (hes : ∀ x ∈ xs, x.nl.length ≤ 20000 ∧ x.al.length ≤ 20000) (hfk : ∀ x ∈ xs, fOk x.q = true)
    (hq : q' = if af then { y.q with af := sl' } else { y.q with ne := sl' }) (hz : RdZ W.heap.size W sl' (ins t (if af then x.al else x.nl))) (hs : sl'.1 ≠ none) (h1 : fr ≠ t) (h2 : (t : Int) ∉ x.nl) (h3 : (t : Int) ∉ x.al) :
    ∃ (ys : List No) (x : No), xs[fr]? = some x ∧ fr ≠ t ∧ (t : Int) ∉ x.nl ∧ (t : Int) ∉ x.al ∧ RdP W.heap.size W (some ⟨G, 0, none⟩, xs.length, c) ys ∧ Caps ys ∧ Pluss af t fr xs ys := by
  obtain ⟨y', hy'⟩ : ∃ y' : No, y' = ⟨q', if af then x.nl else ins t x.nl, if af then ins t x.al else x.al⟩ := ⟨_, rfl⟩
  have hfy : fr < ys.length := (List.getElem?_eq_some_iff.1 hy).1
  have hlt := hl fr x y hx hy
  have hall := lts_rd hl hyl hes
  have hys : ∀ z ∈ ys.set fr y', z = y' ∨ z ∈ ys := fun z hz => (List.mem_or_eq_of_mem_set hz).symm
  have hry : RdZ W.heap.size W y'.q.ne y'.nl ∧ RdZ W.heap.size W y'.q.af y'.al := by
    have := hall y (List.mem_of_getElem? hy)
    rw [hlt.nl, hlt.al] at this
    rw [hy', hq]
    cases af
    · exact ⟨hz, this.2⟩
    · exact ⟨this.1, hz⟩
  have hcy : (y'.q.ne.1 = none → y'.q.ne.2.2 = 0) ∧ (y'.q.af.1 = none → y'.q.af.2.2 = 0) := by
    obtain ⟨g1, e1, _⟩ := hlt.ne
    obtain ⟨g2, e2, _⟩ := hlt.af
    rw [hy', hq]
    cases af
    · exact ⟨fun h => absurd h hs, fun h => by simp [e2] at h⟩
    · exact ⟨fun h => by simp [e1] at h, fun h => absurd h hs⟩
  refine ⟨ys.set fr y', x, hx, h1, h2, h3, ?_, ?_, ?_⟩
  · have e : (ys.map (·.q) ++ ms).set fr q' = (ys.set fr y').map (·.q) ++ ms := by
      rw [List.set_append_left _ _ (by rw [List.length_map]; exact hfy), List.map_set, hy']
    rw [e] at hr
    have hlen : xs.length = (ys.set fr y').length := by rw [List.length_set, hyl]
    rw [hlen]
    refine lent_rd hr (fun z hz => ?_) (by omega)
    rcases hys z hz with rfl | hz
    · exact hry
    · exact hall z hz
  · intro z hz
    rcases hys z hz with rfl | hz
    · exact hcy
    · obtain ⟨k, hk⟩ := List.getElem?_of_mem hz
      obtain ⟨x0, hx0⟩ : ∃ x0, xs[k]? = some x0 := ⟨_, List.getElem?_eq_getElem (by have := (List.getElem?_eq_some_iff.1 hk).1; omega)⟩
      obtain ⟨g1, e1, _⟩ := (hl k x0 z hx0 hk).ne
      obtain ⟨g2, e2, _⟩ := (hl k x0 z hx0 hk).af
      exact ⟨fun h => by simp [e1] at h, fun h => by simp [e2] at h⟩
  · refine ⟨by rw [List.length_set, hyl], fun k a b ha hb => ?_⟩
    by_cases hk : k = fr
    · subst hk
      rw [List.getElem?_set_self hfy] at hb
      obtain rfl := Option.some.inj hb
      rw [hx] at ha
      obtain rfl := Option.some.inj ha
      have hfx := hfk x (List.mem_of_getElem? hx)
      have hqq := hlt.q
      refine ⟨?_, fun h => absurd rfl h, fun _ => ⟨?_, by rw [hy'], by rw [hy']⟩⟩
      · rw [hy', hq]
        cases af
        · show fOk { y.q with ne := sl' } = true; rw [hqq]; exact hfx
        · show fOk { y.q with af := sl' } = true; rw [hqq]; exact hfx
      · rw [hy', hq]
        cases af
        · show x.q.nm = y.q.nm; rw [hqq]
        · show x.q.nm = y.q.nm; rw [hqq]
    · rw [List.getElem?_set_ne (by omega)] at hb
      have h := hl k a b ha hb
      have hqq := h.q
      refine ⟨?_, fun _ => ⟨by rw [hqq], h.nl.symm, h.al.symm⟩, fun h => absurd h hk⟩
      rw [hqq]
      exact hfk a (List.mem_of_getElem? ha)

set_option maxRecDepth 100000 in
set_option maxHeartbeats 40000000 in
theorem with_any (nm : ByteArray) (dl : Int) (s : Option Addr × Nat × Nat) (xs : List No) (fr t : Nat) (af : Bool) (B : Nat) (w : World) (hP : RdP B w s xs) (hB : B ≤ w.heap.size) (hes : xs.length + edges xs ≤ 20000) (hf : fr < xs.length) (hn64 : xs.length ≤ 64) (hfk : ∀ x ∈ xs, fOk x.q = true) :
    Calls Try.prog 9 #[.agg #[.string nm, .int .i64 dl, .slice s.1 s.2.1 s.2.2], .int .i64 (fr : Int), .int .i64 (t : Int), .bool af] w (WiE nm dl xs fr t af w) := by
  obtain ⟨a, n, c⟩ := s
  have HN : Hid (n = xs.length) := hP.1
  obtain ⟨w2, hw2⟩ : ∃ w2, w2 = (w.alloc (.cells #[.string nm, .int .i64 dl, .slice a n c] 24)).alloc (.cells #[.string ⟨#[]⟩, .int .i64 0, .slice none 0 0] 24) := ⟨_, rfl⟩
  have k1 := Keep.alloc (fun _ => False) w (.cells #[.string nm, .int .i64 dl, .slice a n c] 24)
  have k2' := Keep.alloc (fun _ => False) (w.alloc (.cells #[.string nm, .int .i64 dl, .slice a n c] 24)) (.cells #[.string ⟨#[]⟩, .int .i64 0, .slice none 0 0] 24)
  have b1 := k2'.blk (heap_alloc_new w (.cells #[.string nm, .int .i64 dl, .slice a n c] 24)) (fun f => f)
  have b2 := heap_alloc_new (w.alloc (.cells #[.string nm, .int .i64 dl, .slice a n c] 24)) (.cells #[.string ⟨#[]⟩, .int .i64 0, .slice none 0 0] 24)
  have hs2 : (w.alloc (.cells #[.string nm, .int .i64 dl, .slice a n c] 24)).heap.size = w.heap.size + 1 := by simp
  have K2 := hide (k1.more k2')
  have P2 := hide (hP.new K2.out)
  rw [hs2] at b2
  rw [← hw2] at K2 P2 b1 b2
  have HS2 : Hid (w2.heap.size = w.heap.size + 2) := by show _ = _; rw [hw2]; simp
  have B2 := hide b2
  have c0 := cell_blk b1 0 (v := .string nm) rfl
  have c1 := cell_blk b1 1 (v := .int .i64 dl) rfl
  have c2 := cell_blk b1 2 (v := .slice a n c) rfl
  have LE := hide (lend_any nm dl (a, n, c) xs B w2 P2.out (by have := HS2.out; omega) hes)
  have HW2 := hide hw2
  have HFK := hide hfk
  clear hP k1 k2' b1 b2 hs2 hw2 hfk
  go_enter Try.func9, Try.ntmps9
  go_upto_region 1 with fail
  rw [← HW2.out]
  go_wp2_with fail
  go_at_call 11
  refine LE.out.mono ?_
  rintro e w5 ⟨G, ys, ms, v1, v2, rfl, hG, hyl, hrows, hlts, k5, ⟨x1, y1, q1, rfl⟩, ⟨x2, y2, q2, rfl⟩⟩
  have kz := Keep.alloc (fun _ => False) w5 (.cells #[.string nm, .int .i64 dl, .slice (some ⟨G, 0, none⟩) n (n + 3)] 24)
  have bd := heap_alloc_new w5 (.cells #[.string nm, .int .i64 dl, .slice (some ⟨G, 0, none⟩) n (n + 3)] 24)
  have HSD := hide (show (w5.alloc (.cells #[.string nm, .int .i64 dl, .slice (some ⟨G, 0, none⟩) n (n + 3)] 24)).heap.size = w5.heap.size + 1 by simp)
  have K6 := hide ((K2.out.more k5).more kz)
  have RW := hide (hrows.new kz (fun f => f))
  have LT := hide (hlts.new kz)
  have B6 := hide ((k5.more kz).blk B2.out fun f => f)
  have HYL : Hid (ys.length = xs.length) := by show _ = _; rw [← HN.out]; exact hyl
  have HGD : Hid (w.heap.size + 2 ≤ G ∧ G < w5.heap.size) := ⟨by have := HS2.out; omega, hrows.lt⟩
  clear c0 c1 c2 k5 kz hrows hlts hyl hG LE K2 P2 B2 HW2
  have hfd : ∀ W : World, (Instr.field 41 (.agg #[.string nm, .int .i64 dl, .slice (some ⟨G, 0, none⟩) n (n + 3), .slice (some ⟨G, 0, none⟩) (n + 3) (n + 3), .slice x1 y1 q1, .slice x2 y2 q2]) 0).run Try.prog W = .ok (.agg #[.string nm, .int .i64 dl, .slice (some ⟨G, 0, none⟩) n (n + 3)]) W := fun _ => by kernel_rfl
  simp only
  go_upto_region 2 with fail
  clear hfd
  have hsd := HSD.out
  generalize w5.alloc (.cells #[.string nm, .int .i64 dl, .slice (some ⟨G, 0, none⟩) n (n + 3)] 24) = w6 at *
  generalize w5.heap.size = D at *
  have BD := hide bd
  have d2 := cell_blk bd 2 (v := .slice (some ⟨G, 0, none⟩) n (n + 3)) rfl
  clear bd HSD
  obtain ⟨x, hx⟩ : ∃ x, xs[fr]? = some x := ⟨_, List.getElem?_eq_getElem hf⟩
  obtain ⟨y, hy⟩ : ∃ y, ys[fr]? = some y := ⟨_, List.getElem?_eq_getElem (by have := HYL.out; omega)⟩
  have hlt := LT.out fr x y hx hy
  have hfn : fr < n := by rw [HN.out]; exact hf
  have hnode := RW.out.node fr y.q (by rw [List.getElem?_append_left (by rw [List.length_map]; have := HYL.out; omega), List.getElem?_map, hy]; rfl)
  have HX := hide hx
  have HY := hide hy
  have HLT := hide hlt
  obtain ⟨g1, e1, o1⟩ := hlt.ne
  obtain ⟨g2, e2, o2⟩ := hlt.af
  have hnl := hlt.nl
  have hal := hlt.al
  obtain ⟨⟨nm', la, bu, cl, be, ba, ca, ji, ne', af'⟩, nl, al⟩ := y
  simp only at e1 e2 hnl hal
  subst e1
  subst e2
  subst hnl
  subst hal
  obtain ⟨n0, n1, n2, n3, n4, n5, n6, n7, n8, n9⟩ := hnode.all
  simp only at n0 n1 n2 n3 n4 n5 n6 n7 n8 n9
  clear hx hy hlt hnode
  have hGw : G < w6.heap.size := by have := HGD.out; omega
  have hDw : D < w6.heap.size := by omega
  have O1 := hide o1
  have O2 := hide o2
  clear o1 o2
  go_upto_region 3 with fail
  obtain ⟨w7, hw7⟩ : ∃ w7, w7 = w6.alloc (.cells #[.string nm', .int .i64 la, .int .i64 bu, .int .i64 cl, .int .i64 be, .int .i64 ba, .int .i64 ca, .int .i64 ji, .slice (some ⟨g1, 0, none⟩) x.nl.length (x.nl.length + 20), .slice (some ⟨g2, 0, none⟩) x.al.length (x.al.length + 20)] 45) := ⟨_, rfl⟩
  rw [← hw7]
  have k7 : Keep (fun _ => False) w6 w7 := by rw [hw7]; exact Keep.alloc _ _ _
  have b7 : w7.heap[w6.heap.size]? = some (.cells #[.string nm', .int .i64 la, .int .i64 bu, .int .i64 cl, .int .i64 be, .int .i64 ba, .int .i64 ca, .int .i64 ji, .slice (some ⟨g1, 0, none⟩) x.nl.length (x.nl.length + 20), .slice (some ⟨g2, 0, none⟩) x.al.length (x.al.length + 20)] 45 (0, 0)) := by rw [hw7]; exact heap_alloc_new w6 _
  have hs7 : w7.heap.size = D + 2 := by rw [hw7]; simp; omega
  rw [hsd] at b7
  have m8 := cell_blk b7 8 (v := .slice (some ⟨g1, 0, none⟩) x.nl.length (x.nl.length + 20)) rfl
  have m9 := cell_blk b7 9 (v := .slice (some ⟨g2, 0, none⟩) x.al.length (x.al.length + 20)) rfl
  have KE := hide (K6.out.more k7)
  have RE := hide (RW.out.new k7 (fun f => f))
  have LTE := hide (LT.out.new k7)
  have BR := hide (k7.blk B6.out fun f => f)
  have BP := hide (k7.blk BD.out fun f => f)
  have W1 := hide (O1.out.keep k7 fun f => f)
  have W2 := hide (O2.out.keep k7 fun f => f)
  have hxm := List.mem_of_getElem? HX.out
  have hel : x.nl.length + x.al.length ≤ 20000 := Nat.le_trans (edges_ge hxm) (by omega)
  have Z1 : Hid (RdZ w7.heap.size w7 (some ⟨g1, 0, none⟩, x.nl.length, x.nl.length + 20) x.nl) := by
    have := W1.out.rd (n := x.nl.length) (by simp [marked]) (by simp [marked]; omega) (x.nl.length + 20)
    rwa [show (marked x.nl).take x.nl.length = x.nl by simp [marked]] at this
  have Z2 : Hid (RdZ w7.heap.size w7 (some ⟨g2, 0, none⟩, x.al.length, x.al.length + 20) x.al) := by
    have := W2.out.rd (n := x.al.length) (by simp [marked]) (by simp [marked]; omega) (x.al.length + 20)
    rwa [show (marked x.al).take x.al.length = x.al by simp [marked]] at this
  have hGD := HGD.out
  clear hw7 k7 b7 K6 RW LT B6 BD O1 O2 n0 n1 n2 n3 n4 n5 n6 n7 n8 n9 d2 hxm hGw hDw
  by_cases hft : fr = t
  case pos =>
    have heq : ((fr : Int) == t) = true := by simp; omega
    have THR := hide (blk_there (o := 0) (n := 3) BR.out (by show (3 : Nat) ≤ 3; decide))
    have d0 := cell_blk BP.out 0 (v := .string nm) rfl
    have d1 := cell_blk BP.out 1 (v := .int .i64 dl) rfl
    have d2 := cell_blk BP.out 2 (v := .slice (some ⟨G, 0, none⟩) n (n + 3)) rfl
    go_wp2_with (with_reducible refine wpList_store_mid rfl 24 _ _ rfl _ _ _ rfl rfl ?_ ?_ ?_ ?_)
    case refine_1 => exact THR.out
    case refine_2 => rw [info_plan3]; rfl
    case refine_3 => exact one3 _ _ _ _ _
    focus
      have hF : (w7.setCells (w.heap.size + 1) 0 [.string nm, .int .i64 dl, .slice (some ⟨G, 0, none⟩) n (n + 3)]).heap[w.heap.size + 1]? = some (.cells [.string nm, .int .i64 dl, .slice (some ⟨G, 0, none⟩) n (n + 3)].toArray 24 (0, 0)) := (set_blk (set_blk (set_blk BR.out 0 (.string nm)) 1 (.int .i64 dl)) 2 (.slice (some ⟨G, 0, none⟩) n (n + 3))).trans rfl
      have kF : Keep (fun k => k = w.heap.size + 1) w7 (w7.setCells (w.heap.size + 1) 0 [.string nm, .int .i64 dl, .slice (some ⟨G, 0, none⟩) n (n + 3)]) := ((keep_cell _ _ 0 _).more (keep_cell _ _ 1 _)).more (keep_cell _ _ 2 _)
      refine bodyPost_ret (res_plan2 rfl _ _ (w.heap.size + 1) _ _ _ rfl hF) rfl ?_
      exact ⟨KE.out.trans kF fun k e => .inr (by omega), (some ⟨G, 0, none⟩, n, n + 3), false, rfl, fun h => by cases h⟩
  case neg =>
    have hne : ((fr : Int) == t) = false := by simp; omega
    have PA := hide (place_any (some ⟨g1, 0, none⟩, x.nl.length, x.nl.length + 20) x.nl t _ w7 Z1.out)
    have PB := hide (place_any (some ⟨g2, 0, none⟩, x.al.length, x.al.length + 20) x.al t _ w7 Z2.out)
    go_wp2_with fail
    go_at_call 19
    refine PA.out.mono ?_
    rintro e w7' ⟨⟨i, rfl, hpl⟩, hw⟩
    subst hw
    rcases hpl with ⟨rfl, hn1⟩ | ⟨k, rfl, _, _⟩
    case inr =>
      have hk0 : (0 : Int) ≤ (k : Int) := by omega
      have THR := hide (blk_there (o := 0) (n := 3) BR.out (by show (3 : Nat) ≤ 3; decide))
      have d0 := cell_blk BP.out 0 (v := .string nm) rfl
      have d1 := cell_blk BP.out 1 (v := .int .i64 dl) rfl
      have d2 := cell_blk BP.out 2 (v := .slice (some ⟨G, 0, none⟩) n (n + 3)) rfl
      go_wp2_with (with_reducible refine wpList_store_mid rfl 24 _ _ rfl _ _ _ rfl rfl ?_ ?_ ?_ ?_)
      case refine_1 => exact THR.out
      case refine_2 => rw [info_plan3]; rfl
      case refine_3 => exact one3 _ _ _ _ _
      focus
        have hF : (w7'.setCells (w.heap.size + 1) 0 [.string nm, .int .i64 dl, .slice (some ⟨G, 0, none⟩) n (n + 3)]).heap[w.heap.size + 1]? = some (.cells [.string nm, .int .i64 dl, .slice (some ⟨G, 0, none⟩) n (n + 3)].toArray 24 (0, 0)) := (set_blk (set_blk (set_blk BR.out 0 (.string nm)) 1 (.int .i64 dl)) 2 (.slice (some ⟨G, 0, none⟩) n (n + 3))).trans rfl
        have kF : Keep (fun k => k = w.heap.size + 1) w7' (w7'.setCells (w.heap.size + 1) 0 [.string nm, .int .i64 dl, .slice (some ⟨G, 0, none⟩) n (n + 3)]) := ((keep_cell _ _ 0 _).more (keep_cell _ _ 1 _)).more (keep_cell _ _ 2 _)
        refine bodyPost_ret (res_plan2 rfl _ _ (w.heap.size + 1) _ _ _ rfl hF) rfl ?_
        exact ⟨KE.out.trans kF fun k e => .inr (by omega), (some ⟨G, 0, none⟩, n, n + 3), false, rfl, fun h => by cases h⟩
    case inl =>
      go_wp2_with fail
      go_at_call 19
      refine PB.out.mono ?_
      rintro e w8 ⟨⟨i, rfl, hpl⟩, hw⟩
      subst hw
      rcases hpl with ⟨rfl, hn2⟩ | ⟨k, rfl, _, _⟩
      case inr =>
        have hk0 : (0 : Int) ≤ (k : Int) := by omega
        have THR := hide (blk_there (o := 0) (n := 3) BR.out (by show (3 : Nat) ≤ 3; decide))
        have d0 := cell_blk BP.out 0 (v := .string nm) rfl
        have d1 := cell_blk BP.out 1 (v := .int .i64 dl) rfl
        have d2 := cell_blk BP.out 2 (v := .slice (some ⟨G, 0, none⟩) n (n + 3)) rfl
        go_wp2_with (with_reducible refine wpList_store_mid rfl 24 _ _ rfl _ _ _ rfl rfl ?_ ?_ ?_ ?_)
        case refine_1 => exact THR.out
        case refine_2 => rw [info_plan3]; rfl
        case refine_3 => exact one3 _ _ _ _ _
        focus
          have hF : (w8.setCells (w.heap.size + 1) 0 [.string nm, .int .i64 dl, .slice (some ⟨G, 0, none⟩) n (n + 3)]).heap[w.heap.size + 1]? = some (.cells [.string nm, .int .i64 dl, .slice (some ⟨G, 0, none⟩) n (n + 3)].toArray 24 (0, 0)) := (set_blk (set_blk (set_blk BR.out 0 (.string nm)) 1 (.int .i64 dl)) 2 (.slice (some ⟨G, 0, none⟩) n (n + 3))).trans rfl
          have kF : Keep (fun k => k = w.heap.size + 1) w8 (w8.setCells (w.heap.size + 1) 0 [.string nm, .int .i64 dl, .slice (some ⟨G, 0, none⟩) n (n + 3)]) := ((keep_cell _ _ 0 _).more (keep_cell _ _ 1 _)).more (keep_cell _ _ 2 _)
          refine bodyPost_ret (res_plan2 rfl _ _ (w.heap.size + 1) _ _ _ rfl hF) rfl ?_
          exact ⟨KE.out.trans kF fun k e => .inr (by omega), (some ⟨G, 0, none⟩, n, n + 3), false, rfl, fun h => by cases h⟩
      case inl =>
        have ON := hide (World.ownsRow_nil w8 (D + 2) 3 1)
        have H12 := hide (And.intro hn1 hn2)
        clear PA PB hn1 hn2 Z1 Z2
        cases af
        case false =>
          go_wp2_with fail
          go_loopw [13, 14, 15] (fun vv dv iv' wr => ∃ (i : Nat) (o : List Int) (v : Value) (d : Bool), vv = v ∧ dv = .bool d ∧ iv' = .int .i64 (i : Nat) ∧ i ≤ x.nl.length ∧ Hid (ins t x.nl = o ++ (if d then x.nl.drop i else ins t (x.nl.drop i)) ∧ wr.ownsRow (D + 2) 3 1 v o.length (zv o) ∧ D + 2 ≤ wr.heap.size ∧ Keep (fun _ => False) w8 wr)) (fun _ _ iv' _ => x.nl.length - (intOf iv').toNat)
          case atStart => exact ⟨0, [], _, false, rfl, rfl, rfl, Nat.zero_le _, rfl, ON.out, by omega, Keep.refl _ _⟩
          case round =>
            obtain ⟨i, o, v, d, hvv, hdd, rfl, hi, HD⟩ := hrel
            subst hvv
            subst hdd
            obtain ⟨r1, r2, r3, r4⟩ := HD.out
            obtain ⟨va, vc, hvs⟩ := ownsRow_shape r2
            subst hvs
            have hol : o.length ≤ x.nl.length + 1 := by have := congrArg List.length r1; rw [ins_len, List.length_append] at this; omega
            have OR := hide r2
            have KR := hide r4
            by_cases hlt : i < x.nl.length
            · obtain ⟨e, he⟩ : ∃ e, x.nl[i]? = some e := ⟨_, List.getElem?_eq_getElem hlt⟩
              have hdr : x.nl.drop i = e :: x.nl.drop (i + 1) := by rw [List.drop_eq_getElem_cons hlt, (List.getElem?_eq_some_iff.1 he).2]
              have OWN := hide (W1.out.keep r4 fun f => f)
              have hmi : (marked x.nl)[i]? = some e := by unfold marked; rw [List.getElem?_append_left hlt]; exact he
              have hc0 := (OWN.out.at hmi).1
              rw [hdr] at r1
              have R1 := hide r1
              clear r1 r2 r4 HD hdr he
              cases d
              case true =>
                have kA1 := Keep.alloc (fun _ => False) wr (.cells #[.int .i64 e] 3)
                have OA1 := hide (ownsRow_new OR.out kA1)
                have CA1 := hide (cell_one wr (.int .i64 e) 3)
                have KA1 := hide (KR.out.more kA1)
                have hszA1 : D + 2 ≤ (wr.alloc (.cells #[.int .i64 e] 3)).heap.size := by have := kA1.size; omega
                clear kA1
                have hce := (OWN.out.keep (Keep.alloc (fun _ => False) wr (.cells #[.int .i64 e] 3)) fun f => f).at hmi
                clear hmi
                go_wp2_with (at_builtin; go_must (refine wp_append1 rfl _ _ rfl (D + 2) (.slice va o.length vc) o.length (zv o) rfl OA1.out ⟨wr.heap.size, 0, none⟩ (e) rfl CA1.out (by omega) hszA1 ?_); intro v1 w9 o1 k1 _; have ON1 := hide o1; have KN1 := hide (KA1.out.trans k1 fun j e => .inr (by have := ownsRow_from OA1.out e; omega)); have hsz1 : D + 2 ≤ w9.heap.size := Nat.le_trans hszA1 k1.size; clear o1 k1 OA1 CA1 KA1 hszA1)
                go_roundw
                · refine ⟨i + 1, o ++ [e], _, true, rfl, rfl, rfl, by omega, ?_, ?_, hsz1, KN1.out⟩
                  · have := R1.out; simpa using this
                  · have := ON1.out; rw [List.length_append]; simpa [zv] using this
                · show x.nl.length - ((i : Int) + 1).toNat < x.nl.length - (i : Int).toNat
                  omega
              case false =>
                by_cases hte : (t : Int) < e
                · have hgt : ¬ (e ≤ (t : Int)) := by omega
                  have kA1 := Keep.alloc (fun _ => False) wr (.cells #[.int .i64 (t : Int)] 3)
                  have OA1 := hide (ownsRow_new OR.out kA1)
                  have CA1 := hide (cell_one wr (.int .i64 (t : Int)) 3)
                  have KA1 := hide (KR.out.more kA1)
                  have hszA1 : D + 2 ≤ (wr.alloc (.cells #[.int .i64 (t : Int)] 3)).heap.size := by have := kA1.size; omega
                  clear kA1
                  go_upto_region 15 with (at_builtin; go_must (refine wp_append1 rfl _ _ rfl (D + 2) (.slice va o.length vc) o.length (zv o) rfl OA1.out ⟨wr.heap.size, 0, none⟩ ((t : Int)) rfl CA1.out (by omega) hszA1 ?_); intro v1 w9 o1 k1 _; have ON1 := hide o1; have KN1 := hide (KA1.out.trans k1 fun j e => .inr (by have := ownsRow_from OA1.out e; omega)); have hsz1 : D + 2 ≤ w9.heap.size := Nat.le_trans hszA1 k1.size; clear o1 k1 OA1 CA1 KA1 hszA1)
                  obtain ⟨va1, vc1, hvs1⟩ := ownsRow_shape ON1.out
                  subst hvs1
                  have hc1 := ((W1.out.keep KN1.out fun f => f).at hmi).1
                  have kA2 := Keep.alloc (fun _ => False) w9 (.cells #[.int .i64 e] 3)
                  have OA2 := hide (ownsRow_new ON1.out kA2)
                  have CA2 := hide (cell_one w9 (.int .i64 e) 3)
                  have KA2 := hide (KN1.out.more kA2)
                  have hszA2 : D + 2 ≤ (w9.alloc (.cells #[.int .i64 e] 3)).heap.size := by have := kA2.size; omega
                  clear kA2
                  go_wp2_with (at_builtin; go_must (refine wp_append1 rfl _ _ rfl (D + 2) (.slice va1 (o.length + 1) vc1) (o.length + 1) (zv o ++ [.int .i64 (t : Int)]) rfl OA2.out ⟨w9.heap.size, 0, none⟩ (e) rfl CA2.out (by omega) hszA2 ?_); intro v2 w10 o2 k2 _; have ON2 := hide o2; have KN2 := hide (KA2.out.trans k2 fun j e => .inr (by have := ownsRow_from OA2.out e; omega)); have hsz2 : D + 2 ≤ w10.heap.size := Nat.le_trans hszA2 k2.size; clear o2 k2 OA2 CA2 KA2 hszA2)
                  go_roundw
                  · refine ⟨i + 1, o ++ [(t : Int)] ++ [e], _, true, rfl, rfl, rfl, by omega, ?_, ?_, hsz2, KN2.out⟩
                    · have := R1.out; rw [if_neg (by simp), ins, if_pos hte] at this; simpa using this
                    · have := ON2.out; rw [List.length_append, List.length_append]; simpa [zv] using this
                  · show x.nl.length - ((i : Int) + 1).toNat < x.nl.length - (i : Int).toNat
                    omega
                · have hgt : e ≤ (t : Int) := by omega
                  have kA1 := Keep.alloc (fun _ => False) wr (.cells #[.int .i64 e] 3)
                  have OA1 := hide (ownsRow_new OR.out kA1)
                  have CA1 := hide (cell_one wr (.int .i64 e) 3)
                  have KA1 := hide (KR.out.more kA1)
                  have hszA1 : D + 2 ≤ (wr.alloc (.cells #[.int .i64 e] 3)).heap.size := by have := kA1.size; omega
                  clear kA1
                  go_wp2_with (at_builtin; go_must (refine wp_append1 rfl _ _ rfl (D + 2) (.slice va o.length vc) o.length (zv o) rfl OA1.out ⟨wr.heap.size, 0, none⟩ (e) rfl CA1.out (by omega) hszA1 ?_); intro v1 w9 o1 k1 _; have ON1 := hide o1; have KN1 := hide (KA1.out.trans k1 fun j e => .inr (by have := ownsRow_from OA1.out e; omega)); have hsz1 : D + 2 ≤ w9.heap.size := Nat.le_trans hszA1 k1.size; clear o1 k1 OA1 CA1 KA1 hszA1)
                  go_roundw
                  · refine ⟨i + 1, o ++ [e], _, false, rfl, rfl, rfl, by omega, ?_, ?_, hsz1, KN1.out⟩
                    · have := R1.out; rw [if_neg (by simp), ins, if_neg hte] at this; simpa using this
                    · have := ON1.out; rw [List.length_append]; simpa [zv] using this
                  · show x.nl.length - ((i : Int) + 1).toNat < x.nl.length - (i : Int).toNat
                    omega
            · obtain rfl : i = x.nl.length := by omega
              rw [List.drop_length] at r1
              cases d
              case true =>
                have hoe : ins t x.nl = o := by simpa using r1
                have OX : Hid (wr.ownsRow (D + 2) 3 1 (.slice va o.length vc) (ins t x.nl).length ((ins t x.nl).map (Value.int .i64))) := by rw [hoe]; exact r2
                clear r1 r2 r4 HD OR
                have RX := hide (RE.out.new KR.out fun f => f)
                have LX := hide (LTE.out.new KR.out)
                have BRX := hide (KR.out.blk BR.out fun f => f)
                have BPX := hide (KR.out.blk BP.out fun f => f)
                clear BR BP
                have d2 := cell_blk BPX.out 2 (v := .slice (some ⟨G, 0, none⟩) n (n + 3)) rfl
                have hqq : (ys.map (·.q) ++ ms)[fr]? = some (⟨nm', la, bu, cl, be, ba, ca, ji, (some ⟨g1, 0, none⟩, x.nl.length, x.nl.length + 20), (some ⟨g2, 0, none⟩, x.al.length, x.al.length + 20)⟩ : Nd) := by rw [List.getElem?_append_left (by rw [List.length_map]; have := HYL.out; omega), List.getElem?_map, HY.out]; rfl
                have HQ := hide hqq
                have nX := (RX.out.node fr (⟨nm', la, bu, cl, be, ba, ca, ji, (some ⟨g1, 0, none⟩, x.nl.length, x.nl.length + 20), (some ⟨g2, 0, none⟩, x.al.length, x.al.length + 20)⟩ : Nd) hqq) 8 _ rfl
                have fX := RX.out.froz (fr * 10 + 8)
                have hGX : G < wr.heap.size := RX.out.lt
                clear hqq
                go_upto_region 22 with fail
                obtain ⟨wy, hwy⟩ : ∃ wy, wy = wr.setCell ⟨G, fr * 10 + 8, none⟩ (.slice va (o.length) vc) := ⟨_, rfl⟩
                rw [← hwy]
                have KY : Hid (Keep (fun k => k = G) wr wy) := by show Keep _ _ _; rw [hwy]; exact keep_cell _ _ _ _
                have RY : Hid (RowsAt wy G ((ys.map (·.q) ++ ms).set fr (⟨nm', la, bu, cl, be, ba, ca, ji, (va, o.length, vc), (some ⟨g2, 0, none⟩, x.al.length, x.al.length + 20)⟩ : Nd))) := by show RowsAt _ _ _; rw [hwy]; exact RX.out.set1 HQ.out 8 (by omega) _ _ rfl
                have BR := hide (KY.out.blk BRX.out (show ¬ w.heap.size + 1 = G by omega))
                have BP := hide (KY.out.blk BPX.out (show ¬ D = G by omega))
                have OY := hide (ownsRow_keep OX.out KY.out fun i e1 e2 => by have := ownsRow_from OX.out e2; omega)
                have LY := hide (LX.out.keep KY.out (rows_typ RX.out))
                clear hwy d2 nX fX BRX BPX

                have THR := hide (blk_there (o := 0) (n := 3) BR.out (by show (3 : Nat) ≤ 3; decide))
                have d0 := cell_blk BP.out 0 (v := .string nm) rfl
                have d1 := cell_blk BP.out 1 (v := .int .i64 dl) rfl
                have d2 := cell_blk BP.out 2 (v := .slice (some ⟨G, 0, none⟩) n (n + 3)) rfl
                go_wp2_with (with_reducible refine wpList_store_mid rfl 24 _ _ rfl _ _ _ rfl rfl ?_ ?_ ?_ ?_)
                case refine_1 => exact THR.out
                case refine_2 => rw [info_plan3]; rfl
                case refine_3 => exact one3 _ _ _ _ _
                focus
                  have hF : (wy.setCells (w.heap.size + 1) 0 [.string nm, .int .i64 dl, .slice (some ⟨G, 0, none⟩) n (n + 3)]).heap[w.heap.size + 1]? = some (.cells [.string nm, .int .i64 dl, .slice (some ⟨G, 0, none⟩) n (n + 3)].toArray 24 (0, 0)) := (set_blk (set_blk (set_blk BR.out 0 (.string nm)) 1 (.int .i64 dl)) 2 (.slice (some ⟨G, 0, none⟩) n (n + 3))).trans rfl
                  have kF : Keep (fun k => k = w.heap.size + 1) wy (wy.setCells (w.heap.size + 1) 0 [.string nm, .int .i64 dl, .slice (some ⟨G, 0, none⟩) n (n + 3)]) := ((keep_cell _ _ 0 _).more (keep_cell _ _ 1 _)).more (keep_cell _ _ 2 _)
                  refine bodyPost_ret (res_plan2 rfl _ _ (w.heap.size + 1) _ _ _ rfl hF) rfl ?_
                  have OZ := ownsRow_keep OY.out kF fun i e1 e2 => by have := ownsRow_from OY.out e2; omega
                  obtain ⟨va', vc', hvv, hz⟩ := ownsRow_rdz OZ (by rw [ins_len]; omega)
                  injection hvv with f1 f2 f3
                  rw [← f1, ← f3] at hz
                  obtain ⟨_, _, _, hsm, _, _, _⟩ := hz.at (i := 0) (by show 0 < (ins t x.nl).length; rw [ins_len]; omega)
                  have hsm : va ≠ none := by intro h; rw [show va = some _ from hsm] at h; cases h
                  rw [← f2] at hz
                  have ht2 : ∀ k, k = w.heap.size + 1 → ∀ cs, wy.heap[k]? ≠ some (.cells cs 3 (0, 0)) := fun k hk cs hh => by
                    rw [hk, BR.out] at hh
                    injection hh with hh
                    injection hh with _ hh
                    exact absurd hh (by decide)
                  refine ⟨((KE.out.more KR.out).trans KY.out fun k e => .inr (by omega)).trans kF fun k e => .inr (by omega), (some ⟨G, 0, none⟩, n, n + 3), true, rfl, fun _ => ?_⟩
                  have hnn := HN.out
                  have cc := with_core (af := false) (c := n + 3) (sl' := (va, o.length, vc)) (RY.out.new kF (by omega)) (LY.out.keep kF ht2) HYL.out HX.out HY.out hn64 (fun x hx => by have := edges_ge hx; omega) HFK.out rfl hz hsm hft H12.out.1 H12.out.2
                  rw [← hnn] at cc
                  exact cc
              case false =>
                have hoe : ins t x.nl = o ++ [(t : Int)] := by simpa [ins] using r1
                clear r1 r2 r4 HD
                have kA1 := Keep.alloc (fun _ => False) wr (.cells #[.int .i64 (t : Int)] 3)
                have OA1 := hide (ownsRow_new OR.out kA1)
                have CA1 := hide (cell_one wr (.int .i64 (t : Int)) 3)
                have KA1 := hide (KR.out.more kA1)
                have hszA1 : D + 2 ≤ (wr.alloc (.cells #[.int .i64 (t : Int)] 3)).heap.size := by have := kA1.size; omega
                clear kA1
                go_upto_region 19 with (at_builtin; go_must (refine wp_append1 rfl _ _ rfl (D + 2) (.slice va o.length vc) o.length (zv o) rfl OA1.out ⟨wr.heap.size, 0, none⟩ ((t : Int)) rfl CA1.out (by omega) hszA1 ?_); intro v1 w9 o1 k1 _; have ON1 := hide o1; have KN1 := hide (KA1.out.trans k1 fun j e => .inr (by have := ownsRow_from OA1.out e; omega)); have hsz1 : D + 2 ≤ w9.heap.size := Nat.le_trans hszA1 k1.size; clear o1 k1 OA1 CA1 KA1 hszA1)
                obtain ⟨va1, vc1, hvs1⟩ := ownsRow_shape ON1.out
                subst hvs1
                have OX : Hid (w9.ownsRow (D + 2) 3 1 (.slice va1 (o.length + 1) vc1) (ins t x.nl).length ((ins t x.nl).map (Value.int .i64))) := by show World.ownsRow ..; rw [hoe, List.length_append]; simpa [zv] using ON1.out
                have RX := hide (RE.out.new KN1.out fun f => f)
                have LX := hide (LTE.out.new KN1.out)
                have BRX := hide (KN1.out.blk BR.out fun f => f)
                have BPX := hide (KN1.out.blk BP.out fun f => f)
                clear BR BP
                have d2 := cell_blk BPX.out 2 (v := .slice (some ⟨G, 0, none⟩) n (n + 3)) rfl
                have hqq : (ys.map (·.q) ++ ms)[fr]? = some (⟨nm', la, bu, cl, be, ba, ca, ji, (some ⟨g1, 0, none⟩, x.nl.length, x.nl.length + 20), (some ⟨g2, 0, none⟩, x.al.length, x.al.length + 20)⟩ : Nd) := by rw [List.getElem?_append_left (by rw [List.length_map]; have := HYL.out; omega), List.getElem?_map, HY.out]; rfl
                have HQ := hide hqq
                have nX := (RX.out.node fr (⟨nm', la, bu, cl, be, ba, ca, ji, (some ⟨g1, 0, none⟩, x.nl.length, x.nl.length + 20), (some ⟨g2, 0, none⟩, x.al.length, x.al.length + 20)⟩ : Nd) hqq) 8 _ rfl
                have fX := RX.out.froz (fr * 10 + 8)
                have hGX : G < w9.heap.size := RX.out.lt
                clear hqq
                go_upto_region 22 with fail
                obtain ⟨wy, hwy⟩ : ∃ wy, wy = w9.setCell ⟨G, fr * 10 + 8, none⟩ (.slice va1 (o.length + 1) vc1) := ⟨_, rfl⟩
                rw [← hwy]
                have KY : Hid (Keep (fun k => k = G) w9 wy) := by show Keep _ _ _; rw [hwy]; exact keep_cell _ _ _ _
                have RY : Hid (RowsAt wy G ((ys.map (·.q) ++ ms).set fr (⟨nm', la, bu, cl, be, ba, ca, ji, (va1, o.length + 1, vc1), (some ⟨g2, 0, none⟩, x.al.length, x.al.length + 20)⟩ : Nd))) := by show RowsAt _ _ _; rw [hwy]; exact RX.out.set1 HQ.out 8 (by omega) _ _ rfl
                have BR := hide (KY.out.blk BRX.out (show ¬ w.heap.size + 1 = G by omega))
                have BP := hide (KY.out.blk BPX.out (show ¬ D = G by omega))
                have OY := hide (ownsRow_keep OX.out KY.out fun i e1 e2 => by have := ownsRow_from OX.out e2; omega)
                have LY := hide (LX.out.keep KY.out (rows_typ RX.out))
                clear hwy d2 nX fX BRX BPX

                have THR := hide (blk_there (o := 0) (n := 3) BR.out (by show (3 : Nat) ≤ 3; decide))
                have d0 := cell_blk BP.out 0 (v := .string nm) rfl
                have d1 := cell_blk BP.out 1 (v := .int .i64 dl) rfl
                have d2 := cell_blk BP.out 2 (v := .slice (some ⟨G, 0, none⟩) n (n + 3)) rfl
                go_wp2_with (with_reducible refine wpList_store_mid rfl 24 _ _ rfl _ _ _ rfl rfl ?_ ?_ ?_ ?_)
                case refine_1 => exact THR.out
                case refine_2 => rw [info_plan3]; rfl
                case refine_3 => exact one3 _ _ _ _ _
                focus
                  have hF : (wy.setCells (w.heap.size + 1) 0 [.string nm, .int .i64 dl, .slice (some ⟨G, 0, none⟩) n (n + 3)]).heap[w.heap.size + 1]? = some (.cells [.string nm, .int .i64 dl, .slice (some ⟨G, 0, none⟩) n (n + 3)].toArray 24 (0, 0)) := (set_blk (set_blk (set_blk BR.out 0 (.string nm)) 1 (.int .i64 dl)) 2 (.slice (some ⟨G, 0, none⟩) n (n + 3))).trans rfl
                  have kF : Keep (fun k => k = w.heap.size + 1) wy (wy.setCells (w.heap.size + 1) 0 [.string nm, .int .i64 dl, .slice (some ⟨G, 0, none⟩) n (n + 3)]) := ((keep_cell _ _ 0 _).more (keep_cell _ _ 1 _)).more (keep_cell _ _ 2 _)
                  refine bodyPost_ret (res_plan2 rfl _ _ (w.heap.size + 1) _ _ _ rfl hF) rfl ?_
                  have OZ := ownsRow_keep OY.out kF fun i e1 e2 => by have := ownsRow_from OY.out e2; omega
                  obtain ⟨va', vc', hvv, hz⟩ := ownsRow_rdz OZ (by rw [ins_len]; omega)
                  injection hvv with f1 f2 f3
                  rw [← f1, ← f3] at hz
                  obtain ⟨_, _, _, hsm, _, _, _⟩ := hz.at (i := 0) (by show 0 < (ins t x.nl).length; rw [ins_len]; omega)
                  have hsm : va1 ≠ none := by intro h; rw [show va1 = some _ from hsm] at h; cases h
                  rw [← f2] at hz
                  have ht2 : ∀ k, k = w.heap.size + 1 → ∀ cs, wy.heap[k]? ≠ some (.cells cs 3 (0, 0)) := fun k hk cs hh => by
                    rw [hk, BR.out] at hh
                    injection hh with hh
                    injection hh with _ hh
                    exact absurd hh (by decide)
                  refine ⟨((KE.out.more KN1.out).trans KY.out fun k e => .inr (by omega)).trans kF fun k e => .inr (by omega), (some ⟨G, 0, none⟩, n, n + 3), true, rfl, fun _ => ?_⟩
                  have hnn := HN.out
                  have cc := with_core (af := false) (c := n + 3) (sl' := (va1, o.length + 1, vc1)) (RY.out.new kF (by omega)) (LY.out.keep kF ht2) HYL.out HX.out HY.out hn64 (fun x hx => by have := edges_ge hx; omega) HFK.out rfl hz hsm hft H12.out.1 H12.out.2
                  rw [← hnn] at cc
                  exact cc
        case true =>
          go_wp2_with fail
          go_loopw [13, 14, 15] (fun vv dv iv' wr => ∃ (i : Nat) (o : List Int) (v : Value) (d : Bool), vv = v ∧ dv = .bool d ∧ iv' = .int .i64 (i : Nat) ∧ i ≤ x.al.length ∧ Hid (ins t x.al = o ++ (if d then x.al.drop i else ins t (x.al.drop i)) ∧ wr.ownsRow (D + 2) 3 1 v o.length (zv o) ∧ D + 2 ≤ wr.heap.size ∧ Keep (fun _ => False) w8 wr)) (fun _ _ iv' _ => x.al.length - (intOf iv').toNat)
          case atStart => exact ⟨0, [], _, false, rfl, rfl, rfl, Nat.zero_le _, rfl, ON.out, by omega, Keep.refl _ _⟩
          case round =>
            obtain ⟨i, o, v, d, hvv, hdd, rfl, hi, HD⟩ := hrel
            subst hvv
            subst hdd
            obtain ⟨r1, r2, r3, r4⟩ := HD.out
            obtain ⟨va, vc, hvs⟩ := ownsRow_shape r2
            subst hvs
            have hol : o.length ≤ x.al.length + 1 := by have := congrArg List.length r1; rw [ins_len, List.length_append] at this; omega
            have OR := hide r2
            have KR := hide r4
            by_cases hlt : i < x.al.length
            · obtain ⟨e, he⟩ : ∃ e, x.al[i]? = some e := ⟨_, List.getElem?_eq_getElem hlt⟩
              have hdr : x.al.drop i = e :: x.al.drop (i + 1) := by rw [List.drop_eq_getElem_cons hlt, (List.getElem?_eq_some_iff.1 he).2]
              have OWN := hide (W2.out.keep r4 fun f => f)
              have hmi : (marked x.al)[i]? = some e := by unfold marked; rw [List.getElem?_append_left hlt]; exact he
              have hc0 := (OWN.out.at hmi).1
              rw [hdr] at r1
              have R1 := hide r1
              clear r1 r2 r4 HD hdr he
              cases d
              case true =>
                have kA1 := Keep.alloc (fun _ => False) wr (.cells #[.int .i64 e] 3)
                have OA1 := hide (ownsRow_new OR.out kA1)
                have CA1 := hide (cell_one wr (.int .i64 e) 3)
                have KA1 := hide (KR.out.more kA1)
                have hszA1 : D + 2 ≤ (wr.alloc (.cells #[.int .i64 e] 3)).heap.size := by have := kA1.size; omega
                clear kA1
                have hce := (OWN.out.keep (Keep.alloc (fun _ => False) wr (.cells #[.int .i64 e] 3)) fun f => f).at hmi
                clear hmi
                go_wp2_with (at_builtin; go_must (refine wp_append1 rfl _ _ rfl (D + 2) (.slice va o.length vc) o.length (zv o) rfl OA1.out ⟨wr.heap.size, 0, none⟩ (e) rfl CA1.out (by omega) hszA1 ?_); intro v1 w9 o1 k1 _; have ON1 := hide o1; have KN1 := hide (KA1.out.trans k1 fun j e => .inr (by have := ownsRow_from OA1.out e; omega)); have hsz1 : D + 2 ≤ w9.heap.size := Nat.le_trans hszA1 k1.size; clear o1 k1 OA1 CA1 KA1 hszA1)
                go_roundw
                · refine ⟨i + 1, o ++ [e], _, true, rfl, rfl, rfl, by omega, ?_, ?_, hsz1, KN1.out⟩
                  · have := R1.out; simpa using this
                  · have := ON1.out; rw [List.length_append]; simpa [zv] using this
                · show x.al.length - ((i : Int) + 1).toNat < x.al.length - (i : Int).toNat
                  omega
              case false =>
                by_cases hte : (t : Int) < e
                · have hgt : ¬ (e ≤ (t : Int)) := by omega
                  have kA1 := Keep.alloc (fun _ => False) wr (.cells #[.int .i64 (t : Int)] 3)
                  have OA1 := hide (ownsRow_new OR.out kA1)
                  have CA1 := hide (cell_one wr (.int .i64 (t : Int)) 3)
                  have KA1 := hide (KR.out.more kA1)
                  have hszA1 : D + 2 ≤ (wr.alloc (.cells #[.int .i64 (t : Int)] 3)).heap.size := by have := kA1.size; omega
                  clear kA1
                  go_upto_region 15 with (at_builtin; go_must (refine wp_append1 rfl _ _ rfl (D + 2) (.slice va o.length vc) o.length (zv o) rfl OA1.out ⟨wr.heap.size, 0, none⟩ ((t : Int)) rfl CA1.out (by omega) hszA1 ?_); intro v1 w9 o1 k1 _; have ON1 := hide o1; have KN1 := hide (KA1.out.trans k1 fun j e => .inr (by have := ownsRow_from OA1.out e; omega)); have hsz1 : D + 2 ≤ w9.heap.size := Nat.le_trans hszA1 k1.size; clear o1 k1 OA1 CA1 KA1 hszA1)
                  obtain ⟨va1, vc1, hvs1⟩ := ownsRow_shape ON1.out
                  subst hvs1
                  have hc1 := ((W2.out.keep KN1.out fun f => f).at hmi).1
                  have kA2 := Keep.alloc (fun _ => False) w9 (.cells #[.int .i64 e] 3)
                  have OA2 := hide (ownsRow_new ON1.out kA2)
                  have CA2 := hide (cell_one w9 (.int .i64 e) 3)
                  have KA2 := hide (KN1.out.more kA2)
                  have hszA2 : D + 2 ≤ (w9.alloc (.cells #[.int .i64 e] 3)).heap.size := by have := kA2.size; omega
                  clear kA2
                  go_wp2_with (at_builtin; go_must (refine wp_append1 rfl _ _ rfl (D + 2) (.slice va1 (o.length + 1) vc1) (o.length + 1) (zv o ++ [.int .i64 (t : Int)]) rfl OA2.out ⟨w9.heap.size, 0, none⟩ (e) rfl CA2.out (by omega) hszA2 ?_); intro v2 w10 o2 k2 _; have ON2 := hide o2; have KN2 := hide (KA2.out.trans k2 fun j e => .inr (by have := ownsRow_from OA2.out e; omega)); have hsz2 : D + 2 ≤ w10.heap.size := Nat.le_trans hszA2 k2.size; clear o2 k2 OA2 CA2 KA2 hszA2)
                  go_roundw
                  · refine ⟨i + 1, o ++ [(t : Int)] ++ [e], _, true, rfl, rfl, rfl, by omega, ?_, ?_, hsz2, KN2.out⟩
                    · have := R1.out; rw [if_neg (by simp), ins, if_pos hte] at this; simpa using this
                    · have := ON2.out; rw [List.length_append, List.length_append]; simpa [zv] using this
                  · show x.al.length - ((i : Int) + 1).toNat < x.al.length - (i : Int).toNat
                    omega
                · have hgt : e ≤ (t : Int) := by omega
                  have kA1 := Keep.alloc (fun _ => False) wr (.cells #[.int .i64 e] 3)
                  have OA1 := hide (ownsRow_new OR.out kA1)
                  have CA1 := hide (cell_one wr (.int .i64 e) 3)
                  have KA1 := hide (KR.out.more kA1)
                  have hszA1 : D + 2 ≤ (wr.alloc (.cells #[.int .i64 e] 3)).heap.size := by have := kA1.size; omega
                  clear kA1
                  go_wp2_with (at_builtin; go_must (refine wp_append1 rfl _ _ rfl (D + 2) (.slice va o.length vc) o.length (zv o) rfl OA1.out ⟨wr.heap.size, 0, none⟩ (e) rfl CA1.out (by omega) hszA1 ?_); intro v1 w9 o1 k1 _; have ON1 := hide o1; have KN1 := hide (KA1.out.trans k1 fun j e => .inr (by have := ownsRow_from OA1.out e; omega)); have hsz1 : D + 2 ≤ w9.heap.size := Nat.le_trans hszA1 k1.size; clear o1 k1 OA1 CA1 KA1 hszA1)
                  go_roundw
                  · refine ⟨i + 1, o ++ [e], _, false, rfl, rfl, rfl, by omega, ?_, ?_, hsz1, KN1.out⟩
                    · have := R1.out; rw [if_neg (by simp), ins, if_neg hte] at this; simpa using this
                    · have := ON1.out; rw [List.length_append]; simpa [zv] using this
                  · show x.al.length - ((i : Int) + 1).toNat < x.al.length - (i : Int).toNat
                    omega
            · obtain rfl : i = x.al.length := by omega
              rw [List.drop_length] at r1
              cases d
              case true =>
                have hoe : ins t x.al = o := by simpa using r1
                have OX : Hid (wr.ownsRow (D + 2) 3 1 (.slice va o.length vc) (ins t x.al).length ((ins t x.al).map (Value.int .i64))) := by rw [hoe]; exact r2
                clear r1 r2 r4 HD OR
                have RX := hide (RE.out.new KR.out fun f => f)
                have LX := hide (LTE.out.new KR.out)
                have BRX := hide (KR.out.blk BR.out fun f => f)
                have BPX := hide (KR.out.blk BP.out fun f => f)
                clear BR BP
                have d2 := cell_blk BPX.out 2 (v := .slice (some ⟨G, 0, none⟩) n (n + 3)) rfl
                have hqq : (ys.map (·.q) ++ ms)[fr]? = some (⟨nm', la, bu, cl, be, ba, ca, ji, (some ⟨g1, 0, none⟩, x.nl.length, x.nl.length + 20), (some ⟨g2, 0, none⟩, x.al.length, x.al.length + 20)⟩ : Nd) := by rw [List.getElem?_append_left (by rw [List.length_map]; have := HYL.out; omega), List.getElem?_map, HY.out]; rfl
                have HQ := hide hqq
                have nX := (RX.out.node fr (⟨nm', la, bu, cl, be, ba, ca, ji, (some ⟨g1, 0, none⟩, x.nl.length, x.nl.length + 20), (some ⟨g2, 0, none⟩, x.al.length, x.al.length + 20)⟩ : Nd) hqq) 9 _ rfl
                have fX := RX.out.froz (fr * 10 + 9)
                have hGX : G < wr.heap.size := RX.out.lt
                clear hqq
                go_upto_region 22 with fail
                obtain ⟨wy, hwy⟩ : ∃ wy, wy = wr.setCell ⟨G, fr * 10 + 9, none⟩ (.slice va (o.length) vc) := ⟨_, rfl⟩
                rw [← hwy]
                have KY : Hid (Keep (fun k => k = G) wr wy) := by show Keep _ _ _; rw [hwy]; exact keep_cell _ _ _ _
                have RY : Hid (RowsAt wy G ((ys.map (·.q) ++ ms).set fr (⟨nm', la, bu, cl, be, ba, ca, ji, (some ⟨g1, 0, none⟩, x.nl.length, x.nl.length + 20), (va, o.length, vc)⟩ : Nd))) := by show RowsAt _ _ _; rw [hwy]; exact RX.out.set1 HQ.out 9 (by omega) _ _ rfl
                have BR := hide (KY.out.blk BRX.out (show ¬ w.heap.size + 1 = G by omega))
                have BP := hide (KY.out.blk BPX.out (show ¬ D = G by omega))
                have OY := hide (ownsRow_keep OX.out KY.out fun i e1 e2 => by have := ownsRow_from OX.out e2; omega)
                have LY := hide (LX.out.keep KY.out (rows_typ RX.out))
                clear hwy d2 nX fX BRX BPX

                have THR := hide (blk_there (o := 0) (n := 3) BR.out (by show (3 : Nat) ≤ 3; decide))
                have d0 := cell_blk BP.out 0 (v := .string nm) rfl
                have d1 := cell_blk BP.out 1 (v := .int .i64 dl) rfl
                have d2 := cell_blk BP.out 2 (v := .slice (some ⟨G, 0, none⟩) n (n + 3)) rfl
                go_wp2_with (with_reducible refine wpList_store_mid rfl 24 _ _ rfl _ _ _ rfl rfl ?_ ?_ ?_ ?_)
                case refine_1 => exact THR.out
                case refine_2 => rw [info_plan3]; rfl
                case refine_3 => exact one3 _ _ _ _ _
                focus
                  have hF : (wy.setCells (w.heap.size + 1) 0 [.string nm, .int .i64 dl, .slice (some ⟨G, 0, none⟩) n (n + 3)]).heap[w.heap.size + 1]? = some (.cells [.string nm, .int .i64 dl, .slice (some ⟨G, 0, none⟩) n (n + 3)].toArray 24 (0, 0)) := (set_blk (set_blk (set_blk BR.out 0 (.string nm)) 1 (.int .i64 dl)) 2 (.slice (some ⟨G, 0, none⟩) n (n + 3))).trans rfl
                  have kF : Keep (fun k => k = w.heap.size + 1) wy (wy.setCells (w.heap.size + 1) 0 [.string nm, .int .i64 dl, .slice (some ⟨G, 0, none⟩) n (n + 3)]) := ((keep_cell _ _ 0 _).more (keep_cell _ _ 1 _)).more (keep_cell _ _ 2 _)
                  refine bodyPost_ret (res_plan2 rfl _ _ (w.heap.size + 1) _ _ _ rfl hF) rfl ?_
                  have OZ := ownsRow_keep OY.out kF fun i e1 e2 => by have := ownsRow_from OY.out e2; omega
                  obtain ⟨va', vc', hvv, hz⟩ := ownsRow_rdz OZ (by rw [ins_len]; omega)
                  injection hvv with f1 f2 f3
                  rw [← f1, ← f3] at hz
                  obtain ⟨_, _, _, hsm, _, _, _⟩ := hz.at (i := 0) (by show 0 < (ins t x.al).length; rw [ins_len]; omega)
                  have hsm : va ≠ none := by intro h; rw [show va = some _ from hsm] at h; cases h
                  rw [← f2] at hz
                  have ht2 : ∀ k, k = w.heap.size + 1 → ∀ cs, wy.heap[k]? ≠ some (.cells cs 3 (0, 0)) := fun k hk cs hh => by
                    rw [hk, BR.out] at hh
                    injection hh with hh
                    injection hh with _ hh
                    exact absurd hh (by decide)
                  refine ⟨((KE.out.more KR.out).trans KY.out fun k e => .inr (by omega)).trans kF fun k e => .inr (by omega), (some ⟨G, 0, none⟩, n, n + 3), true, rfl, fun _ => ?_⟩
                  have hnn := HN.out
                  have cc := with_core (af := true) (c := n + 3) (sl' := (va, o.length, vc)) (RY.out.new kF (by omega)) (LY.out.keep kF ht2) HYL.out HX.out HY.out hn64 (fun x hx => by have := edges_ge hx; omega) HFK.out rfl hz hsm hft H12.out.1 H12.out.2
                  rw [← hnn] at cc
                  exact cc
              case false =>
                have hoe : ins t x.al = o ++ [(t : Int)] := by simpa [ins] using r1
                clear r1 r2 r4 HD
                have kA1 := Keep.alloc (fun _ => False) wr (.cells #[.int .i64 (t : Int)] 3)
                have OA1 := hide (ownsRow_new OR.out kA1)
                have CA1 := hide (cell_one wr (.int .i64 (t : Int)) 3)
                have KA1 := hide (KR.out.more kA1)
                have hszA1 : D + 2 ≤ (wr.alloc (.cells #[.int .i64 (t : Int)] 3)).heap.size := by have := kA1.size; omega
                clear kA1
                go_upto_region 19 with (at_builtin; go_must (refine wp_append1 rfl _ _ rfl (D + 2) (.slice va o.length vc) o.length (zv o) rfl OA1.out ⟨wr.heap.size, 0, none⟩ ((t : Int)) rfl CA1.out (by omega) hszA1 ?_); intro v1 w9 o1 k1 _; have ON1 := hide o1; have KN1 := hide (KA1.out.trans k1 fun j e => .inr (by have := ownsRow_from OA1.out e; omega)); have hsz1 : D + 2 ≤ w9.heap.size := Nat.le_trans hszA1 k1.size; clear o1 k1 OA1 CA1 KA1 hszA1)
                obtain ⟨va1, vc1, hvs1⟩ := ownsRow_shape ON1.out
                subst hvs1
                have OX : Hid (w9.ownsRow (D + 2) 3 1 (.slice va1 (o.length + 1) vc1) (ins t x.al).length ((ins t x.al).map (Value.int .i64))) := by show World.ownsRow ..; rw [hoe, List.length_append]; simpa [zv] using ON1.out
                have RX := hide (RE.out.new KN1.out fun f => f)
                have LX := hide (LTE.out.new KN1.out)
                have BRX := hide (KN1.out.blk BR.out fun f => f)
                have BPX := hide (KN1.out.blk BP.out fun f => f)
                clear BR BP
                have d2 := cell_blk BPX.out 2 (v := .slice (some ⟨G, 0, none⟩) n (n + 3)) rfl
                have hqq : (ys.map (·.q) ++ ms)[fr]? = some (⟨nm', la, bu, cl, be, ba, ca, ji, (some ⟨g1, 0, none⟩, x.nl.length, x.nl.length + 20), (some ⟨g2, 0, none⟩, x.al.length, x.al.length + 20)⟩ : Nd) := by rw [List.getElem?_append_left (by rw [List.length_map]; have := HYL.out; omega), List.getElem?_map, HY.out]; rfl
                have HQ := hide hqq
                have nX := (RX.out.node fr (⟨nm', la, bu, cl, be, ba, ca, ji, (some ⟨g1, 0, none⟩, x.nl.length, x.nl.length + 20), (some ⟨g2, 0, none⟩, x.al.length, x.al.length + 20)⟩ : Nd) hqq) 9 _ rfl
                have fX := RX.out.froz (fr * 10 + 9)
                have hGX : G < w9.heap.size := RX.out.lt
                clear hqq
                go_upto_region 22 with fail
                obtain ⟨wy, hwy⟩ : ∃ wy, wy = w9.setCell ⟨G, fr * 10 + 9, none⟩ (.slice va1 (o.length + 1) vc1) := ⟨_, rfl⟩
                rw [← hwy]
                have KY : Hid (Keep (fun k => k = G) w9 wy) := by show Keep _ _ _; rw [hwy]; exact keep_cell _ _ _ _
                have RY : Hid (RowsAt wy G ((ys.map (·.q) ++ ms).set fr (⟨nm', la, bu, cl, be, ba, ca, ji, (some ⟨g1, 0, none⟩, x.nl.length, x.nl.length + 20), (va1, o.length + 1, vc1)⟩ : Nd))) := by show RowsAt _ _ _; rw [hwy]; exact RX.out.set1 HQ.out 9 (by omega) _ _ rfl
                have BR := hide (KY.out.blk BRX.out (show ¬ w.heap.size + 1 = G by omega))
                have BP := hide (KY.out.blk BPX.out (show ¬ D = G by omega))
                have OY := hide (ownsRow_keep OX.out KY.out fun i e1 e2 => by have := ownsRow_from OX.out e2; omega)
                have LY := hide (LX.out.keep KY.out (rows_typ RX.out))
                clear hwy d2 nX fX BRX BPX

                have THR := hide (blk_there (o := 0) (n := 3) BR.out (by show (3 : Nat) ≤ 3; decide))
                have d0 := cell_blk BP.out 0 (v := .string nm) rfl
                have d1 := cell_blk BP.out 1 (v := .int .i64 dl) rfl
                have d2 := cell_blk BP.out 2 (v := .slice (some ⟨G, 0, none⟩) n (n + 3)) rfl
                go_wp2_with (with_reducible refine wpList_store_mid rfl 24 _ _ rfl _ _ _ rfl rfl ?_ ?_ ?_ ?_)
                case refine_1 => exact THR.out
                case refine_2 => rw [info_plan3]; rfl
                case refine_3 => exact one3 _ _ _ _ _
                focus
                  have hF : (wy.setCells (w.heap.size + 1) 0 [.string nm, .int .i64 dl, .slice (some ⟨G, 0, none⟩) n (n + 3)]).heap[w.heap.size + 1]? = some (.cells [.string nm, .int .i64 dl, .slice (some ⟨G, 0, none⟩) n (n + 3)].toArray 24 (0, 0)) := (set_blk (set_blk (set_blk BR.out 0 (.string nm)) 1 (.int .i64 dl)) 2 (.slice (some ⟨G, 0, none⟩) n (n + 3))).trans rfl
                  have kF : Keep (fun k => k = w.heap.size + 1) wy (wy.setCells (w.heap.size + 1) 0 [.string nm, .int .i64 dl, .slice (some ⟨G, 0, none⟩) n (n + 3)]) := ((keep_cell _ _ 0 _).more (keep_cell _ _ 1 _)).more (keep_cell _ _ 2 _)
                  refine bodyPost_ret (res_plan2 rfl _ _ (w.heap.size + 1) _ _ _ rfl hF) rfl ?_
                  have OZ := ownsRow_keep OY.out kF fun i e1 e2 => by have := ownsRow_from OY.out e2; omega
                  obtain ⟨va', vc', hvv, hz⟩ := ownsRow_rdz OZ (by rw [ins_len]; omega)
                  injection hvv with f1 f2 f3
                  rw [← f1, ← f3] at hz
                  obtain ⟨_, _, _, hsm, _, _, _⟩ := hz.at (i := 0) (by show 0 < (ins t x.al).length; rw [ins_len]; omega)
                  have hsm : va1 ≠ none := by intro h; rw [show va1 = some _ from hsm] at h; cases h
                  rw [← f2] at hz
                  have ht2 : ∀ k, k = w.heap.size + 1 → ∀ cs, wy.heap[k]? ≠ some (.cells cs 3 (0, 0)) := fun k hk cs hh => by
                    rw [hk, BR.out] at hh
                    injection hh with hh
                    injection hh with _ hh
                    exact absurd hh (by decide)
                  refine ⟨((KE.out.more KN1.out).trans KY.out fun k e => .inr (by omega)).trans kF fun k e => .inr (by omega), (some ⟨G, 0, none⟩, n, n + 3), true, rfl, fun _ => ?_⟩
                  have hnn := HN.out
                  have cc := with_core (af := true) (c := n + 3) (sl' := (va1, o.length + 1, vc1)) (RY.out.new kF (by omega)) (LY.out.keep kF ht2) HYL.out HX.out HY.out hn64 (fun x hx => by have := edges_ge hx; omega) HFK.out rfl hz hsm hft H12.out.1 H12.out.2
                  rw [← hnn] at cc
                  exact cc
end Gr
end Go.Proofs.Ytljfomaiikpdjaa
