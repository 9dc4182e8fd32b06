/- The document's expressions: item. -/
import Derived.Test.YtbgioclbjbmicaaDoorXRs3
import Derived.Deep.Cut
namespace Go.Proofs.YtbgioclbjbmicaaDoor
open Go.RowKit

/-- A row of strings that is not empty, opened. -/
theorem StrEnd.rows {L : List (List UInt8)} {M : Nat} {w w' : World} {e : Ending} (h : StrEnd L M w e w') (hL : L ≠ []) :
    ∃ (g cap : Nat) (ws : List ByteArray), e = .returned (.slice (some ⟨g, 0, none⟩) ws.length cap) ∧ ws.map (·.data.toList) = L ∧ (∀ x ∈ ws, x.size ≤ M) ∧ (∀ j x, ws[j]? = some x → w'.cell? ⟨g, j, none⟩ = some (.string x)) ∧ w.heap.size ≤ g ∧ g < w'.heap.size := by
  obtain ⟨v, ws, rfl, h1, h2, hown⟩ := h
  have hn : ws.length ≠ 0 := by intro k; rw [List.eq_nil_of_length_eq_zero k] at h1; exact hL h1.symm
  rcases hown.2 with ⟨_, hn'⟩ | ⟨g, cap, cur, k1, k2, k3⟩
  · exact absurd hn' hn
  · have hc : ∀ j x, ws[j]? = some x → w'.cell? ⟨g, j, none⟩ = some (.string x) := by
      intro j x hx
      have hj : j < ws.length := (List.getElem?_eq_some_iff.1 hx).1
      subst k1
      rw [World.ownsRow.cellAt hown j (by omega)]
      simp [strs, hx]
    refine ⟨g, cap, ws, by rw [k1], h1, h2, hc, k2, ?_⟩
    obtain ⟨x, hx⟩ : ∃ x, ws[0]? = some x := ⟨_, List.getElem?_eq_getElem (by omega)⟩
    exact World.block_lt_of_cell? _ ⟨g, 0, none⟩ (hc 0 x hx)
theorem map_one {ws : List ByteArray} {a : List UInt8} (h : ws.map (·.data.toList) = [a]) : ∃ x, ws = [x] ∧ x.data.toList = a := by
  match ws, h with
  | [x], h => simp at h; exact ⟨x, rfl, h⟩
theorem map_two {ws : List ByteArray} {a b : List UInt8} (h : ws.map (·.data.toList) = [a, b]) : ∃ x y, ws = [x, y] ∧ x.data.toList = a ∧ y.data.toList = b := by
  match ws, h with
  | [x, y], h => simp at h; exact ⟨x, y, rfl, h.1, h.2⟩
def RItemIs (l : List UInt8) (lo hi : Nat) (a b k : Int) (ok : Bool) : Prop :=
  match X.itemM l lo hi with
  | none => ok = false
  | some q => ok = true ∧ a = q.1 ∧ b = q.2.1 ∧ k = q.2.2
def RItemEnd (l : List UInt8) (lo hi : Nat) (e : Ending) : Prop := ∃ (a b k : Int) (ok : Bool), e = .returned (.tuple #[.int .i64 a, .int .i64 b, .int .i64 k, .bool ok]) ∧ RItemIs l lo hi a b k ok
theorem RItemEnd.no {l : List UInt8} {lo hi : Nat} {a b k : Int} (h : X.itemM l lo hi = none) : RItemEnd l lo hi (.returned (.tuple #[.int .i64 a, .int .i64 b, .int .i64 k, .bool false])) := ⟨a, b, k, false, rfl, by unfold RItemIs; rw [h]⟩
theorem RItemEnd.yes {l : List UInt8} {lo hi : Nat} {a b k : Int} {q : Nat × Nat × Nat} (h : X.itemM l lo hi = some q) (ha : a = q.1) (hb : b = q.2.1) (hk : k = q.2.2) : RItemEnd l lo hi (.returned (.tuple #[.int .i64 a, .int .i64 b, .int .i64 k, .bool true])) := ⟨a, b, k, true, rfl, by unfold RItemIs; rw [h]; exact ⟨rfl, ha, hb, hk⟩⟩
theorem star_yes {x : ByteArray} (h : x.data.toList = [42]) : (x.toList == [42]) = true := by rw [Lib.toList_data, h]; rfl
theorem star_no {x : ByteArray} (h : x.data.toList ≠ [42]) : (x.toList == [42]) = false := by rw [Lib.toList_data]; simpa using h
set_option maxHeartbeats 4000000 in
set_option maxRecDepth 100000 in
theorem item_p1 (s : ByteArray) (hs : s.size ≤ 1024) (f : Nat) (hf : f < 5) (h1 : (47 : UInt8) ∉ s.data.toList) (hsp : X.splitOn 47 s.data.toList = [s.data.toList]) (w : World) :
    Calls Tryd.prog 59 #[.string s, .int .i64 f] w fun e w' => RItemEnd s.data.toList (X.loF f) (X.hiF f) e ∧ Below w.heap.size w w' := by
  have hlh := X.loF_le f
  generalize hLo : X.loF f = lo at *
  generalize hHi : X.hiF f = hi at *
  have hh99 : hi ≤ 99 := by omega
  have hit : X.itemM s.data.toList lo hi = match X.spanM s.data.toList lo hi with | some (a, b, _) => some (a, b, 1) | none => none := X.item_none lo hi h1
  have HI := hide hit
  have HLo := hide hLo
  have HHi := hide hHi
  clear hit hLo hHi
  go_enter Tryd.func59, Tryd.ntmps59
  go_wp2_with fail
  go_at_call 63
  refine (least_any f hf _).mono ?_
  rintro e w0 ⟨rfl, rfl⟩
  rw [HLo.out]
  go_wp2_with fail
  go_at_call 57
  refine (greatest_any f hf _).mono ?_
  rintro e w1 ⟨rfl, hb1⟩
  rw [HHi.out]
  go_wp2_with fail
  go_at_call 58
  refine (refSplit_any s (by omega) 47 _).mono ?_
  rintro e w2 ⟨hse, hb2⟩
  obtain ⟨g, cap, ws, rfl, hws, hwz, hcl, hg1, hg2⟩ := hse.rows (X.splitOn_ne _ _)
  have HB2 := hide (hb1.trans (hb2.mono hb1.size))
  clear hse hb1 hb2
  rw [hsp] at hws
  obtain ⟨x, rfl, hx⟩ := map_one hws
  have c0 : w2.cell? ⟨g, 0, none⟩ = some (.string x) := hcl 0 x rfl
  have hxz := hwz x (by simp)
  have HIx : Hid (X.itemM s.data.toList lo hi = match X.spanM x.data.toList lo hi with | some (a, b, _) => some (a, b, 1) | none => none) := by rw [hx]; exact HI.out
  clear hcl hwz hws hsp HI hx h1
  go_upto_region 11 with fail
  by_cases hsr : x.data.toList = [42]
  · have hs1 := star_yes hsr
    have hI := HIx.out
    rw [hsr, X.span_star] at hI
    try rw [if_neg (by decide)] at hI
    have HIq := hide hI
    clear hI HIx
    go_wp2_with fail
    go_returns
    exact ⟨.yes HIq.out rfl rfl (rfl), HB2.out⟩
  · have hs1 := star_no hsr
    go_wp2_with fail
    go_at_call 58
    refine (refSplit_any x (by omega) 45 _).mono ?_
    rintro e w4 ⟨hse, hb4⟩
    obtain ⟨g4, cap4, vs, rfl, hvs, hvz, hvl, hg3, hg4⟩ := hse.rows (X.splitOn_ne _ _)
    have HB4 := hide (HB2.out.trans (hb4.mono HB2.out.size))
    clear hse hb4 c0
    rcases X.shape 45 x.data.toList with ⟨hn, he⟩ | ⟨p, q, he0, hn, hn', he⟩ | ⟨p, q, he0, hn, hn', he⟩
    · rw [he] at hvs
      obtain ⟨u, rfl, hu⟩ := map_one hvs
      have hI := HIx.out
      rw [X.span_one lo hi hh99 hsr hn] at hI
      rw [← hu] at hI
      have d0 : w4.cell? ⟨g4, 0, none⟩ = some (.string u) := hvl 0 u rfl
      have huz := hvz u (by simp)
      clear hvl hvz hvs he hn HIx hu
      have hub := X.rnI_bd u.data.toList
      generalize huu : X.rnI u.data.toList = uu at *
      have HUU := hide huu
      clear huu
      have HIq := hide hI
      clear hI
      by_cases t1 : (lo : Int) ≤ uu
      · by_cases t2 : uu ≤ hi
        · have hq := HIq.out
          rw [if_pos ⟨t1, t2⟩] at hq
          have HQ := hide hq
          clear hq HIq
          go_wp2_with (go_at_call 70; refine (refNumber_any u (by omega) _).mono ?_; rintro e w5 ⟨rfl, rfl⟩; rw [HUU.out])
          go_returns
          exact ⟨.yes HQ.out (by simp; omega) (by simp; omega) rfl, HB4.out⟩
        · have hq := HIq.out
          rw [if_neg (by omega)] at hq
          have HQ := hide hq
          clear hq HIq
          have t4 : decide (uu ≤ (hi : Int)) = false := decide_eq_false t2
          go_wp2_with (go_at_call 70; refine (refNumber_any u (by omega) _).mono ?_; rintro e w5 ⟨rfl, rfl⟩; rw [HUU.out])
          go_returns
          first | exact ⟨.no HQ.out, HB4.out⟩ | (rw [t4]; exact ⟨.no HQ.out, HB4.out⟩)
      · have hq := HIq.out
        rw [if_neg (by omega)] at hq
        have HQ := hide hq
        clear hq HIq
        go_wp2_with (go_at_call 70; refine (refNumber_any u (by omega) _).mono ?_; rintro e w5 ⟨rfl, rfl⟩; rw [HUU.out])
        go_returns
        exact ⟨.no HQ.out, HB4.out⟩
    · rw [he] at hvs
      obtain ⟨u, v, rfl, hu, hv⟩ := map_two hvs
      have hI := HIx.out
      rw [he0, X.span_two lo hi hh99 hn] at hI
      rw [← hu, ← hv] at hI
      have d0 : w4.cell? ⟨g4, 0, none⟩ = some (.string u) := hvl 0 u rfl
      have d1 : w4.cell? ⟨g4, 1, none⟩ = some (.string v) := hvl 1 v rfl
      have huz := hvz u (by simp)
      have hvz' := hvz v (by simp)
      clear hvl hvz hvs he hn hn' he0 HIx hu hv
      have hub := X.rnI_bd u.data.toList
      have hvb := X.rnI_bd v.data.toList
      generalize huu : X.rnI u.data.toList = uu at *
      generalize hvv : X.rnI v.data.toList = vv at *
      have HUU := hide huu
      have HVV := hide hvv
      clear huu hvv
      have HIq := hide hI
      clear hI
      have hok : (decide ((lo : Int) ≤ uu) && decide (uu ≤ vv) && decide (vv ≤ hi)) = decide ((lo : Int) ≤ uu ∧ uu ≤ vv ∧ vv ≤ hi) := by simp [Bool.and_assoc]
      by_cases t1 : (lo : Int) ≤ uu
      · by_cases t3 : uu ≤ vv
        · by_cases t2 : vv ≤ hi
          · have hq := HIq.out
            rw [if_pos ⟨t1, t3, t2⟩] at hq
            have HQ := hide hq
            clear hq HIq hok
            go_wp2_with (first
              | (go_at_call 70; refine (refNumber_any v (by omega) w5).mono ?_; rintro e w6 ⟨rfl, rfl⟩; rw [HVV.out])
              | (go_at_call 70; refine (refNumber_any u (by omega) _).mono ?_; rintro e w5 ⟨rfl, rfl⟩; rw [HUU.out]))
            go_returns
            exact ⟨.yes HQ.out (by simp; omega) (by simp; omega) (rfl), HB4.out⟩
          · have hq := HIq.out
            rw [if_neg (by omega)] at hq
            have HQ := hide hq
            clear hq HIq hok
            go_wp2_with (first
              | (go_at_call 70; refine (refNumber_any v (by omega) w5).mono ?_; rintro e w6 ⟨rfl, rfl⟩; rw [HVV.out])
              | (go_at_call 70; refine (refNumber_any u (by omega) _).mono ?_; rintro e w5 ⟨rfl, rfl⟩; rw [HUU.out]))
            go_returns
            first | exact ⟨.no HQ.out, HB4.out⟩ | (rw [show decide (vv ≤ (hi : Int)) = false from decide_eq_false (by omega)]; exact ⟨.no HQ.out, HB4.out⟩)
        · have hq := HIq.out
          rw [if_neg (by omega)] at hq
          have HQ := hide hq
          clear hq HIq hok
          go_wp2_with (first
            | (go_at_call 70; refine (refNumber_any v (by omega) w5).mono ?_; rintro e w6 ⟨rfl, rfl⟩; rw [HVV.out])
            | (go_at_call 70; refine (refNumber_any u (by omega) _).mono ?_; rintro e w5 ⟨rfl, rfl⟩; rw [HUU.out]))
          go_returns
          exact ⟨.no HQ.out, HB4.out⟩
      · have hq := HIq.out
        rw [if_neg (by omega)] at hq
        have HQ := hide hq
        clear hq HIq hok
        go_wp2_with (first
          | (go_at_call 70; refine (refNumber_any v (by omega) w5).mono ?_; rintro e w6 ⟨rfl, rfl⟩; rw [HVV.out])
          | (go_at_call 70; refine (refNumber_any u (by omega) _).mono ?_; rintro e w5 ⟨rfl, rfl⟩; rw [HUU.out]))
        go_returns
        exact ⟨.no HQ.out, HB4.out⟩
    · have hvn : 2 < vs.length := by
        have := congrArg List.length hvs
        rw [List.length_map] at this; omega
      have hI := HIx.out
      rw [he0, X.span_two lo hi hh99 hn, X.rnI_sign (by decide) hn', if_neg (by omega)] at hI
      have HQ := hide hI
      clear hI HIx hvl hvz hvs he hn hn' he0
      have i2 : (2 : Int) < vs.length := by omega
      generalize vs.length = vn at *
      go_wp2_with fail
      go_returns
      exact ⟨.no HQ.out, HB4.out⟩
set_option maxHeartbeats 4000000 in
set_option maxRecDepth 100000 in
theorem item_p2 (s : ByteArray) (hs : s.size ≤ 1024) (f : Nat) (hf : f < 5) (a r : List UInt8) (hl : s.data.toList = a ++ 47 :: r) (h1 : (47 : UInt8) ∉ a) (hsp : X.splitOn 47 s.data.toList = [a, r]) (w : World) :
    Calls Tryd.prog 59 #[.string s, .int .i64 f] w fun e w' => RItemEnd s.data.toList (X.loF f) (X.hiF f) e ∧ Below w.heap.size w w' := by
  have hlh := X.loF_le f
  generalize hLo : X.loF f = lo at *
  generalize hHi : X.hiF f = hi at *
  have hh99 : hi ≤ 99 := by omega
  have hit : X.itemM s.data.toList lo hi = if 1 ≤ X.rnI r ∧ X.rnI r ≤ hi then (match X.spanM a lo hi with | some (x, y, s) => if s = true then none else some (x, y, (X.rnI r).toNat) | none => none) else none := by rw [hl]; exact X.item_hit lo hi hh99 h1
  have HI := hide hit
  have HLo := hide hLo
  have HHi := hide hHi
  clear hit hLo hHi
  go_enter Tryd.func59, Tryd.ntmps59
  go_wp2_with fail
  go_at_call 63
  refine (least_any f hf _).mono ?_
  rintro e w0 ⟨rfl, rfl⟩
  rw [HLo.out]
  go_wp2_with fail
  go_at_call 57
  refine (greatest_any f hf _).mono ?_
  rintro e w1 ⟨rfl, hb1⟩
  rw [HHi.out]
  go_wp2_with fail
  go_at_call 58
  refine (refSplit_any s (by omega) 47 _).mono ?_
  rintro e w2 ⟨hse, hb2⟩
  obtain ⟨g, cap, ws, rfl, hws, hwz, hcl, hg1, hg2⟩ := hse.rows (X.splitOn_ne _ _)
  have HB2 := hide (hb1.trans (hb2.mono hb1.size))
  clear hse hb1 hb2
  rw [hsp] at hws
  obtain ⟨x, y, rfl, hx, hy⟩ := map_two hws
  have c0 : w2.cell? ⟨g, 0, none⟩ = some (.string x) := hcl 0 x rfl
  have c1 : w2.cell? ⟨g, 1, none⟩ = some (.string y) := hcl 1 y rfl
  have hxz := hwz x (by simp)
  have hyz := hwz y (by simp)
  have HIx : Hid (X.itemM s.data.toList lo hi = if 1 ≤ X.rnI y.data.toList ∧ X.rnI y.data.toList ≤ hi then (match X.spanM x.data.toList lo hi with | some (x, y', s) => if s = true then none else some (x, y', (X.rnI y.data.toList).toNat) | none => none) else none) := by rw [hx, hy]; exact HI.out
  clear hcl hwz hws hsp HI hx hy hl h1
  have hrb := X.rnI_bd y.data.toList
  generalize hkk : X.rnI y.data.toList = kk at *
  have HKK := hide hkk
  clear hkk
  by_cases hst : 1 ≤ kk ∧ kk ≤ hi
  · rw [if_pos hst] at HIx
    obtain ⟨kn, rfl⟩ : ∃ kn : Nat, kk = kn := ⟨kk.toNat, by omega⟩
    have k1 : ¬ (kn : Int) < 1 := by omega
    have k2 : ¬ (hi : Int) < kn := by omega
    go_upto_region 11 with (go_at_call 70; refine (refNumber_any y (by omega) _).mono ?_; rintro e w3 ⟨rfl, rfl⟩; rw [HKK.out])
    by_cases hsr : x.data.toList = [42]
    · have hs1 := star_yes hsr
      have hI := HIx.out
      rw [hsr, X.span_star] at hI
      try rw [if_neg (by decide)] at hI
      have HIq := hide hI
      clear hI HIx
      go_wp2_with fail
      go_returns
      exact ⟨.yes HIq.out rfl rfl (by simp), HB2.out⟩
    · have hs1 := star_no hsr
      go_wp2_with fail
      go_at_call 58
      refine (refSplit_any x (by omega) 45 _).mono ?_
      rintro e w4 ⟨hse, hb4⟩
      obtain ⟨g4, cap4, vs, rfl, hvs, hvz, hvl, hg3, hg4⟩ := hse.rows (X.splitOn_ne _ _)
      have HB4 := hide (HB2.out.trans (hb4.mono HB2.out.size))
      clear hse hb4 c0
      rcases X.shape 45 x.data.toList with ⟨hn, he⟩ | ⟨p, q, he0, hn, hn', he⟩ | ⟨p, q, he0, hn, hn', he⟩
      · rw [he] at hvs
        obtain ⟨u, rfl, hu⟩ := map_one hvs
        have hI := HIx.out
        rw [X.span_one lo hi hh99 hsr hn] at hI
        rw [← hu] at hI
        have d0 : w4.cell? ⟨g4, 0, none⟩ = some (.string u) := hvl 0 u rfl
        have huz := hvz u (by simp)
        clear hvl hvz hvs he hn HIx hu
        have hno : X.itemM s.data.toList lo hi = none := by rw [hI]; split <;> simp_all
        have HNo := hide hno
        clear hno hI
        go_wp2_with fail
        go_returns
        exact ⟨.no HNo.out, HB4.out⟩
      · rw [he] at hvs
        obtain ⟨u, v, rfl, hu, hv⟩ := map_two hvs
        have hI := HIx.out
        rw [he0, X.span_two lo hi hh99 hn] at hI
        rw [← hu, ← hv] at hI
        have d0 : w4.cell? ⟨g4, 0, none⟩ = some (.string u) := hvl 0 u rfl
        have d1 : w4.cell? ⟨g4, 1, none⟩ = some (.string v) := hvl 1 v rfl
        have huz := hvz u (by simp)
        have hvz' := hvz v (by simp)
        clear hvl hvz hvs he hn hn' he0 HIx hu hv
        have hub := X.rnI_bd u.data.toList
        have hvb := X.rnI_bd v.data.toList
        generalize huu : X.rnI u.data.toList = uu at *
        generalize hvv : X.rnI v.data.toList = vv at *
        have HUU := hide huu
        have HVV := hide hvv
        clear huu hvv
        have HIq := hide hI
        clear hI
        have hok : (decide ((lo : Int) ≤ uu) && decide (uu ≤ vv) && decide (vv ≤ hi)) = decide ((lo : Int) ≤ uu ∧ uu ≤ vv ∧ vv ≤ hi) := by simp [Bool.and_assoc]
        by_cases t1 : (lo : Int) ≤ uu
        · by_cases t3 : uu ≤ vv
          · by_cases t2 : vv ≤ hi
            · have hq := HIq.out
              rw [if_pos ⟨t1, t3, t2⟩] at hq
              have HQ := hide hq
              clear hq HIq hok
              go_wp2_with (first
                | (go_at_call 70; refine (refNumber_any v (by omega) w5).mono ?_; rintro e w6 ⟨rfl, rfl⟩; rw [HVV.out])
                | (go_at_call 70; refine (refNumber_any u (by omega) _).mono ?_; rintro e w5 ⟨rfl, rfl⟩; rw [HUU.out]))
              go_returns
              exact ⟨.yes HQ.out (by simp; omega) (by simp; omega) (by simp), HB4.out⟩
            · have hq := HIq.out
              rw [if_neg (by omega)] at hq
              have HQ := hide hq
              clear hq HIq hok
              go_wp2_with (first
                | (go_at_call 70; refine (refNumber_any v (by omega) w5).mono ?_; rintro e w6 ⟨rfl, rfl⟩; rw [HVV.out])
                | (go_at_call 70; refine (refNumber_any u (by omega) _).mono ?_; rintro e w5 ⟨rfl, rfl⟩; rw [HUU.out]))
              go_returns
              first | exact ⟨.no HQ.out, HB4.out⟩ | (rw [show decide (vv ≤ (hi : Int)) = false from decide_eq_false (by omega)]; exact ⟨.no HQ.out, HB4.out⟩)
          · have hq := HIq.out
            rw [if_neg (by omega)] at hq
            have HQ := hide hq
            clear hq HIq hok
            go_wp2_with (first
              | (go_at_call 70; refine (refNumber_any v (by omega) w5).mono ?_; rintro e w6 ⟨rfl, rfl⟩; rw [HVV.out])
              | (go_at_call 70; refine (refNumber_any u (by omega) _).mono ?_; rintro e w5 ⟨rfl, rfl⟩; rw [HUU.out]))
            go_returns
            exact ⟨.no HQ.out, HB4.out⟩
        · have hq := HIq.out
          rw [if_neg (by omega)] at hq
          have HQ := hide hq
          clear hq HIq hok
          go_wp2_with (first
            | (go_at_call 70; refine (refNumber_any v (by omega) w5).mono ?_; rintro e w6 ⟨rfl, rfl⟩; rw [HVV.out])
            | (go_at_call 70; refine (refNumber_any u (by omega) _).mono ?_; rintro e w5 ⟨rfl, rfl⟩; rw [HUU.out]))
          go_returns
          exact ⟨.no HQ.out, HB4.out⟩
      · have hvn : 2 < vs.length := by
          have := congrArg List.length hvs
          rw [List.length_map] at this; omega
        have hI := HIx.out
        rw [he0, X.span_two lo hi hh99 hn, X.rnI_sign (by decide) hn', if_neg (by omega)] at hI
        have HQ := hide hI
        clear hI HIx hvl hvz hvs he hn hn' he0
        have i2 : (2 : Int) < vs.length := by omega
        generalize vs.length = vn at *
        go_wp2_with fail
        go_returns
        exact ⟨.no HQ.out, HB4.out⟩
  · rw [if_neg hst] at HIx
    by_cases k1 : kk < 1
    · go_wp2_with (go_at_call 70; refine (refNumber_any y (by omega) _).mono ?_; rintro e w3 ⟨rfl, rfl⟩; rw [HKK.out])
      go_returns
      exact ⟨.no HIx.out, HB2.out⟩
    · have k2 : (hi : Int) < kk := by omega
      go_wp2_with (go_at_call 70; refine (refNumber_any y (by omega) _).mono ?_; rintro e w3 ⟨rfl, rfl⟩; rw [HKK.out])
      go_returns
      exact ⟨.no HIx.out, HB2.out⟩
set_option maxHeartbeats 1000000 in
theorem item_p3 (s : ByteArray) (hs : s.size ≤ 1024) (f : Nat) (hf : f < 5) (hno : X.itemM s.data.toList (X.loF f) (X.hiF f) = none) (hsp : 2 < (X.splitOn 47 s.data.toList).length) (w : World) :
    Calls Tryd.prog 59 #[.string s, .int .i64 f] w fun e w' => RItemEnd s.data.toList (X.loF f) (X.hiF f) e ∧ Below w.heap.size w w' := by
  have HN := hide hno
  clear hno
  go_enter Tryd.func59, Tryd.ntmps59
  go_wp2_with fail
  go_at_call 63
  refine (least_any f hf _).mono ?_
  rintro e w0 ⟨rfl, rfl⟩
  go_wp2_with fail
  go_at_call 57
  refine (greatest_any f hf _).mono ?_
  rintro e w1 ⟨rfl, hb1⟩
  go_wp2_with fail
  go_at_call 58
  refine (refSplit_any s (by omega) 47 _).mono ?_
  rintro e w2 ⟨hse, hb2⟩
  obtain ⟨g, cap, ws, rfl, hws, hwz, hcl, hg1, hg2⟩ := hse.rows (X.splitOn_ne _ _)
  have HB2 := hide (hb1.trans (hb2.mono hb1.size))
  have hvn : 2 < ws.length := by
    have := congrArg List.length hws
    rw [List.length_map] at this; omega
  have i2 : (2 : Int) < ws.length := by omega
  clear hse hb1 hb2 hws hwz hcl hsp
  generalize ws.length = vn at *
  go_wp2_with fail
  go_returns
  exact ⟨.no HN.out, HB2.out⟩
theorem refItem_any (s : ByteArray) (hs : s.size ≤ 1024) (f : Nat) (hf : f < 5) (w : World) :
    Calls Tryd.prog 59 #[.string s, .int .i64 f] w fun e w' => RItemEnd s.data.toList (X.loF f) (X.hiF f) e ∧ Below w.heap.size w w' := by
  have hlh := X.loF_le f
  rcases X.shape 47 s.data.toList with ⟨h1, he⟩ | ⟨a, r, hl, h1, _, he⟩ | ⟨a, r, hl, h1, h2, he⟩
  · exact item_p1 s hs f hf h1 he w
  · exact item_p2 s hs f hf a r hl h1 he w
  · exact item_p3 s hs f hf (by rw [hl]; exact X.item_many _ _ (by omega) h1 h2) he w
end Go.Proofs.YtbgioclbjbmicaaDoor
