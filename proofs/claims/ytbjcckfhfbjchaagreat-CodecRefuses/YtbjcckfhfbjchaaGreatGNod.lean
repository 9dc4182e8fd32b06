/- Contract of checkNodes, checkWhole. -/
import Derived.Test.YtbjcckfhfbjchaaGreatGEdg
namespace Go.Proofs.YtbjcckfhfbjchaaGreat
namespace Gr
open Go.RowKit Go.Maps

/-- what is wrong with the nodes from the i-th on, those ahead having these names -/
def cN (n : Nat) (i : Nat) (seen : List ByteArray) (xs : List No) : Nat × Nat := match xs with
  | [] => (0, 0)
  | x :: xs => if !isNm x.q.nm || seen.any (fun t => decide (t = x.q.nm)) then (i + 1, 103) else if !fOk x.q then (i + 1, 104) else if !eOk x i n then (i + 1, 105) else cN n (i + 1) (x.q.nm :: seen) xs
/-- the map of the names -/
def Nms (f : ByteArray → Option Nat) (seen : List ByteArray) : Prop := ∀ s, (s ∈ seen → ∃ k, f s = some (k + 1)) ∧ (s ∉ seen → f s = none)
theorem Nms.upd {f : ByteArray → Option Nat} {seen : List ByteArray} (h : Nms f seen) (s : ByteArray) (k : Nat) : Nms (updS f s (some (k + 1))) (s :: seen) := by
  intro t
  by_cases e : t = s
  · subst e
    exact ⟨fun _ => ⟨k, updS_same ..⟩, fun g => absurd (List.mem_cons_self ..) g⟩
  · rw [updS_other f _ e]
    refine ⟨fun g => (h t).1 ((List.mem_cons.1 g).resolve_left e), fun g => (h t).2 fun c => g (List.mem_cons_of_mem _ c)⟩
theorem nm_size {s : ByteArray} (h : isNm s = true) : s.size ≤ 40 := by
  unfold isNm wI at h
  simp at h
  omega
theorem zero_int : ∀ w, (zeroValue 3).run Tryz.prog w = .ok (.int .i64 0) w := by intro w; simp [go_sem]
theorem mapT : Tryz.prog.underlying 142 = some (.map 9 3) := Tryz.underlying142

set_option maxRecDepth 100000 in
set_option maxHeartbeats 4000000 in
theorem checkNodes_any (s : Option Addr × Nat × Nat) (xs : List No) (B : Nat) (w : World) (hP : RdP B w s xs) (hl : s.2.1 ≤ 64) (hsz : ∀ x ∈ xs, x.q.nm.size ≤ 9223372036854775807) :
    Calls Tryz.prog 51 #[.slice s.1 s.2.1 s.2.2] w fun e w' => e = .returned (.tuple #[.int .i64 ((cN xs.length 0 [] xs).1 : Nat), .int .i64 ((cN xs.length 0 [] xs).2 : Nat)]) ∧ Keep (fun _ => False) w w' := by
  obtain ⟨a, n, c⟩ := s
  have HP := hide hP
  have HN : Hid (n = xs.length) := hP.1
  have HZ := hide hsz
  clear hP hsz
  generalize hr : cN xs.length 0 [] xs = R
  rw [← HN.out] at hr
  have HR := hide hr
  clear hr
  obtain ⟨r1, r2⟩ := R
  have hmk := run_makeMap_hint mapT (n : Int)
  go_enter Tryz.func51, Tryz.ntmps51
  go_wp2_with fail
  have K0 := hide (Keep.alloc (fun _ => False) w (.map #[] 0))
  have M0 := hide (mapS_made w)
  have HSZ := hide (show (w.alloc (.map #[] 0)).heap.size = w.heap.size + 1 by simp)
  generalize w.alloc (.map #[] 0) = w0 at *
  generalize hm : w.heap.size = m at *
  go_loopw [12] (fun iv wr => ∃ (i : Nat), iv = .int .i64 (i : Nat) ∧ i ≤ n ∧ Hid (Keep (fun k => k = m) w0 wr ∧ ∃ seen f, cN n i seen (xs.drop i) = (r1, r2) ∧ MapS wr m i f ∧ Nms f seen)) (fun iv _ => n - (intOf iv).toNat)
  case atStart => exact ⟨0, rfl, Nat.zero_le _, Keep.refl _ _, [], fun _ => none, HR.out, M0.out, fun t => ⟨(fun h => by cases h), fun _ => rfl⟩⟩
  case round =>
    obtain ⟨i, rfl, hi, HD⟩ := hrel
    obtain ⟨seen, f, hc, hM, hNm⟩ := HD.out.2
    have HC := hide hc
    have HM := hide hM
    have HNm := hide hNm
    have KR : Hid (Keep (fun k => k = m) w0 wr) := HD.out.1
    have KF : Hid (Keep (fun _ => False) w wr) := K0.out.trans KR.out fun k hk => .inr (by have := hm; omega)
    clear hc hM hNm HD
    by_cases hlt : i < n
    · obtain ⟨g, off, x, rfl, hg, hx, hN, hz1, hz2⟩ := (HP.out.new KF.out).at hlt
      have hxm := List.mem_of_getElem? hx
      have KA := hide (Keep.alloc (fun _ => False) wr (.cells x.q.row.toArray 57))
      have NA := hide (NodeAt.new wr x.q 57)
      have MA := hide (HM.out.keep KA.out fun f => f)
      have Z1 := hide (hz1.new KA.out)
      have Z2 := hide (hz2.new KA.out)
      have IN := hide (fun w => isName_any x.q.nm w (HZ.out x hxm))
      have FH := hide (fun w => fieldsHold_any x.q w)
      have hd : xs.drop i = x :: xs.drop (i + 1) := by
        obtain ⟨h1, h2⟩ := List.getElem?_eq_some_iff.1 hx
        rw [List.drop_eq_getElem_cons h1, h2]
      have HC2 : Hid ((if !isNm x.q.nm || seen.any (fun t => decide (t = x.q.nm)) then (i + 1, 103) else if !fOk x.q then (i + 1, 104) else if !eOk x i n then (i + 1, 105) else cN n (i + 1) (x.q.nm :: seen) (xs.drop (i + 1))) = (r1, r2)) := by
        have := HC.out; rw [hd] at this; exact this
      have EH := hide (fun w => edgesHold_any x i n B w)
      have SZ : Hid (isNm x.q.nm = true → x.q.nm.size ≤ maxLen) := fun h => by have := nm_size h; unfold maxLen; omega
      clear hx hd HC hxm hz1 hz2
      obtain ⟨⟨nm, la, bu, cl, be, ba, ca, ji, ⟨ne1, ne2, ne3⟩, ⟨af1, af2, af3⟩⟩, nl, al⟩ := x
      obtain ⟨n0, n1, n2, n3, n4, n5, n6, n7, n8, n9⟩ := hN.all
      obtain ⟨m0, m1, m2, m3, m4, m5, m6, m7, m8, m9⟩ := NA.out.all
      simp only [Nat.zero_add, Nd.row] at *
      clear hN NA
      have KM := hide (KR.out.more (KA.out.mono (T := fun k => k = m) fun _ f => f.elim))
      generalize hb1 : isNm nm = b1 at *
      cases b1
      · have hc := HC2.out
        simp only [Bool.not_false, Bool.true_or, if_true] at hc
        obtain ⟨rfl, rfl⟩ := Prod.mk.inj hc
        clear hc
        go_wp2_with fail
        go_at_call 104
        refine (IN.out _).mono ?_
        rintro e w1 ⟨rfl, rfl⟩
        go_wp2_with fail
        go_ret2
        exact ⟨rfl, KF.out.more KA.out⟩
      have SN : Hid (nm.size ≤ maxLen) := SZ.out rfl
      have hlk := fun z => MA.out.look mapT (z := z) (e := 3) (k := nm)
      have LK := hide (MA.out.look mapT zero_int SN.out 0)
      have HC3 : Hid ((if seen.any (fun t => decide (t = nm)) then (i + 1, 103) else if !fOk ⟨nm, la, bu, cl, be, ba, ca, ji, (ne1, ne2, ne3), (af1, af2, af3)⟩ then (i + 1, 104) else if !eOk ⟨⟨nm, la, bu, cl, be, ba, ca, ji, (ne1, ne2, ne3), (af1, af2, af3)⟩, nl, al⟩ i n then (i + 1, 105) else cN n (i + 1) (nm :: seen) (xs.drop (i + 1))) = (r1, r2)) := by
        have := HC2.out
        simp only [Bool.not_true, Bool.false_or] at this
        exact this
      clear hlk HC2 SZ
      by_cases hs : nm ∈ seen
      · obtain ⟨k, hk⟩ := (HNm.out nm).1 hs
        have lk := LK.out
        rw [hk] at lk
        have lk2 : (Instr.lookup 142 (.map (some m)) (.string nm) false).run Tryz.prog (wr.alloc (.cells #[.string nm, .int .i64 la, .int .i64 bu, .int .i64 cl, .int .i64 be, .int .i64 ba, .int .i64 ca, .int .i64 ji, .slice ne1 ne2 ne3, .slice af1 af2 af3] 57)) = .ok (.int .i64 ((k : Int) + 1)) (wr.alloc (.cells #[.string nm, .int .i64 la, .int .i64 bu, .int .i64 cl, .int .i64 be, .int .i64 ba, .int .i64 ca, .int .i64 ji, .slice ne1 ne2 ne3, .slice af1 af2 af3] 57)) := lk
        have hc := HC3.out
        rw [if_pos (List.any_eq_true.2 ⟨nm, hs, by simp⟩)] at hc
        obtain ⟨rfl, rfl⟩ := Prod.mk.inj hc
        clear hc lk hk hs
        go_wp2_with fail
        go_at_call 104
        refine (IN.out _).mono ?_
        rintro e w1 ⟨rfl, rfl⟩
        go_wp2_with fail
        go_ret2
        exact ⟨rfl, KF.out.more KA.out⟩
      have hk := (HNm.out nm).2 hs
      have lk := LK.out
      rw [hk] at lk
      have lk2 : (Instr.lookup 142 (.map (some m)) (.string nm) false).run Tryz.prog (wr.alloc (.cells #[.string nm, .int .i64 la, .int .i64 bu, .int .i64 cl, .int .i64 be, .int .i64 ba, .int .i64 ca, .int .i64 ji, .slice ne1 ne2 ne3, .slice af1 af2 af3] 57)) = .ok (.int .i64 0) (wr.alloc (.cells #[.string nm, .int .i64 la, .int .i64 bu, .int .i64 cl, .int .i64 be, .int .i64 ba, .int .i64 ca, .int .i64 ji, .slice ne1 ne2 ne3, .slice af1 af2 af3] 57)) := lk
      have HC4 := HC3.out
      rw [if_neg (fun h => by obtain ⟨t, h1, h2⟩ := List.any_eq_true.1 h; simp at h2; subst h2; exact hs h1)] at HC4
      have HC5 := hide HC4
      clear HC4 HC3 lk hk hs LK
      go_wp2_with fail
      go_at_call 104
      refine (IN.out _).mono ?_
      rintro e w1 ⟨rfl, rfl⟩
      go_wp2_with fail
      go_at_call 107
      refine (FH.out _).mono ?_
      rintro e w2 ⟨rfl, k2⟩
      have K2 := hide k2
      have n0' := k2.cell m0 fun f => f
      have n1' := k2.cell m1 fun f => f
      have n2' := k2.cell m2 fun f => f
      have n3' := k2.cell m3 fun f => f
      have n4' := k2.cell m4 fun f => f
      have n5' := k2.cell m5 fun f => f
      have n6' := k2.cell m6 fun f => f
      have n7' := k2.cell m7 fun f => f
      have n8' := k2.cell m8 fun f => f
      have n9' := k2.cell m9 fun f => f
      have M2 := hide (MA.out.keep k2 fun f => f)
      have KM2 := hide (KM.out.more (k2.mono (T := fun k => k = m) fun _ f => f.elim))
      have KF2 := hide (KF.out.more (KA.out.more k2))
      have EH2 := hide (EH.out w2 (Z1.out.new k2) (Z2.out.new k2))
      clear k2 m0 m1 m2 m3 m4 m5 m6 m7 m8 m9 n0 n1 n2 n3 n4 n5 n6 n7 n8 n9 MA Z1 Z2 KM EH K2 lk2
      generalize fOk ⟨nm, la, bu, cl, be, ba, ca, ji, (ne1, ne2, ne3), (af1, af2, af3)⟩ = b2 at *
      cases b2
      · have hc := HC5.out
        simp only [Bool.not_false, if_true] at hc
        obtain ⟨rfl, rfl⟩ := Prod.mk.inj hc
        clear hc
        go_wp2_with fail
        go_ret2
        exact ⟨rfl, KF2.out⟩
      go_wp2_with fail
      go_at_call 108
      refine EH2.out.mono ?_
      rintro e w3 ⟨rfl, k3⟩
      have n0 := k3.cell n0' fun f => f
      have M3 := hide (M2.out.keep k3 fun f => f)
      have KM3 := hide (KM2.out.more (k3.mono (T := fun k => k = m) fun _ f => f.elim))
      have KF3 := hide (KF2.out.more k3)
      clear k3 n0' n1' n2' n3' n4' n5' n6' n7' n8' n9' M2 KM2 KF2 EH2
      generalize eOk ⟨⟨nm, la, bu, cl, be, ba, ca, ji, (ne1, ne2, ne3), (af1, af2, af3)⟩, nl, al⟩ i n = b3 at *
      cases b3
      · have hc := HC5.out
        simp only [Bool.not_false, Bool.not_true, if_true] at hc
        obtain ⟨rfl, rfl⟩ := Prod.mk.inj hc
        clear hc
        go_wp2_with fail
        go_ret2
        exact ⟨rfl, KF3.out⟩
      have HC6 : Hid (cN n (i + 1) (nm :: seen) (xs.drop (i + 1)) = (r1, r2)) := by
        have := HC5.out
        simp only [Bool.not_true] at this
        exact this
      obtain ⟨w4, hst, M4, k4, hs4⟩ := M3.out.store mapT SN.out (by omega) (i + 1)
      have hst2 : (Instr.mapUpdate 142 (.map (some m)) (.string nm) (.int .i64 ((i : Int) + 1))).run Tryz.prog w3 = .ok () w4 := hst
      have M5 := hide M4
      have K5 := hide (KM3.out.more k4)
      clear hst M4 k4 hs4 HC5
      go_wp2_with fail
      go_roundw
      · exact ⟨i + 1, rfl, by omega, K5.out, nm :: seen, _, HC6.out, M5.out, HNm.out.upd nm i⟩
      · show n - ((i : Int) + 1).toNat < n - (i : Int).toNat
        omega
    · obtain rfl : i = n := by omega
      have hc := HC.out
      rw [List.drop_eq_nil_of_le (by have := HN.out; omega)] at hc
      obtain ⟨rfl, rfl⟩ := Prod.mk.inj hc
      clear hc
      go_wp2_with fail
      go_ret2
      exact ⟨rfl, KF.out⟩
end Gr
end Go.Proofs.YtbjcckfhfbjchaaGreat
