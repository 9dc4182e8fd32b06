import Derived.Test.YtfoahfgehmghcaaGreatDoorGEdg
/- Contract of checkNodes, checkWhole. -/
namespace Go.Proofs.YtfoahfgehmghcaaGreatDoor
namespace Gr
open Go.RowKit Go.Maps

/-- what is wrong with the nodes from the i-th on, those ahead having these names -/
def cN (n : Nat) (i : Nat) (seen : List ByteArray) (xs : List No) : Nat × Nat := match xs with
  | [] => (0, 0)
  | x :: xs => if !isNm x.q.nm || seen.any (fun t => decide (t = x.q.nm)) then (i + 1, 103) else if !fOk x.q then (i + 1, 104) else if !eOk x i n then (i + 1, 105) else cN n (i + 1) (x.q.nm :: seen) xs
/-- the map of the names -/
def Nms (f : ByteArray → Option Nat) (seen : List ByteArray) : Prop := ∀ s, (s ∈ seen → ∃ k, f s = some (k + 1)) ∧ (s ∉ seen → f s = none)
theorem Nms.upd {f : ByteArray → Option Nat} {seen : List ByteArray} (h : Nms f seen) (s : ByteArray) (k : Nat) : Nms (updS f s (some (k + 1))) (s :: seen) := by
  intro t
  by_cases e : t = s
  · subst e
    exact ⟨fun _ => ⟨k, updS_same ..⟩, fun g => absurd (List.mem_cons_self ..) g⟩
  · rw [updS_other f _ e]
    refine ⟨fun g => (h t).1 ((List.mem_cons.1 g).resolve_left e), fun g => (h t).2 fun c => g (List.mem_cons_of_mem _ c)⟩
theorem nm_size {s : ByteArray} (h : isNm s = true) : s.size ≤ 40 := by
  unfold isNm wI at h
  simp at h
  omega
theorem zero_int : ∀ w, (zeroValue 3).run Tryz.prog w = .ok (.int .i64 0) w := by intro w; simp [go_sem]
theorem mapT : Tryz.prog.underlying 108 = some (.map 9 3) := Tryz.underlying108

set_option maxRecDepth 100000 in
set_option maxHeartbeats 4000000 in
theorem checkNodes_any (s : Option Addr × Nat × Nat) (xs : List No) (B : Nat) (w : World) (hP : RdP B w s xs) (hl : s.2.1 ≤ 64) (hsz : ∀ x ∈ xs, x.q.nm.size ≤ 9223372036854775807) :
    Calls Tryz.prog 28 #[.slice s.1 s.2.1 s.2.2] w fun e w' => e = .returned (.tuple #[.int .i64 ((cN xs.length 0 [] xs).1 : Nat), .int .i64 ((cN xs.length 0 [] xs).2 : Nat)]) ∧ Keep (fun _ => False) w w' := by
  obtain ⟨a, n, c⟩ := s
  have HP := hide hP
  have HN : Hid (n = xs.length) := hP.1
  have HZ := hide hsz
  clear hP hsz
  generalize hr : cN xs.length 0 [] xs = R
  rw [← HN.out] at hr
  have HR := hide hr
  clear hr
  obtain ⟨r1, r2⟩ := R
  have hmk := run_makeMap_hint mapT (n : Int)
  go_enter Tryz.func28, Tryz.ntmps28
  go_wp2_with fail
  have K0 := hide (Keep.alloc (fun _ => False) w (.map #[] 0))
  have M0 := hide (mapS_made w)
  have HSZ := hide (show (w.alloc (.map #[] 0)).heap.size = w.heap.size + 1 by simp)
  generalize w.alloc (.map #[] 0) = w0 at *
  generalize hm : w.heap.size = m at *
  go_loopw [12] (fun iv wr => ∃ (i : Nat), iv = .int .i64 (i : Nat) ∧ i ≤ n ∧ Hid (Keep (fun k => k = m) w0 wr ∧ ∃ seen f, cN n i seen (xs.drop i) = (r1, r2) ∧ MapS wr m i f ∧ Nms f seen)) (fun iv _ => n - (intOf iv).toNat)
  case atStart => exact ⟨0, rfl, Nat.zero_le _, Keep.refl _ _, [], fun _ => none, HR.out, M0.out, fun t => ⟨(fun h => by cases h), fun _ => rfl⟩⟩
  case round =>
    obtain ⟨i, rfl, hi, HD⟩ := hrel
    obtain ⟨seen, f, hc, hM, hNm⟩ := HD.out.2
    have HC := hide hc
    have HM := hide hM
    have HNm := hide hNm
    have KR : Hid (Keep (fun k => k = m) w0 wr) := HD.out.1
    have KF : Hid (Keep (fun _ => False) w wr) := K0.out.trans KR.out fun k hk => .inr (by have := hm; omega)
    clear hc hM hNm HD
    by_cases hlt : i < n
    · obtain ⟨g, off, x, rfl, hg, hx, hN, hz1, hz2⟩ := (HP.out.new KF.out).at hlt
      have hxm := List.mem_of_getElem? hx
      have KA := hide (Keep.alloc (fun _ => False) wr (.cells x.q.row.toArray 32))
      have NA := hide (NodeAt.new wr x.q 32)
      have MA := hide (HM.out.keep KA.out fun f => f)
      have Z1 := hide (hz1.new KA.out)
      have Z2 := hide (hz2.new KA.out)
      have IN := hide (fun w => isName_any x.q.nm w (HZ.out x hxm))
      have FH := hide (fun w => fieldsHold_any x.q w)
      have hd : xs.drop i = x :: xs.drop (i + 1) := by
        obtain ⟨h1, h2⟩ := List.getElem?_eq_some_iff.1 hx
        rw [List.drop_eq_getElem_cons h1, h2]
      have HC2 : Hid ((if !isNm x.q.nm || seen.any (fun t => decide (t = x.q.nm)) then (i + 1, 103) else if !fOk x.q then (i + 1, 104) else if !eOk x i n then (i + 1, 105) else cN n (i + 1) (x.q.nm :: seen) (xs.drop (i + 1))) = (r1, r2)) := by
        have := HC.out; rw [hd] at this; exact this
      have EH := hide (fun w => edgesHold_any x i n B w)
      have SZ : Hid (isNm x.q.nm = true → x.q.nm.size ≤ maxLen) := fun h => by have := nm_size h; unfold maxLen; omega
      clear hx hd HC hxm hz1 hz2
      obtain ⟨⟨nm, la, bu, cl, be, ba, ca, ji, ⟨ne1, ne2, ne3⟩, ⟨af1, af2, af3⟩⟩, nl, al⟩ := x
      obtain ⟨n0, n1, n2, n3, n4, n5, n6, n7, n8, n9⟩ := hN.all
      obtain ⟨m0, m1, m2, m3, m4, m5, m6, m7, m8, m9⟩ := NA.out.all
      simp only [Nat.zero_add, Nd.row] at *
      clear hN NA
      have KM := hide (KR.out.more (KA.out.mono (T := fun k => k = m) fun _ f => f.elim))
      generalize hb1 : isNm nm = b1 at *
      cases b1
      · have hc := HC2.out
        simp only [Bool.not_false, Bool.true_or, if_true] at hc
        obtain ⟨rfl, rfl⟩ := Prod.mk.inj hc
        clear hc
        go_wp2_with fail
        go_at_call 49
        refine (IN.out _).mono ?_
        rintro e w1 ⟨rfl, rfl⟩
        go_wp2_with fail
        go_ret2
        exact ⟨rfl, KF.out.more KA.out⟩
      have SN : Hid (nm.size ≤ maxLen) := SZ.out rfl
      have hlk := fun z => MA.out.look mapT (z := z) (e := 3) (k := nm)
      have LK := hide (MA.out.look mapT zero_int SN.out 0)
      have HC3 : Hid ((if seen.any (fun t => decide (t = nm)) then (i + 1, 103) else if !fOk ⟨nm, la, bu, cl, be, ba, ca, ji, (ne1, ne2, ne3), (af1, af2, af3)⟩ then (i + 1, 104) else if !eOk ⟨⟨nm, la, bu, cl, be, ba, ca, ji, (ne1, ne2, ne3), (af1, af2, af3)⟩, nl, al⟩ i n then (i + 1, 105) else cN n (i + 1) (nm :: seen) (xs.drop (i + 1))) = (r1, r2)) := by
        have := HC2.out
        simp only [Bool.not_true, Bool.false_or] at this
        exact this
      clear hlk HC2 SZ
      by_cases hs : nm ∈ seen
      · obtain ⟨k, hk⟩ := (HNm.out nm).1 hs
        have lk := LK.out
        rw [hk] at lk
        have lk2 : (Instr.lookup 108 (.map (some m)) (.string nm) false).run Tryz.prog (wr.alloc (.cells #[.string nm, .int .i64 la, .int .i64 bu, .int .i64 cl, .int .i64 be, .int .i64 ba, .int .i64 ca, .int .i64 ji, .slice ne1 ne2 ne3, .slice af1 af2 af3] 32)) = .ok (.int .i64 ((k : Int) + 1)) (wr.alloc (.cells #[.string nm, .int .i64 la, .int .i64 bu, .int .i64 cl, .int .i64 be, .int .i64 ba, .int .i64 ca, .int .i64 ji, .slice ne1 ne2 ne3, .slice af1 af2 af3] 32)) := lk
        have hc := HC3.out
        rw [if_pos (List.any_eq_true.2 ⟨nm, hs, by simp⟩)] at hc
        obtain ⟨rfl, rfl⟩ := Prod.mk.inj hc
        clear hc lk hk hs
        go_wp2_with fail
        go_at_call 49
        refine (IN.out _).mono ?_
        rintro e w1 ⟨rfl, rfl⟩
        go_wp2_with fail
        go_ret2
        exact ⟨rfl, KF.out.more KA.out⟩
      have hk := (HNm.out nm).2 hs
      have lk := LK.out
      rw [hk] at lk
      have lk2 : (Instr.lookup 108 (.map (some m)) (.string nm) false).run Tryz.prog (wr.alloc (.cells #[.string nm, .int .i64 la, .int .i64 bu, .int .i64 cl, .int .i64 be, .int .i64 ba, .int .i64 ca, .int .i64 ji, .slice ne1 ne2 ne3, .slice af1 af2 af3] 32)) = .ok (.int .i64 0) (wr.alloc (.cells #[.string nm, .int .i64 la, .int .i64 bu, .int .i64 cl, .int .i64 be, .int .i64 ba, .int .i64 ca, .int .i64 ji, .slice ne1 ne2 ne3, .slice af1 af2 af3] 32)) := lk
      have HC4 := HC3.out
      rw [if_neg (fun h => by obtain ⟨t, h1, h2⟩ := List.any_eq_true.1 h; simp at h2; subst h2; exact hs h1)] at HC4
      have HC5 := hide HC4
      clear HC4 HC3 lk hk hs LK
      go_wp2_with fail
      go_at_call 49
      refine (IN.out _).mono ?_
      rintro e w1 ⟨rfl, rfl⟩
      go_wp2_with fail
      go_at_call 52
      refine (FH.out _).mono ?_
      rintro e w2 ⟨rfl, k2⟩
      have K2 := hide k2
      have n0' := k2.cell m0 fun f => f
      have n1' := k2.cell m1 fun f => f
      have n2' := k2.cell m2 fun f => f
      have n3' := k2.cell m3 fun f => f
      have n4' := k2.cell m4 fun f => f
      have n5' := k2.cell m5 fun f => f
      have n6' := k2.cell m6 fun f => f
      have n7' := k2.cell m7 fun f => f
      have n8' := k2.cell m8 fun f => f
      have n9' := k2.cell m9 fun f => f
      have M2 := hide (MA.out.keep k2 fun f => f)
      have KM2 := hide (KM.out.more (k2.mono (T := fun k => k = m) fun _ f => f.elim))
      have KF2 := hide (KF.out.more (KA.out.more k2))
      have EH2 := hide (EH.out w2 (Z1.out.new k2) (Z2.out.new k2))
      clear k2 m0 m1 m2 m3 m4 m5 m6 m7 m8 m9 n0 n1 n2 n3 n4 n5 n6 n7 n8 n9 MA Z1 Z2 KM EH K2 lk2
      generalize fOk ⟨nm, la, bu, cl, be, ba, ca, ji, (ne1, ne2, ne3), (af1, af2, af3)⟩ = b2 at *
      cases b2
      · have hc := HC5.out
        simp only [Bool.not_false, if_true] at hc
        obtain ⟨rfl, rfl⟩ := Prod.mk.inj hc
        clear hc
        go_wp2_with fail
        go_ret2
        exact ⟨rfl, KF2.out⟩
      go_wp2_with fail
      go_at_call 53
      refine EH2.out.mono ?_
      rintro e w3 ⟨rfl, k3⟩
      have n0 := k3.cell n0' fun f => f
      have M3 := hide (M2.out.keep k3 fun f => f)
      have KM3 := hide (KM2.out.more (k3.mono (T := fun k => k = m) fun _ f => f.elim))
      have KF3 := hide (KF2.out.more k3)
      clear k3 n0' n1' n2' n3' n4' n5' n6' n7' n8' n9' M2 KM2 KF2 EH2
      generalize eOk ⟨⟨nm, la, bu, cl, be, ba, ca, ji, (ne1, ne2, ne3), (af1, af2, af3)⟩, nl, al⟩ i n = b3 at *
      cases b3
      · have hc := HC5.out
        simp only [Bool.not_false, Bool.not_true, if_true] at hc
        obtain ⟨rfl, rfl⟩ := Prod.mk.inj hc
        clear hc
        go_wp2_with fail
        go_ret2
        exact ⟨rfl, KF3.out⟩
      have HC6 : Hid (cN n (i + 1) (nm :: seen) (xs.drop (i + 1)) = (r1, r2)) := by
        have := HC5.out
        simp only [Bool.not_true] at this
        exact this
      obtain ⟨w4, hst, M4, k4, hs4⟩ := M3.out.store mapT SN.out (by omega) (i + 1)
      have hst2 : (Instr.mapUpdate 108 (.map (some m)) (.string nm) (.int .i64 ((i : Int) + 1))).run Tryz.prog w3 = .ok () w4 := hst
      have M5 := hide M4
      have K5 := hide (KM3.out.more k4)
      clear hst M4 k4 hs4 HC5
      go_wp2_with fail
      go_roundw
      · exact ⟨i + 1, rfl, by omega, K5.out, nm :: seen, _, HC6.out, M5.out, HNm.out.upd nm i⟩
      · show n - ((i : Int) + 1).toNat < n - (i : Int).toNat
        omega
    · obtain rfl : i = n := by omega
      have hc := HC.out
      rw [List.drop_eq_nil_of_le (by have := HN.out; omega)] at hc
      obtain ⟨rfl, rfl⟩ := Prod.mk.inj hc
      clear hc
      go_wp2_with fail
      go_ret2
      exact ⟨rfl, KF.out⟩
end Gr
end Go.Proofs.YtfoahfgehmghcaaGreatDoor

/- Contract of checkWhole. -/
namespace Go.Proofs.YtfoahfgehmghcaaGreatDoor
namespace Gr
open Go.RowKit Go.Maps

def cW (nm : ByteArray) (dl : Int) (xs : List No) : Nat := if !isNm nm then 100 else if !wI dl 1 1099511627776 then 101 else if !wI xs.length 1 64 || decide (256 < edges xs) then 102 else 0
set_option maxHeartbeats 4000000 in
theorem checkWhole_any (nm : ByteArray) (dl : Int) (s : Option Addr × Nat × Nat) (xs : List No) (B : Nat) (w : World) (hP : RdP B w s xs) (hs : nm.size ≤ 9223372036854775807) :
    Calls Tryz.prog 27 #[.agg #[.string nm, .int .i64 dl, .slice s.1 s.2.1 s.2.2]] w fun e w' => e = .returned (.int .i64 (cW nm dl xs : Nat)) ∧ Keep (fun _ => False) w w' := by
  obtain ⟨a, n, c⟩ := s
  have HN : Hid (n = xs.length) := hP.1
  have I := hide (fun w => isName_any nm w hs)
  have W1 := hide (fun w => within_any dl 1 1099511627776 w)
  have W2 := hide (fun w => within_any (n : Int) 1 64 w)
  have KW := hide (Keep.alloc (fun _ => False) w (.cells #[.string nm, .int .i64 dl, .slice a n c] 24))
  have CE := hide (countEdges_any _ _ _ _ (hP.new KW.out))
  have HR : Hid (cW nm dl xs = if !isNm nm then 100 else if !wI dl 1 1099511627776 then 101 else if !wI n 1 64 || decide (256 < edges xs) then 102 else 0) := hide (by unfold cW; rw [HN.out])
  generalize cW nm dl xs = r at *
  clear hP hs
  generalize isNm nm = b1 at *
  generalize wI dl 1 1099511627776 = b2 at *
  go_enter Tryz.func27, Tryz.ntmps27
  go_wp2_with fail
  go_at_call 49
  refine (I.out _).mono ?_
  rintro e w1 ⟨rfl, rfl⟩
  cases b1
  · have hr := HR.out
    simp only [Bool.not_false, if_true] at hr
    subst hr
    go_wp2_with fail
    go_ret
    exact ⟨rfl, KW.out⟩
  go_wp2_with fail
  go_at_call 50
  refine (W1.out _).mono ?_
  rintro e w1 ⟨rfl, rfl⟩
  cases b2
  · have hr := HR.out
    simp only [Bool.not_false, Bool.not_true, if_true] at hr
    subst hr
    go_wp2_with fail
    go_ret
    exact ⟨rfl, KW.out⟩
  go_wp2_with fail
  go_at_call 50
  refine (W2.out _).mono ?_
  rintro e w1 ⟨rfl, rfl⟩
  cases h3 : wI (n : Int) 1 64
  · have hr := HR.out
    rw [h3] at hr
    simp only [Bool.not_false, Bool.not_true, if_true, Bool.true_or] at hr
    subst hr
    go_wp2_with fail
    go_ret
    exact ⟨rfl, KW.out⟩
  have hn : n ≤ 64 := by unfold wI at h3; simp at h3; omega
  have hr := HR.out
  rw [h3] at hr
  simp only [Bool.not_true, Bool.false_or] at hr
  have HR2 := hide hr
  clear hr HR h3
  go_wp2_with fail
  go_at_call 51
  refine (CE.out hn).mono ?_
  rintro e w2 ⟨rfl, k2⟩
  have K2 := hide (KW.out.more k2)
  clear k2 CE KW
  generalize edges xs = m at *
  by_cases h : 256 < m
  · have hr := HR2.out
    simp only [h, decide_true, if_true] at hr
    subst hr
    go_wp2_with fail
    go_ret
    exact ⟨rfl, K2.out⟩
  · have hr := HR2.out
    simp only [h, decide_false] at hr
    subst hr
    go_wp2_with fail
    go_ret
    exact ⟨rfl, K2.out⟩
end Gr
end Go.Proofs.YtfoahfgehmghcaaGreatDoor

/- Contract of cycle: the search. -/
namespace Go.Proofs.YtfoahfgehmghcaaGreatDoor
namespace Gr
open Go.RowKit

/-- 64 bools as a value -/
def row64 (f : Nat → Bool) : Array Value := Array.ofFn (n := 64) fun i => .bool (f i.val)
theorem row64_size (f : Nat → Bool) : (row64 f).size = 64 := by simp [row64]
theorem row64_at (f : Nat → Bool) (i : Nat) (h : i < 64) : (row64 f)[i]? = some (.bool (f i)) := by simp [row64, h]
/-- one more -/
def mark (f : Nat → Bool) (k : Nat) : Nat → Bool := fun i => if i = k then true else f i
theorem row64_set (f : Nat → Bool) (k : Nat) (h : k < 64) : (row64 f).setIfInBounds k (.bool true) = row64 (mark f k) := by
  apply Array.ext_getElem?
  intro i
  rw [Array.getElem?_setIfInBounds]
  by_cases hi : i < 64
  · rw [row64_at _ _ hi, row64_at _ _ hi, mark]
    by_cases e : k = i
    · subst e; simp [row64_size, h]
    · rw [if_neg e, if_neg (fun e' => e e'.symm)]
  · have hs := row64_size f
    have hs' := row64_size (mark f k)
    rw [if_neg (by omega), Array.getElem?_eq_none (by omega), Array.getElem?_eq_none (by omega)]
theorem row64_one (f : Nat → Bool) : (row64 f).all (·.oneCell') = true := by
  have h : ∀ v ∈ row64 f, v.oneCell' = true := by
    intro v hv
    unfold row64 at hv
    rw [Array.mem_ofFn] at hv
    obtain ⟨i, rfl⟩ := hv
    rfl
  rw [Array.all_eq_true']
  exact h
def none64 : Array Value := row64 fun _ => false
theorem none64_eq : Array.replicate 64 (Value.bool false) = none64 := by
  apply Array.ext_getElem?
  intro i
  by_cases hi : i < 64
  · rw [none64, row64_at _ _ hi]; simp [hi]
  · rw [none64, Array.getElem?_eq_none (by simp; omega), Array.getElem?_eq_none (by rw [row64_size]; omega)]
/-- how many are not marked -/
def cnt (f : Nat → Bool) : Nat := ((List.range 64).filter fun i => !f i).length
theorem filter_le {α : Type} (l : List α) (p q : α → Bool) (h : ∀ x ∈ l, p x = true → q x = true) : (l.filter p).length ≤ (l.filter q).length := by
  induction l with
  | nil => simp
  | cons a l ih =>
    have i := ih fun x hx => h x (List.mem_cons_of_mem _ hx)
    have ha := h a (List.mem_cons_self ..)
    simp only [List.filter_cons]
    cases hp : p a
    · cases q a <;> simp <;> omega
    · rw [ha hp]; simpa using i
theorem filter_lt {α : Type} (l : List α) (p q : α → Bool) (h : ∀ x ∈ l, p x = true → q x = true) {a : α} (ha : a ∈ l) (h1 : p a = false) (h2 : q a = true) : (l.filter p).length < (l.filter q).length := by
  induction l with
  | nil => cases ha
  | cons b l ih =>
    have i0 := filter_le l p q fun x hx => h x (List.mem_cons_of_mem _ hx)
    have hb := h b (List.mem_cons_self ..)
    simp only [List.filter_cons]
    rcases List.mem_cons.1 ha with rfl | ha
    · rw [h1, h2]; simp; omega
    · have i := ih (fun x hx => h x (List.mem_cons_of_mem _ hx)) ha
      cases hp : p b
      · cases q b <;> simp <;> omega
      · rw [hb hp]; simpa using i
theorem cnt_mono {f g : Nat → Bool} (h : ∀ x, f x = true → g x = true) : cnt g ≤ cnt f := filter_le _ _ _ fun x _ hx => by
  cases hf : f x
  · rfl
  · rw [h x hf] at hx; cases hx
theorem cnt_mark {f : Nat → Bool} {k : Nat} (hk : k < 64) (hf : f k = false) : cnt (mark f k) < cnt f := filter_lt _ _ _ (fun x _ hx => by
  unfold mark at hx
  split at hx
  · cases hx
  · exact hx) (a := k) (List.mem_range.2 hk) (by simp [mark]) (by simp [hf])
theorem mark_iff {f : Nat → Bool} {k : Nat} (y : Nat) : mark f k y = true ↔ f y = true ∨ y = k := by
  unfold mark; split <;> simp_all

/-- the edges of a node -/
def eg (xs : List No) (i : Nat) : List Nat := match xs[i]? with
  | some x => (x.nl ++ x.al).map Int.toNat
  | none => []
theorem eg_at {xs : List No} {i : Nat} {x : No} (h : xs[i]? = some x) : eg xs i = x.nl.map Int.toNat ++ x.al.map Int.toNat := by
  unfold eg; rw [h]; simp
/-- all edges lead to nodes -/
def Val (xs : List No) : Prop := xs.length ≤ 64 ∧ ∀ x ∈ xs, ∀ e ∈ x.nl ++ x.al, 0 ≤ e ∧ e < xs.length

/-- what the search of cycle finds in memory -/
structure CEnv (B : Nat) (s : Option Addr × Nat × Nat) (xs : List No) (Pf Ps Pl Pn f : Nat) (w : World) (σ : Nat → Bool) : Prop where
  cf : w.cell? ⟨Pf, 0, none⟩ = some (.int .i64 (f : Int))
  bs : w.heap[Ps]? = some (.cells (row64 σ) 111 (0, 0))
  cl : w.cell? ⟨Pl, 0, none⟩ = some (.func (.func 54) #[] #[.pointer (some ⟨Pf, 0, none⟩), .pointer (some ⟨Ps, 0, none⟩), .pointer (some ⟨Pl, 0, none⟩), .pointer (some ⟨Pn, 0, none⟩)])
  cn : w.cell? ⟨Pn, 0, none⟩ = some (.slice s.1 s.2.1 s.2.2)
  rd : RdP B w s xs
  le : B ≤ Ps
  n1 : Pf ≠ Ps
  n2 : Pl ≠ Ps
  n3 : Pn ≠ Ps
variable {B : Nat} {s : Option Addr × Nat × Nat} {xs : List No} {Pf Ps Pl Pn f : Nat} {w w' : World} {σ : Nat → Bool}
theorem CEnv.new (h : CEnv B s xs Pf Ps Pl Pn f w σ) (k : Keep (fun _ => False) w w') : CEnv B s xs Pf Ps Pl Pn f w' σ :=
  ⟨k.cell h.cf fun f => f, k.blk h.bs fun f => f, k.cell h.cl fun f => f, k.cell h.cn fun f => f, h.rd.new k, h.le, h.n1, h.n2, h.n3⟩
theorem CEnv.at (h : CEnv B s xs Pf Ps Pl Pn f w σ) {i : Nat} (hi : i < 64) : w.cell? ⟨Ps, i, none⟩ = some (.bool (σ i)) := cell_blk h.bs i (row64_at σ i hi)
theorem CEnv.set (h : CEnv B s xs Pf Ps Pl Pn f w σ) {i : Nat} (hi : i < 64) : CEnv B s xs Pf Ps Pl Pn f (w.setCell ⟨Ps, i, none⟩ (.bool true)) (mark σ i) := by
  have k := keep_cell w Ps i (.bool true)
  refine ⟨k.cell h.cf h.n1, ?_, k.cell h.cl h.n2, k.cell h.cn h.n3, h.rd.keep k fun j e => by have := h.le; omega, h.le, h.n1, h.n2, h.n3⟩
  rw [set_blk h.bs i _, row64_set σ i hi]

theorem enter_c11 : ∀ args w, (callFunc 55 args).run Tryz.prog w = .ok (.enter 55 args) w := by intro args w; simp [go_sem]
/-- what leadsBack answers, of so many that are not marked -/
def LB (B : Nat) (s : Option Addr × Nat × Nat) (xs : List No) (Pf Ps Pl Pn f m : Nat) : Prop := ∀ (fr : Nat) (σ : Nat → Bool) (w : World), fr < xs.length → cnt σ = m → CEnv B s xs Pf Ps Pl Pn f w σ →
  Calls Tryz.prog 54 #[.int .i64 (fr : Int), .pointer (some ⟨Pf, 0, none⟩), .pointer (some ⟨Ps, 0, none⟩), .pointer (some ⟨Pl, 0, none⟩), .pointer (some ⟨Pn, 0, none⟩)] w fun e w' => ∃ (r : Bool) (τ : Nat → Bool), e = .returned (.bool r) ∧ CEnv B s xs Pf Ps Pl Pn f w' τ ∧ Srch (eg xs) f (fun x => σ x = true) (fun x => τ x = true) (eg xs fr) r ∧ Keep (fun k => k = Ps) w w'

set_option maxHeartbeats 1000000 in
theorem step_any (hv : Val xs) (ih : ∀ k, k < cnt σ → LB B s xs Pf Ps Pl Pn f k) (h : CEnv B s xs Pf Ps Pl Pn f w σ) (x : Int) (h0 : 0 ≤ x) (h1 : x < xs.length) :
    Calls Tryz.prog 55 #[.int .i64 x, .pointer (some ⟨Pf, 0, none⟩), .pointer (some ⟨Ps, 0, none⟩), .pointer (some ⟨Pl, 0, none⟩)] w fun e w' => ∃ (r : Bool) (τ : Nat → Bool), e = .returned (.bool r) ∧ CEnv B s xs Pf Ps Pl Pn f w' τ ∧ Srch (eg xs) f (fun x => σ x = true) (fun x => τ x = true) [x.toNat] r ∧ Keep (fun k => k = Ps) w w' := by
  obtain ⟨k, rfl⟩ : ∃ k : Nat, x = k := ⟨x.toNat, by omega⟩
  have hl := hv.1
  have cf := h.cf
  have cl := h.cl
  have cs := h.at (i := k) (by omega)
  have fz := frozen_blk h.bs k
  have H := hide h
  have IH := hide ih
  rw [Int.toNat_natCast]
  clear h ih
  by_cases c1 : (k : Int) ≤ f
  · by_cases e : k = f
    · subst e
      go_enter Tryz.func55, Tryz.ntmps55
      go_wp2_with fail
      go_ret
      exact ⟨true, σ, by simp, H.out, Srch.hit (fun _ h => h) (List.mem_singleton.2 rfl) (.inl rfl), Keep.refl _ _⟩
    · have e' : ¬ (k : Int) = f := by omega
      go_enter Tryz.func55, Tryz.ntmps55
      go_wp2_with fail
      go_ret
      exact ⟨false, σ, by simp; exact e', H.out, Srch.known (.inl (by omega)) e, Keep.refl _ _⟩
  · cases c2 : σ k
    · rw [c2] at cs
      have HS := hide (H.out.set (i := k) (by omega))
      have KS := hide (keep_cell w Ps k (.bool true))
      have cl2 := HS.out.cl
      have L := hide (IH.out _ (cnt_mark (by omega) c2) k (mark σ k) _ (by omega) rfl HS.out)
      clear IH
      go_enter Tryz.func55, Tryz.ntmps55
      go_wp2_with fail
      go_at_call 54
      refine L.out.mono ?_
      rintro e w1 ⟨r, τ, rfl, h2, h3, k3⟩
      have H2 := hide h2
      have H3 := hide h3
      have K3 := hide (KS.out.more k3)
      clear h2 h3 k3 L
      go_wp2_with fail
      go_ret
      exact ⟨r, τ, rfl, H2.out, Srch.down (fun y => mark_iff y) (by omega) H3.out, K3.out⟩
    · rw [c2] at cs
      have e' : ¬ (k : Int) = f := by omega
      go_enter Tryz.func55, Tryz.ntmps55
      go_wp2_with fail
      go_ret
      exact .inl ⟨by simp; exact e', σ, H.out, Srch.known (.inr c2) (by omega), Keep.refl _ _⟩

/-- a list of edges, gone through -/
theorem scan_any (hv : Val xs) (ih : ∀ k, k < cnt σ → LB B s xs Pf Ps Pl Pn f k) (h : CEnv B s xs Pf Ps Pl Pn f w σ) (t : Option Addr × Nat × Nat) (z : List Int) (hz : RdZ B w t z) (hb : ∀ e ∈ z, 0 ≤ e ∧ e < xs.length) :
    Calls Tryz.prog 56 #[.slice t.1 t.2.1 t.2.2, .func (.func 55) #[] #[.pointer (some ⟨Pf, 0, none⟩), .pointer (some ⟨Ps, 0, none⟩), .pointer (some ⟨Pl, 0, none⟩)]] w fun e w' => ∃ (r : Bool) (τ : Nat → Bool), e = .returned (.bool r) ∧ CEnv B s xs Pf Ps Pl Pn f w' τ ∧ Srch (eg xs) f (fun x => σ x = true) (fun x => τ x = true) (z.map Int.toNat) r ∧ Keep (fun k => k = Ps) w w' := by
  refine (containsFunc_any 55 _ (fun k => k = Ps) (fun k W => ∃ τ, CEnv B s xs Pf Ps Pl Pn f W τ ∧ Srch (eg xs) f (fun x => σ x = true) (fun x => τ x = true) ((z.take k).map Int.toNat) false) (fun _ W => ∃ τ, CEnv B s xs Pf Ps Pl Pn f W τ ∧ Srch (eg xs) f (fun x => σ x = true) (fun x => τ x = true) (z.map Int.toNat) true) t z B w hz (fun i e => by have := h.le; omega) ⟨σ, h, Srch.nil _ _⟩ enter_c11 ?_).mono ?_
  · rintro k x W hx ⟨τ, hE, hS⟩ hk
    have hm := hb x (List.mem_of_getElem? hx)
    have hle : cnt τ ≤ cnt σ := cnt_mono hS.mono
    refine (step_any hv (fun j hj => ih j (by omega)) hE x hm.1 hm.2).mono ?_
    rintro e W' ⟨r, υ, rfl, hE', hS', hk'⟩
    have ht := take_snoc z k x hx
    refine ⟨r, rfl, fun hr => ?_, fun hr => ?_, hk'⟩
    · subst hr
      refine ⟨υ, hE', ?_⟩
      rw [ht, List.map_append]
      exact hS.app hS'
    · subst hr
      refine ⟨υ, hE', ?_⟩
      have hsp : z.map Int.toNat = ((z.take (k + 1)).map Int.toNat) ++ ((z.drop (k + 1)).map Int.toNat) := by rw [← List.map_append, List.take_append_drop]
      rw [hsp, ht, List.map_append]
      exact (hS.app hS').yesL _
  · rintro e w1 ⟨r, rfl, h1, h2, k1⟩
    cases r
    · obtain ⟨τ, hE, hS⟩ := h1 rfl
      rw [List.take_length] at hS
      exact ⟨false, τ, rfl, hE, hS, k1⟩
    · obtain ⟨_, _, τ, hE, hS⟩ := h2 rfl
      exact ⟨true, τ, rfl, hE, hS, k1⟩

set_option maxHeartbeats 1000000 in
theorem leadsBack_any (hv : Val xs) : ∀ m, LB B s xs Pf Ps Pl Pn f m := by
  intro m
  induction m using Nat.strongRecOn with
  | _ m ih =>
    intro fr σ w hfr hm h
    subst hm
    have hl := hv.1
    obtain ⟨a, n, c⟩ := s
    have hn : n = xs.length := h.rd.1
    obtain ⟨g, off, x, ha, hg, hx, hN, hz1, hz2⟩ := h.rd.at (i := fr) (show fr < n by omega)
    have ha' : a = some ⟨g, off, none⟩ := ha
    subst ha'
    have hxm := List.mem_of_getElem? hx
    have S1 := hide (scan_any hv ih h x.q.ne x.nl hz1 (fun e he => hv.2 x hxm e (List.mem_append.2 (.inl he))))
    have S2 := hide (fun (τ : Nat → Bool) w' (hE : CEnv B (some ⟨g, off, none⟩, n, c) xs Pf Ps Pl Pn f w' τ) (hk : Keep (fun k => k = Ps) w w') (hle : cnt τ ≤ cnt σ) => scan_any hv (fun k hk => ih k (by omega)) hE x.q.af x.al (hz2.keep hk (fun i e => by have := h.le; omega)) (fun e he => hv.2 x hxm e (List.mem_append.2 (.inr he))))
    have HG := hide (eg_at hx)
    have NK := hide (fun w' (hk : Keep (fun k => k = Ps) w w') => hN.keep hk (show ¬ g = Ps from fun e => by have := h.le; omega))
    obtain ⟨n0, n1, n2, n3, n4, n5, n6, n7, n8, n9⟩ := hN.all
    have cn := h.cn
    have hfn : fr < n := by omega
    have hn64 : n ≤ 64 := by omega
    have HN := hide hn
    clear hx hN hz1 hz2 hxm ha hn hl hfr ih h n0 n1 n2 n3 n4 n5 n6 n7
    go_enter Tryz.func54, Tryz.ntmps54
    go_wp2_with fail
    go_at_call 56
    refine S1.out.mono ?_
    rintro e w1 ⟨r, τ, rfl, hE, hS, k1⟩
    cases r
    · have S2' := hide (S2.out τ w1 hE k1 (cnt_mono hS.mono))
      obtain ⟨n0, n1, n2, n3, n4, n5, n6, n7, n8, n9'⟩ := (NK.out w1 k1).all
      have cn' := hE.cn
      have HS := hide hS
      have K1 := hide k1
      clear hE hS k1 n0 n1 n2 n3 n4 n5 n6 n7 S1 S2 NK cn n8 n9
      go_wp2_with fail
      go_at_call 56
      refine S2'.out.mono ?_
      rintro e w2 ⟨r, υ, rfl, hE2, hS2, k2⟩
      have HE2 := hide hE2
      have HS2 := hide hS2
      have K2 := hide (K1.out.more k2)
      clear hE2 hS2 k2
      go_wp2_with fail
      go_ret
      exact ⟨r, υ, rfl, HE2.out, by rw [HG.out]; exact HS.out.app HS2.out, K2.out⟩
    · have HS := hide hS
      have K1 := hide k1
      have HE := hide hE
      clear hE hS k1 S1 S2
      go_wp2_with fail
      go_ret
      exact ⟨true, τ, rfl, HE.out, by rw [HG.out]; exact HS.out.yesL _, K1.out⟩
end Gr
end Go.Proofs.YtfoahfgehmghcaaGreatDoor
