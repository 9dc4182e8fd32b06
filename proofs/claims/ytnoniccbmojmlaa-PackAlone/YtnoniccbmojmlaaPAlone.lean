/- PackAlone. -/
import Derived.Test.YtnoniccbmojmlaaPBackM
import Derived.Test.YtnoniccbmojmlaaPSame
import Derived.Test.YtnoniccbmojmlaaPOpen
import Derived.Deep.CutRange
import Derived.Deep.Strs
import Derived.Deep.Matrix
namespace Go.Proofs.Ytnoniccbmojmlaa
open Go.ChangeShapes Go.WideShapes Go.ChangeAt Go.RowKit Go.Joins Go.Deep

theorem keepCell {w w' : World} {p : Addr} {v : Value} (h : w.cell? p = some v) (hb : Below w.heap.size w w') : w'.cell? p = some v :=
  (Keep.ofBelow (S := fun _ => False) hb (Nat.le_refl _)).cell h fun h => h
theorem keepBlk {w w' : World} {b : Nat} {o : Obj} (h : w.heap[b]? = some o) (hb : Below w.heap.size w w') : w'.heap[b]? = some o :=
  (Keep.ofBelow (S := fun _ => False) hb (Nat.le_refl _)).blk h fun h => h
theorem minfar : (min 9223372036854775807 16777216 : Int) = 16777216 := by decide
theorem belowDrewN {B : Nat} {a w : World} (h : Below B a w) (n : Nat) : Below B a (w.drewN n) := ⟨h.os, h.tape, h.output, h.size, h.block⟩

theorem Els.keepB {w w' : World} {a : Option Addr} {n : Nat} {vs : List Value} (h : Els (fun k => k < w.heap.size) w a n vs) (hb : Below w.heap.size w w') : Els (fun k => k < w'.heap.size) w' a n vs := by
  refine ⟨h.1, h.2.1, ?_⟩
  rcases h.2.2 with h0 | ⟨b, off, rfl, hlt, hr⟩
  · exact .inl h0
  · exact .inr ⟨b, off, rfl, Nat.lt_of_lt_of_le hlt hb.size, fun i v hv => keepCell (hr i v hv) hb⟩

theorem RowsAt.keepB {w w' : World} {a : Option Addr} {n : Nat} {zs : List (List Int)} (h : RowsAt (fun k => k < w.heap.size) w a n zs) (hb : Below w.heap.size w w') : RowsAt (fun k => k < w'.heap.size) w' a n zs := by
  obtain ⟨vs, h1, h2, h3⟩ := h
  refine ⟨vs, h1.keepB hb, h2, fun i v z hv hz => ?_⟩
  obtain ⟨a', c', e, he⟩ := h3 i v z hv hz
  exact ⟨a', c', e, he.keepB hb⟩

theorem strs_inj {ss tt : List ByteArray} (h : ss.map sb = tt.map sb) : ss = tt := by
  have h2 := congrArg (List.map str) h
  rw [List.map_map, List.map_map] at h2
  have e : (str ∘ sb) = id := funext fun s => str_sb s
  rwa [e, List.map_id, List.map_id] at h2

theorem len_eq {D D' : Nat → Prop} {w w' : World} {a b : Option Addr} {n m : Nat} {vs : List Value} (h1 : Els D w a n vs) (h2 : Els D' w' b m vs) : n = m := h1.1.trans h2.1.symm
theorem rows_len {D D' : Nat → Prop} {w w' : World} {a b : Option Addr} {n m : Nat} {zs : List (List Int)} (h1 : RowsAt D w a n zs) (h2 : RowsAt D' w' b m zs) : n = m := by
  obtain ⟨_, _, e1, _⟩ := h1
  obtain ⟨_, _, e2, _⟩ := h2
  exact e1.symm.trans e2

theorem room_max : room 16777216 = 16777216 := by decide

theorem alone_of {α : Type} {g : K.RS → K.RS} {val : K.RS → α} {f : α → K.WS → K.WS} (h : WR g val f) (x y : α) {sx sy : K.WS} (hx : f x ⟨[], room 16777216, 0⟩ = sx) (hy : f y ⟨[], room 16777216, 0⟩ = sy) (zx : sx.fault = 0) (zy : sy.fault = 0) (hp : ∃ t, told sy = told sx ++ t) : x = y := by
  rw [room_max] at hx hy
  obtain ⟨bs, _, _, e1, _⟩ := h x ⟨[], 16777216, 0⟩ rfl (Nat.zero_le _) (Nat.le_refl _) (by rw [hx]; exact zx)
  obtain ⟨cs, _, _, e2, _⟩ := h y ⟨[], 16777216, 0⟩ rfl (Nat.zero_le _) (Nat.le_refl _) (by rw [hy]; exact zy)
  have t1 : told sx = bs := by rw [← hx, e1]; rfl
  have t2 : told sy = cs := by rw [← hy, e2]; rfl
  rw [t1, t2] at hp
  exact wr_alone h x y bs cs e1 e2 hp

theorem puts_strs (w : World) (m m2 o2 : Nat) (a : Option Addr) (n c : Nat) (ss : List ByteArray) (he : Els (fun k => k < w.heap.size) w a n (ss.map Value.string)) (hz : ∀ s ∈ ss, s.size ≤ 140737488351232) (hm : w.cell? ⟨m, 0, none⟩ = some (.int .i64 9223372036854775807)) (hm2 : w.cell? ⟨m2, 0, none⟩ = some (.int .i64 16777216))
    (ho : w.heap[o2]? = some (.cells #[.func (.func 60) #[] #[.pointer (some ⟨m, 0, none⟩)], .func (.func 62) #[] #[.pointer (some ⟨m, 0, none⟩)]] 54 (0, 0))) :
    PutsG (fun k => k < w.heap.size) w 53 #[.pointer (some ⟨m2, 0, none⟩), .pointer (some ⟨o2, 0, none⟩)] (.slice a n c) (listW 16777216 ((ss.map sb).map fun bs => textW 9223372036854775807 bs)) := by
  refine putsListS _ w m2 o2 16777216 _ _ _ _ a n c (ss.map Value.string) _ he (by rw [List.length_map, List.length_map, he.1, List.length_map]) (fun i v f hv hf => ?_) ent_putText (numForm_lt hm2) (blk_lt ho) hm2 ho
  rw [List.getElem?_map] at hv hf
  rw [List.getElem?_map] at hf
  cases hs : ss[i]? with
  | none => rw [hs] at hv; cases hv
  | some s =>
    rw [hs] at hv hf
    simp only [Option.map_some, Option.some.injEq] at hv hf
    subst hv; subst hf
    exact putsText _ w m _ s (hz s (List.mem_of_getElem? hs)) hm (numForm_lt hm)

theorem puts_ints (w : World) (l m m2 o2 : Nat) (a : Option Addr) (c : Nat) (zs : List Int) (he : Els (fun k => k < w.heap.size) w a zs.length (zs.map (Value.int .i64))) (hz : ∀ x ∈ zs, x ≤ 9223372036854775807) (hl : w.cell? ⟨l, 0, none⟩ = some (.int .i64 0)) (hm : w.cell? ⟨m, 0, none⟩ = some (.int .i64 9223372036854775807)) (hm2 : w.cell? ⟨m2, 0, none⟩ = some (.int .i64 16777216))
    (ho : w.heap[o2]? = some (.cells #[.func (.func 39) #[] #[.pointer (some ⟨l, 0, none⟩), .pointer (some ⟨m, 0, none⟩)], .func (.func 43) #[] #[.pointer (some ⟨l, 0, none⟩), .pointer (some ⟨m, 0, none⟩)]] 29 (0, 0))) :
    PutsG (fun k => k < w.heap.size) w 75 #[.pointer (some ⟨m2, 0, none⟩), .pointer (some ⟨o2, 0, none⟩)] (.slice a zs.length c) (listW 16777216 (zs.map fun x => numW 0 9223372036854775807 x)) := by
  refine putsListI _ w m2 o2 16777216 _ _ _ _ a zs.length c (zs.map (Value.int .i64)) _ he (by rw [List.length_map]) (fun i v f hv hf => ?_) ent_putNum (numForm_lt hm2) (blk_lt ho) hm2 ho
  rw [List.getElem?_map] at hv hf
  cases hs : zs[i]? with
  | none => rw [hs] at hv; cases hv
  | some x =>
    rw [hs] at hv hf
    simp only [Option.map_some, Option.some.injEq] at hv hf
    subst hv; subst hf
    exact putsNum _ w l m _ _ x (hz x (List.mem_of_getElem? hs)) hl hm (numForm_lt hl) (numForm_lt hm)

def rowW (z : List Int) : K.WS → K.WS := listW 16777216 (z.map fun x => numW 0 9223372036854775807 x)
def rowsW (zs : List (List Int)) : K.WS → K.WS := listW 16777216 (zs.map rowW)

theorem wr_row : WR (listR 16777216 (numR 0 9223372036854775807)) (listVal 16777216 (numR 0 9223372036854775807) fun s => ((numV s : Nat) : Int)) rowW := wr_list (wr_num 0 9223372036854775807 (by decide)) 16777216
theorem wr_rows : WR (listR 16777216 (listR 16777216 (numR 0 9223372036854775807))) (listVal 16777216 (listR 16777216 (numR 0 9223372036854775807)) (listVal 16777216 (numR 0 9223372036854775807) fun s => ((numV s : Nat) : Int))) rowsW := wr_list wr_row 16777216

theorem puts_rows (w : World) (l m m2 o2 m3 o3 : Nat) (a : Option Addr) (n c : Nat) (zs : List (List Int)) (he : RowsAt (fun k => k < w.heap.size) w a n zs) (hz : ∀ z ∈ zs, ∀ x ∈ z, x ≤ 9223372036854775807) (hl : w.cell? ⟨l, 0, none⟩ = some (.int .i64 0)) (hm : w.cell? ⟨m, 0, none⟩ = some (.int .i64 9223372036854775807)) (hm2 : w.cell? ⟨m2, 0, none⟩ = some (.int .i64 16777216))
    (ho : w.heap[o2]? = some (.cells #[.func (.func 39) #[] #[.pointer (some ⟨l, 0, none⟩), .pointer (some ⟨m, 0, none⟩)], .func (.func 43) #[] #[.pointer (some ⟨l, 0, none⟩), .pointer (some ⟨m, 0, none⟩)]] 29 (0, 0)))
    (hm3 : w.cell? ⟨m3, 0, none⟩ = some (.int .i64 16777216))
    (ho3 : w.heap[o3]? = some (.cells #[.func (.func 75) #[] #[.pointer (some ⟨m2, 0, none⟩), .pointer (some ⟨o2, 0, none⟩)], .func (.func 77) #[] #[.pointer (some ⟨m2, 0, none⟩), .pointer (some ⟨o2, 0, none⟩)]] 81 (0, 0))) :
    PutsG (fun k => k < w.heap.size) w 70 #[.pointer (some ⟨m3, 0, none⟩), .pointer (some ⟨o3, 0, none⟩)] (.slice a n c) (rowsW zs) := by
  obtain ⟨vs, h1, h2, h3⟩ := he
  unfold rowsW
  refine putsListLi _ w m3 o3 16777216 _ _ _ _ a n c vs _ h1 (by rw [List.length_map, h2]) (fun i v f hv hf => ?_) ent_putListI (numForm_lt hm3) (blk_lt ho3) hm3 ho3
  rw [List.getElem?_map] at hf
  cases hs : zs[i]? with
  | none => rw [hs] at hf; cases hf
  | some z =>
    rw [hs] at hf
    simp only [Option.map_some, Option.some.injEq] at hf
    subst hf
    obtain ⟨a', c', rfl, he⟩ := h3 i v z hv hs
    exact puts_ints w l m m2 o2 a' c' z he (hz z (List.mem_of_getElem? hs)) hl hm hm2 ho

theorem cells6 {w : World} {b : Nat} {x0 x1 x2 x3 x4 x5 : Value} {T : TypeId} (h : w.heap[b]? = some (.cells #[x0, x1, x2, x3, x4, x5] T (0, 0))) :
    w.cell? ⟨b, 0, none⟩ = some x0 ∧ w.cell? ⟨b, 1, none⟩ = some x1 ∧ w.cell? ⟨b, 2, none⟩ = some x2 ∧ w.cell? ⟨b, 3, none⟩ = some x3 ∧ w.cell? ⟨b, 4, none⟩ = some x4 ∧ w.cell? ⟨b, 5, none⟩ = some x5 := by
  refine ⟨?_, ?_, ?_, ?_, ?_, ?_⟩ <;> (rw [cell_of_row _ _ _ _ _ _ h]; rfl)

set_option maxRecDepth 20000 in
set_option maxHeartbeats 20000000 in
theorem alone_walk (xm xn : Int) (hxm : xm ≤ 9223372036854775807) (hxn : xn ≤ 9223372036854775807) (aS aT aC aD : Option Addr) (nS cS nT cT nC cC nD cD : Nat) (ss tt : List ByteArray) (zc zd : List (List Int)) (w : World)
    (hS : Els (fun k => k < w.heap.size) w aS nS (ss.map Value.string)) (hT : Els (fun k => k < w.heap.size) w aT nT (tt.map Value.string)) (hC : RowsAt (fun k => k < w.heap.size) w aC nC zc) (hD : RowsAt (fun k => k < w.heap.size) w aD nD zd)
    (zS : ∀ s ∈ ss, s.size ≤ 140737488351232) (zT : ∀ s ∈ tt, s.size ≤ 140737488351232) (zC : ∀ z ∈ zc, ∀ x ∈ z, x ≤ 9223372036854775807) (zD : ∀ z ∈ zd, ∀ x ∈ z, x ≤ 9223372036854775807) :
    Calls Try.prog 5 #[.agg #[.int .i64 xm, .int .i64 xn, .slice aS nS cS, .slice aT nT cT, .slice aC nC cC, .slice aD nD cD]] w fun en w' => en = .returned (.bool true) ∧ Below w.heap.size w w' := by
  have hba := (Below.refl w.heap.size w).alloc (Nat.le_refl _) (.cells #[.int .i64 xm, .int .i64 xn, .slice aS nS cS, .slice aT nT cT, .slice aC nC cC, .slice aD nD cD] 67)
  have HX := hide (heap_alloc_new w (.cells #[.int .i64 xm, .int .i64 xn, .slice aS nS cS, .slice aT nT cT, .slice aC nC cC, .slice aD nD cD] 67))
  have HSS := hide (hS.keepB hba)
  have HTT := hide (hT.keepB hba)
  have HCC := hide (hC.keepB hba)
  have HDD := hide (hD.keepB hba)
  have HZS := hide zS
  have HZT := hide zT
  have HZC := hide zC
  have HZD := hide zD
  have HB := hide hba
  clear hba hS hT hC hD zS zT zC zD
  go_enter Try.func5, Try.ntmps5
  go_wp2_with fail
  refine (known_any _).mono ?_
  rintro e wx0 ⟨rfl, hb⟩
  have HB0 := hide (further HB.out hb)
  have HS0 := hide (HSS.out.keepB hb)
  have HT0 := hide (HTT.out.keepB hb)
  have HC0 := hide (HCC.out.keepB hb)
  have HD0 := hide (HDD.out.keepB hb)
  obtain ⟨x0, x1, x2, x3, x4, x5⟩ := cells6 (keepBlk HX.out hb)
  clear hb HB HSS HTT HCC HDD HX
  go_wp2_with fail
  clear x0 x1 x2 x3 x4 x5
  refine (Numbers_any 0 9223372036854775807 _).mono ?_
  rintro e wx2 ⟨lk1, mk1, rfl, hl, hm, _, _, hb⟩
  have QB3 := hide (further HB0.out hb)
  clear HB0
  have QS4 := hide (HS0.out.keepB hb)
  clear HS0
  have QT5 := hide (HT0.out.keepB hb)
  clear HT0
  have QC6 := hide (HC0.out.keepB hb)
  clear HC0
  have QD7 := hide (HD0.out.keepB hb)
  clear HD0
  have HLk1 := hide hl
  have HMk1 := hide hm
  clear hb hl hm
  go_wp2_with fail
  generalize hs : (numW 0 9223372036854775807 xm) ⟨[], room 16777216, 0⟩ = sk1
  have HEk1 := hide hs
  clear hs
  refine (BytesI _ _ _ _ (.int .i64 xm) (numW 0 9223372036854775807 xm) 16777216 sk1 HEk1.out _ (putsNum _ _ lk1 mk1 0 9223372036854775807 _ (by omega) HLk1.out HMk1.out (numForm_lt HLk1.out) (numForm_lt HMk1.out)) ent_putNum).mono ?_
  rintro e wx8 ⟨v, rfl, ho, hb, hfn⟩
  obtain ⟨ak1, ck1, rfl, hr1, _, hcc, _⟩ := ownsRow_rd ho hfn.1 (by have := hfn.2; omega)
  clear HLk1
  clear HMk1
  have QB9 := hide (further QB3.out hb)
  clear QB3
  have QS10 := hide (QS4.out.keepB hb)
  clear QS4
  have QT11 := hide (QT5.out.keepB hb)
  clear QT5
  have QC12 := hide (QC6.out.keepB hb)
  clear QC6
  have QD13 := hide (QD7.out.keepB hb)
  clear QD7
  have HRk1 := hide hr1
  have HCCk1 := hide hcc
  clear hb ho hfn hr1 hcc
  generalize htl : (told sk1).length = tk1 at *
  clear htl
  go_wp2_with fail
  refine (Numbers_any 0 9223372036854775807 _).mono ?_
  rintro e wx15 ⟨lk14, mk14, rfl, hl, hm, _, _, hb⟩
  have QB16 := hide (further QB9.out hb)
  clear QB9
  have QS17 := hide (QS10.out.keepB hb)
  clear QS10
  have QT18 := hide (QT11.out.keepB hb)
  clear QT11
  have QC19 := hide (QC12.out.keepB hb)
  clear QC12
  have QD20 := hide (QD13.out.keepB hb)
  clear QD13
  have QR021 := hide (HRk1.out.keep hb)
  clear HRk1
  have HLk14 := hide hl
  have HMk14 := hide hm
  clear hb hl hm
  go_wp2_with fail
  generalize hs : (numW 0 9223372036854775807 xn) ⟨[], room 16777216, 0⟩ = sk14
  have HEk14 := hide hs
  clear hs
  refine (BytesI _ _ _ _ (.int .i64 xn) (numW 0 9223372036854775807 xn) 16777216 sk14 HEk14.out _ (putsNum _ _ lk14 mk14 0 9223372036854775807 _ (by omega) HLk14.out HMk14.out (numForm_lt HLk14.out) (numForm_lt HMk14.out)) ent_putNum).mono ?_
  rintro e wx22 ⟨v, rfl, ho, hb, hfn⟩
  obtain ⟨ak14, ck14, rfl, hr1, _, hcc, _⟩ := ownsRow_rd ho hfn.1 (by have := hfn.2; omega)
  clear HLk14
  clear HMk14
  have QB23 := hide (further QB16.out hb)
  clear QB16
  have QS24 := hide (QS17.out.keepB hb)
  clear QS17
  have QT25 := hide (QT18.out.keepB hb)
  clear QT18
  have QC26 := hide (QC19.out.keepB hb)
  clear QC19
  have QD27 := hide (QD20.out.keepB hb)
  clear QD20
  have QR028 := hide (QR021.out.keep hb)
  clear QR021
  have HRk14 := hide hr1
  have HCCk14 := hide hcc
  clear hb ho hfn hr1 hcc
  generalize htl : (told sk14).length = tk14 at *
  clear htl
  go_upto_region 12 with fail
  go_cut [56] from 41 to 56 (fun st wx => st = .bool false ∧ Below wx22.heap.size wx22 wx)
  case first =>
    by_cases hz1 : sk1.fault = 0
    · by_cases hz2 : sk14.fault = 0
      · have HALO : Hid ((∃ t, told sk14 = told sk1 ++ t) → xm = xn) := fun hp => alone_of (wr_num 0 9223372036854775807 (by decide)) xm xn HEk1.out HEk14.out hz1 hz2 hp
        have hb1 : ((sk1.fault : Int) == 0) = true := by rw [hz1]; rfl
        have hb2 : ((sk14.fault : Int) == 0) = true := by rw [hz2]; rfl
        clear hz1 hz2
        go_wp2_with fail
        refine (begins_any ak1 ak14 tk1 tk14 ck1 ck14 (told sk1) (told sk14) _ HRk14.out QR028.out HCCk14.out).mono ?_
        rintro e wy ⟨β, rfl, hβ, hb⟩
        cases β with
        | false =>
          go_wp2_with fail
          go_meet
          exact ⟨rfl, hb⟩
        | true =>
          have hxy := HALO.out (hβ rfl)
          clear hβ
          subst hxy
          go_wp2_with fail
          go_meet
          exact ⟨rfl, hb⟩
      · have hzz : ((sk14.fault : Int) == 0) = false := by rw [beq_eq_false_iff_ne]; omega
        have hb1 : ((sk1.fault : Int) == 0) = true := by rw [hz1]; rfl
        clear hz1 hz2
        go_wp2_with fail
        go_meet
        exact ⟨rfl, Below.refl _ _⟩
    · have hzz : ((sk1.fault : Int) == 0) = false := by rw [beq_eq_false_iff_ne]; omega
      clear hz1
      go_wp2_with fail
      go_meet
      exact ⟨rfl, Below.refl _ _⟩
  case rest =>
  obtain ⟨rfl, hb⟩ := hcut
  clear QR028
  clear HRk14
  have QB29 := hide (further QB23.out hb)
  clear QB23
  have QS30 := hide (QS24.out.keepB hb)
  clear QS24
  have QT31 := hide (QT25.out.keepB hb)
  clear QT25
  have QC32 := hide (QC26.out.keepB hb)
  clear QC26
  have QD33 := hide (QD27.out.keepB hb)
  clear QD27
  clear hb
  clear HEk1 HEk14 HCCk1 HCCk14
  go_wp2_with fail
  refine (Texts_any 9223372036854775807 _).mono ?_
  rintro e wx35 ⟨mk34, rfl, hm, _, hb⟩
  have QB36 := hide (further QB29.out hb)
  clear QB29
  have QS37 := hide (QS30.out.keepB hb)
  clear QS30
  have QT38 := hide (QT31.out.keepB hb)
  clear QT31
  have QC39 := hide (QC32.out.keepB hb)
  clear QC32
  have QD40 := hide (QD33.out.keepB hb)
  clear QD33
  have HMk34 := hide hm
  clear hb hm
  go_wp2_with fail
  refine (ListsS _ _ _ _ 9223372036854775807 _).mono ?_
  rintro e wx41 ⟨m2k34, o2k34, rfl, hm, ho, _, _, hb⟩
  rw [minfar] at hm
  have QB42 := hide (further QB36.out hb)
  clear QB36
  have QS43 := hide (QS37.out.keepB hb)
  clear QS37
  have QT44 := hide (QT38.out.keepB hb)
  clear QT38
  have QC45 := hide (QC39.out.keepB hb)
  clear QC39
  have QD46 := hide (QD40.out.keepB hb)
  clear QD40
  have QM47 := hide (keepCell HMk34.out hb)
  clear HMk34
  have HM2k34 := hide hm
  have HO2k34 := hide ho
  clear hb hm ho
  go_wp2_with fail
  generalize hs : (listW 16777216 (((ss).map sb).map fun bs => textW 9223372036854775807 bs)) ⟨[], room 16777216, 0⟩ = sk34
  have HEk34 := hide hs
  clear hs
  refine (BytesLs _ _ _ _ (.slice aS nS cS) (listW 16777216 (((ss).map sb).map fun bs => textW 9223372036854775807 bs)) 16777216 sk34 HEk34.out _ (puts_strs _ mk34 m2k34 o2k34 _ _ _ ss QS43.out HZS.out QM47.out HM2k34.out HO2k34.out) ent_putListS).mono ?_
  rintro e wx48 ⟨v, rfl, ho, hb, hfn⟩
  obtain ⟨ak34, ck34, rfl, hr1, _, hcc, _⟩ := ownsRow_rd ho hfn.1 (by have := hfn.2; omega)
  clear QM47
  clear HM2k34
  clear HO2k34
  have QB49 := hide (further QB42.out hb)
  clear QB42
  have QS50 := hide (QS43.out.keepB hb)
  clear QS43
  have QT51 := hide (QT44.out.keepB hb)
  clear QT44
  have QC52 := hide (QC45.out.keepB hb)
  clear QC45
  have QD53 := hide (QD46.out.keepB hb)
  clear QD46
  have HRk34 := hide hr1
  have HCCk34 := hide hcc
  clear hb ho hfn hr1 hcc
  generalize htl : (told sk34).length = tk34 at *
  clear htl
  go_wp2_with fail
  refine (Texts_any 9223372036854775807 _).mono ?_
  rintro e wx55 ⟨mk54, rfl, hm, _, hb⟩
  have QB56 := hide (further QB49.out hb)
  clear QB49
  have QS57 := hide (QS50.out.keepB hb)
  clear QS50
  have QT58 := hide (QT51.out.keepB hb)
  clear QT51
  have QC59 := hide (QC52.out.keepB hb)
  clear QC52
  have QD60 := hide (QD53.out.keepB hb)
  clear QD53
  have QR061 := hide (HRk34.out.keep hb)
  clear HRk34
  have HMk54 := hide hm
  clear hb hm
  go_wp2_with fail
  refine (ListsS _ _ _ _ 9223372036854775807 _).mono ?_
  rintro e wx62 ⟨m2k54, o2k54, rfl, hm, ho, _, _, hb⟩
  rw [minfar] at hm
  have QB63 := hide (further QB56.out hb)
  clear QB56
  have QS64 := hide (QS57.out.keepB hb)
  clear QS57
  have QT65 := hide (QT58.out.keepB hb)
  clear QT58
  have QC66 := hide (QC59.out.keepB hb)
  clear QC59
  have QD67 := hide (QD60.out.keepB hb)
  clear QD60
  have QR068 := hide (QR061.out.keep hb)
  clear QR061
  have QM69 := hide (keepCell HMk54.out hb)
  clear HMk54
  have HM2k54 := hide hm
  have HO2k54 := hide ho
  clear hb hm ho
  go_wp2_with fail
  generalize hs : (listW 16777216 (((tt).map sb).map fun bs => textW 9223372036854775807 bs)) ⟨[], room 16777216, 0⟩ = sk54
  have HEk54 := hide hs
  clear hs
  refine (BytesLs _ _ _ _ (.slice aT nT cT) (listW 16777216 (((tt).map sb).map fun bs => textW 9223372036854775807 bs)) 16777216 sk54 HEk54.out _ (puts_strs _ mk54 m2k54 o2k54 _ _ _ tt QT65.out HZT.out QM69.out HM2k54.out HO2k54.out) ent_putListS).mono ?_
  rintro e wx70 ⟨v, rfl, ho, hb, hfn⟩
  obtain ⟨ak54, ck54, rfl, hr1, _, hcc, _⟩ := ownsRow_rd ho hfn.1 (by have := hfn.2; omega)
  clear QM69
  clear HM2k54
  clear HO2k54
  have QB71 := hide (further QB63.out hb)
  clear QB63
  have QS72 := hide (QS64.out.keepB hb)
  clear QS64
  have QT73 := hide (QT65.out.keepB hb)
  clear QT65
  have QC74 := hide (QC66.out.keepB hb)
  clear QC66
  have QD75 := hide (QD67.out.keepB hb)
  clear QD67
  have QR076 := hide (QR068.out.keep hb)
  clear QR068
  have HRk54 := hide hr1
  have HCCk54 := hide hcc
  clear hb ho hfn hr1 hcc
  generalize htl : (told sk54).length = tk54 at *
  clear htl
  go_upto_region 16 with fail
  go_cut [87] from 71 to 87 (fun st wx => st = .bool false ∧ Below wx70.heap.size wx70 wx)
  case first =>
    by_cases hz1 : sk34.fault = 0
    · by_cases hz2 : sk54.fault = 0
      · have HALO : Hid ((∃ t, told sk54 = told sk34 ++ t) → (ss.map sb) = (tt.map sb)) := fun hp => alone_of (wr_list (wr_text 9223372036854775807) 16777216) (ss.map sb) (tt.map sb) HEk34.out HEk54.out hz1 hz2 hp
        have hb1 : ((sk34.fault : Int) == 0) = true := by rw [hz1]; rfl
        have hb2 : ((sk54.fault : Int) == 0) = true := by rw [hz2]; rfl
        clear hz1 hz2
        go_wp2_with fail
        refine (begins_any ak34 ak54 tk34 tk54 ck34 ck54 (told sk34) (told sk54) _ HRk54.out QR076.out HCCk54.out).mono ?_
        rintro e wy ⟨β, rfl, hβ, hb⟩
        cases β with
        | false =>
          go_wp2_with fail
          go_meet
          exact ⟨rfl, hb⟩
        | true =>
          have hxy := HALO.out (hβ rfl)
          clear hβ
          have hst : ss = tt := strs_inj hxy
          clear hxy
          subst hst
          have hnn : nT = nS := len_eq QT73.out QS72.out
          subst hnn
          go_wp2_with fail
          refine (texts_same (fun k => k < wy.heap.size) aS aT _ cS cT ss wy (QS72.out.keepB hb) (QT73.out.keepB hb)).mono ?_
          rintro e wz ⟨rfl, j, rfl⟩
          go_wp2_with fail
          go_meet
          exact ⟨rfl, belowDrewN hb j⟩
      · have hzz : ((sk54.fault : Int) == 0) = false := by rw [beq_eq_false_iff_ne]; omega
        have hb1 : ((sk34.fault : Int) == 0) = true := by rw [hz1]; rfl
        clear hz1 hz2
        go_wp2_with fail
        go_meet
        exact ⟨rfl, Below.refl _ _⟩
    · have hzz : ((sk34.fault : Int) == 0) = false := by rw [beq_eq_false_iff_ne]; omega
      clear hz1
      go_wp2_with fail
      go_meet
      exact ⟨rfl, Below.refl _ _⟩
  case rest =>
  obtain ⟨rfl, hb⟩ := hcut
  clear QR076
  clear HRk54
  have QB77 := hide (further QB71.out hb)
  clear QB71
  have QS78 := hide (QS72.out.keepB hb)
  clear QS72
  have QT79 := hide (QT73.out.keepB hb)
  clear QT73
  have QC80 := hide (QC74.out.keepB hb)
  clear QC74
  have QD81 := hide (QD75.out.keepB hb)
  clear QD75
  clear hb
  clear HEk34 HEk54 HCCk34 HCCk54
  go_wp2_with fail
  refine (Numbers_any 0 9223372036854775807 _).mono ?_
  rintro e wx83 ⟨lk82, mk82, rfl, hl, hm, _, _, hb⟩
  have QB84 := hide (further QB77.out hb)
  clear QB77
  have QS85 := hide (QS78.out.keepB hb)
  clear QS78
  have QT86 := hide (QT79.out.keepB hb)
  clear QT79
  have QC87 := hide (QC80.out.keepB hb)
  clear QC80
  have QD88 := hide (QD81.out.keepB hb)
  clear QD81
  have HLk82 := hide hl
  have HMk82 := hide hm
  clear hb hl hm
  go_wp2_with fail
  refine (ListsI _ _ _ _ 9223372036854775807 _).mono ?_
  rintro e wx89 ⟨m2k82, o2k82, rfl, hm, ho, _, _, hb⟩
  rw [minfar] at hm
  have QB90 := hide (further QB84.out hb)
  clear QB84
  have QS91 := hide (QS85.out.keepB hb)
  clear QS85
  have QT92 := hide (QT86.out.keepB hb)
  clear QT86
  have QC93 := hide (QC87.out.keepB hb)
  clear QC87
  have QD94 := hide (QD88.out.keepB hb)
  clear QD88
  have QL95 := hide (keepCell HLk82.out hb)
  clear HLk82
  have QM96 := hide (keepCell HMk82.out hb)
  clear HMk82
  have HM2k82 := hide hm
  have HO2k82 := hide ho
  clear hb hm ho
  go_wp2_with fail
  refine (ListsLi _ _ _ _ 9223372036854775807 _).mono ?_
  rintro e wx97 ⟨m3k82, o3k82, rfl, hm, ho, _, _, hb⟩
  rw [minfar] at hm
  have QB98 := hide (further QB90.out hb)
  clear QB90
  have QS99 := hide (QS91.out.keepB hb)
  clear QS91
  have QT100 := hide (QT92.out.keepB hb)
  clear QT92
  have QC101 := hide (QC93.out.keepB hb)
  clear QC93
  have QD102 := hide (QD94.out.keepB hb)
  clear QD94
  have QL103 := hide (keepCell QL95.out hb)
  clear QL95
  have QM104 := hide (keepCell QM96.out hb)
  clear QM96
  have QM2105 := hide (keepCell HM2k82.out hb)
  clear HM2k82
  have QO2106 := hide (keepBlk HO2k82.out hb)
  clear HO2k82
  have HM3k82 := hide hm
  have HO3k82 := hide ho
  clear hb hm ho
  go_wp2_with fail
  generalize hs : (rowsW zc) ⟨[], room 16777216, 0⟩ = sk82
  have HEk82 := hide hs
  clear hs
  refine (BytesLli _ _ _ _ (.slice aC nC cC) (rowsW zc) 16777216 sk82 HEk82.out _ (puts_rows _ lk82 mk82 m2k82 o2k82 m3k82 o3k82 _ _ _ zc QC101.out HZC.out QL103.out QM104.out QM2105.out QO2106.out HM3k82.out HO3k82.out) ent_putListLi).mono ?_
  rintro e wx107 ⟨v, rfl, ho, hb, hfn⟩
  obtain ⟨ak82, ck82, rfl, hr1, _, hcc, _⟩ := ownsRow_rd ho hfn.1 (by have := hfn.2; omega)
  clear QL103
  clear QM104
  clear QM2105
  clear QO2106
  clear HM3k82
  clear HO3k82
  have QB108 := hide (further QB98.out hb)
  clear QB98
  have QS109 := hide (QS99.out.keepB hb)
  clear QS99
  have QT110 := hide (QT100.out.keepB hb)
  clear QT100
  have QC111 := hide (QC101.out.keepB hb)
  clear QC101
  have QD112 := hide (QD102.out.keepB hb)
  clear QD102
  have HRk82 := hide hr1
  have HCCk82 := hide hcc
  clear hb ho hfn hr1 hcc
  generalize htl : (told sk82).length = tk82 at *
  clear htl
  go_wp2_with fail
  refine (Numbers_any 0 9223372036854775807 _).mono ?_
  rintro e wx114 ⟨lk113, mk113, rfl, hl, hm, _, _, hb⟩
  have QB115 := hide (further QB108.out hb)
  clear QB108
  have QS116 := hide (QS109.out.keepB hb)
  clear QS109
  have QT117 := hide (QT110.out.keepB hb)
  clear QT110
  have QC118 := hide (QC111.out.keepB hb)
  clear QC111
  have QD119 := hide (QD112.out.keepB hb)
  clear QD112
  have QR0120 := hide (HRk82.out.keep hb)
  clear HRk82
  have HLk113 := hide hl
  have HMk113 := hide hm
  clear hb hl hm
  go_wp2_with fail
  refine (ListsI _ _ _ _ 9223372036854775807 _).mono ?_
  rintro e wx121 ⟨m2k113, o2k113, rfl, hm, ho, _, _, hb⟩
  rw [minfar] at hm
  have QB122 := hide (further QB115.out hb)
  clear QB115
  have QS123 := hide (QS116.out.keepB hb)
  clear QS116
  have QT124 := hide (QT117.out.keepB hb)
  clear QT117
  have QC125 := hide (QC118.out.keepB hb)
  clear QC118
  have QD126 := hide (QD119.out.keepB hb)
  clear QD119
  have QR0127 := hide (QR0120.out.keep hb)
  clear QR0120
  have QL128 := hide (keepCell HLk113.out hb)
  clear HLk113
  have QM129 := hide (keepCell HMk113.out hb)
  clear HMk113
  have HM2k113 := hide hm
  have HO2k113 := hide ho
  clear hb hm ho
  go_wp2_with fail
  refine (ListsLi _ _ _ _ 9223372036854775807 _).mono ?_
  rintro e wx130 ⟨m3k113, o3k113, rfl, hm, ho, _, _, hb⟩
  rw [minfar] at hm
  have QB131 := hide (further QB122.out hb)
  clear QB122
  have QS132 := hide (QS123.out.keepB hb)
  clear QS123
  have QT133 := hide (QT124.out.keepB hb)
  clear QT124
  have QC134 := hide (QC125.out.keepB hb)
  clear QC125
  have QD135 := hide (QD126.out.keepB hb)
  clear QD126
  have QR0136 := hide (QR0127.out.keep hb)
  clear QR0127
  have QL137 := hide (keepCell QL128.out hb)
  clear QL128
  have QM138 := hide (keepCell QM129.out hb)
  clear QM129
  have QM2139 := hide (keepCell HM2k113.out hb)
  clear HM2k113
  have QO2140 := hide (keepBlk HO2k113.out hb)
  clear HO2k113
  have HM3k113 := hide hm
  have HO3k113 := hide ho
  clear hb hm ho
  go_wp2_with fail
  generalize hs : (rowsW zd) ⟨[], room 16777216, 0⟩ = sk113
  have HEk113 := hide hs
  clear hs
  refine (BytesLli _ _ _ _ (.slice aD nD cD) (rowsW zd) 16777216 sk113 HEk113.out _ (puts_rows _ lk113 mk113 m2k113 o2k113 m3k113 o3k113 _ _ _ zd QD135.out HZD.out QL137.out QM138.out QM2139.out QO2140.out HM3k113.out HO3k113.out) ent_putListLi).mono ?_
  rintro e wx141 ⟨v, rfl, ho, hb, hfn⟩
  obtain ⟨ak113, ck113, rfl, hr1, _, hcc, _⟩ := ownsRow_rd ho hfn.1 (by have := hfn.2; omega)
  clear QL137
  clear QM138
  clear QM2139
  clear QO2140
  clear HM3k113
  clear HO3k113
  have QB142 := hide (further QB131.out hb)
  clear QB131
  have QS143 := hide (QS132.out.keepB hb)
  clear QS132
  have QT144 := hide (QT133.out.keepB hb)
  clear QT133
  have QC145 := hide (QC134.out.keepB hb)
  clear QC134
  have QD146 := hide (QD135.out.keepB hb)
  clear QD135
  have QR0147 := hide (QR0136.out.keep hb)
  clear QR0136
  have HRk113 := hide hr1
  have HCCk113 := hide hcc
  clear hb ho hfn hr1 hcc
  generalize htl : (told sk113).length = tk113 at *
  clear htl
  by_cases hz1 : sk82.fault = 0
  · by_cases hz2 : sk113.fault = 0
    · have HALO : Hid ((∃ t, told sk113 = told sk82 ++ t) → zc = zd) := fun hp => alone_of wr_rows zc zd HEk82.out HEk113.out hz1 hz2 hp
      go_wp2_with fail
      refine (begins_any ak82 ak113 tk82 tk113 ck82 ck113 (told sk82) (told sk113) _ HRk113.out QR0147.out HCCk113.out).mono ?_
      rintro e wy ⟨β, rfl, hβ, hb⟩
      cases β with
      | false =>
        go_wp2_with fail
        go_ret
        exact ⟨by simp, further QB142.out (hb)⟩
      | true =>
        have hxy := HALO.out (hβ rfl)
        clear hβ
        subst hxy
        have hnn : nD = nC := rows_len QD146.out QC145.out
        subst hnn
        go_wp2_with fail
        refine (lists_same (fun k => k < wy.heap.size) aC aD _ cC cD zc wy (QC145.out.keepB hb) (QD146.out.keepB hb)).mono ?_
        rintro e wz ⟨rfl, j, rfl⟩
        go_wp2_with fail
        go_ret
        exact ⟨by simp, further QB142.out (belowDrewN hb j)⟩
    · have hzz : ((sk113.fault : Int) == 0) = false := by rw [beq_eq_false_iff_ne]; omega
      go_wp2_with fail
      go_ret
      exact ⟨by simp, QB142.out⟩
  · have hzz : ((sk82.fault : Int) == 0) = false := by rw [beq_eq_false_iff_ne]; omega
    go_wp2_with fail
    go_ret
    exact ⟨by simp, QB142.out⟩

theorem mem_weightsAll {H : Type} {P : Program} {e : TypeId} : ∀ {l : List (DataW H)} {d : DataW H} {k : Nat}, d ∈ l → k ∈ d.weights P e → k ∈ DataW.weightsAll P e l := by
  intro l
  induction l with
  | nil => intro d k h; cases h
  | cons x l ih =>
    intro d k h hk
    simp only [DataW.weightsAll, List.mem_append]
    rcases List.mem_cons.1 h with rfl | h
    · exact .inl hk
    · exact .inr (ih h hk)

theorem els_of_cells {W : World} {ad : Addr} {n : Nat} {V : Nat → Value} (hc : ∀ i, i < n → W.cell? (ad.add i) = some (V i)) (hn : n ≤ 140737488351232) : Els (fun k => k < W.heap.size) W (some ad) n ((List.range n).map V) := by
  refine ⟨by simp, hn, ?_⟩
  by_cases h0 : n = 0
  · exact .inl h0
  · right
    obtain ⟨b, off, spot⟩ := ad
    have hspot : spot = none := by simpa [Addr.add] using World.cell?_spot (hc 0 (by omega))
    subst hspot
    have hadd : ∀ i, (⟨b, off, none⟩ : Addr).add i = ⟨b, off + i, none⟩ := fun i => by unfold Addr.add; split <;> simp_all
    refine ⟨b, off, rfl, ?_, fun i v hv => ?_⟩
    · have := block_lt_of_cell (hc 0 (by omega))
      rw [hadd] at this
      exact this
    · rw [List.getElem?_map] at hv
      rcases Nat.lt_or_ge i n with hi | hi
      · rw [List.getElem?_range hi] at hv
        simp only [Option.map_some, Option.some.injEq] at hv
        subst hv
        rw [← hadd]
        exact hc i hi
      · rw [List.getElem?_eq_none (by simpa using hi)] at hv
        cases hv

theorem bytes_str : Try.prog.bytesOf 9 = 16 := by kernel_rfl
theorem cells_str : Try.prog.cellsOf 9 = 1 := by kernel_rfl
theorem bytes_int : Try.prog.bytesOf 3 = 8 := by kernel_rfl
theorem cells_int : Try.prog.cellsOf 3 = 1 := by kernel_rfl
theorem bytes_ints : Try.prog.bytesOf 77 = 24 := by kernel_rfl
theorem cells_ints : Try.prog.cellsOf 77 = 1 := by kernel_rfl

theorem trod_strs {H : Type} {enc : TypeId × Value → H} {W : World} {fuel : Nat} {v : Value} {x : DataW H × List MemPlace}
    (h : DataW.trod enc Try.prog W 0 (fun _ => true) true fuel 56 [v] = some x) (hw : ∀ k ∈ x.1.weights Try.prog 56, k ≤ reachBytes) :
    ∃ (a : Option Addr) (n c : Nat) (ss : List ByteArray), v = .slice a n c ∧ Els (fun k => k < W.heap.size) W a n (ss.map Value.string) ∧ ∀ s ∈ ss, s.size ≤ 140737488351232 := by
  rcases open_strs Try.underlying56 Try.underlying9 cells_str h with ⟨hcs, _⟩ | ⟨ad, len, cap, m, Sx, hcs, _, hl, hm, hmm, hx, hcell⟩
  · simp at hcs
    exact ⟨none, 0, 0, [], hcs, ⟨rfl, by decide, .inl rfl⟩, fun s hs => by cases hs⟩
  · simp at hcs
    simp only [if_true] at hmm
    subst hmm
    rw [hx] at hw
    have hlen : len ≤ 140737488351232 := by
      have := hw ((((List.range len).map fun i => (DataW.lit (.string (Sx i).data.toList) : DataW H)).length + ((List.range (m - len)).map fun j => (DataW.lit (.string (Sx (len + j)).data.toList) : DataW H)).length) * 16) (by
        simp [DataW.weights, Try.underlying56, bytes_str])
      simp only [List.length_map, List.length_range, reachBytes] at this
      omega
    refine ⟨some ad, len, m, (List.range len).map Sx, hcs, ?_, ?_⟩
    · rw [List.map_map]
      exact els_of_cells (V := fun i => Value.string (Sx i)) (fun i hi => (hcell i (by omega)).1) hlen
    · intro s hs
      simp only [List.mem_map, List.mem_range] at hs
      obtain ⟨i, hi, rfl⟩ := hs
      have := hw ((Sx i).data.toList.length) (by
        simp only [DataW.weights, Try.underlying56, List.mem_cons, List.mem_append]
        refine .inr (.inl (mem_weightsAll (d := .lit (.string (Sx i).data.toList)) (List.mem_map.2 ⟨i, List.mem_range.2 hi, rfl⟩) (by simp [DataW.weights])))
        )
      simp only [reachBytes, Array.length_toList] at this
      exact this

theorem trod_rows {H : Type} {enc : TypeId × Value → H} {W : World} {fuel : Nat} {v : Value} {x : DataW H × List MemPlace}
    (h : DataW.trod enc Try.prog W 0 (fun _ => true) true fuel 65 [v] = some x) (hw : ∀ k ∈ x.1.weights Try.prog 65, k ≤ reachBytes) :
    ∃ a n c zs, v = .slice a n c ∧ RowsAt (fun k => k < W.heap.size) W a n zs ∧ ∀ z ∈ zs, ∀ y ∈ z, y ≤ 9223372036854775807 := by
  rcases open_int_rows Try.underlying65 Try.underlying77 Try.underlying3 cells_ints cells_int h with ⟨hcs, _⟩ | ⟨ad, len, cap, A, L, C, Z, hcs, _, hl, hm, hx, hcell⟩
  · simp at hcs
    exact ⟨none, 0, 0, [], hcs, ⟨[], ⟨rfl, by decide, .inl rfl⟩, rfl, fun i v z hv => by cases hv⟩, fun z hz => by cases hz⟩
  · simp at hcs
    rw [hx] at hw
    have hlen : len ≤ 140737488351232 := by
      have := hw ((((List.range len).map fun r => (intRow .i64 (A r) (L r) (Z r) : DataW H)).length + ((List.range (cap - len)).map fun j => (intRow .i64 (A (len + j)) (L (len + j)) (Z (len + j)) : DataW H)).length) * 24) (by
        simp [DataW.weights, Try.underlying65, bytes_ints])
      simp only [List.length_map, List.length_range, reachBytes] at this
      omega
    refine ⟨some ad, len, cap, (List.range len).map fun r => (Z r).take (L r), hcs, ⟨(List.range len).map fun r => .slice (A r) (L r) (C r), els_of_cells (V := fun r => .slice (A r) (L r) (C r)) (fun i hi => (hcell i (by omega)).1) hlen, by simp, ?_⟩, ?_⟩
    · intro i v z hv hz
      rw [List.getElem?_map] at hv hz
      rcases Nat.lt_or_ge i len with hi | hi
      · rw [List.getElem?_range hi] at hv hz
        simp only [Option.map_some, Option.some.injEq] at hv hz
        subst hv; subst hz
        obtain ⟨_, hLC, _, hZC, _, hA0, hA⟩ := hcell i (by omega)
        have hzl : ((Z i).take (L i)).length = L i := by rw [List.length_take]; omega
        rw [hzl]
        refine ⟨A i, C i, rfl, ?_⟩
        cases hAi : A i with
        | none =>
          have hC0 := hA0 hAi
          have hL0 : L i = 0 := by omega
          rw [hL0]
          exact ⟨by simp, by decide, .inl rfl⟩
        | some a' =>
          obtain ⟨_, hc⟩ := hA a' hAi
          have hLb : L i ≤ 140737488351232 := by
            have := hw (((lits (H := H) .i64 ((Z i).take (L i))).length + (lits (H := H) .i64 ((Z i).drop (L i))).length) * 8) (by
              simp only [DataW.weights, Try.underlying65, List.mem_cons, List.mem_append]
              refine .inr (.inl (mem_weightsAll (d := intRow .i64 (A i) (L i) (Z i)) (List.mem_map.2 ⟨i, List.mem_range.2 hi, rfl⟩) ?_))
              rw [hAi]
              simp [intRow, DataW.weights, Try.underlying77, bytes_int])
            simp only [lits, List.length_map, List.length_take, List.length_drop, reachBytes] at this
            omega
          have he := els_of_cells (W := W) (ad := a') (n := L i) (V := fun c => .int .i64 ((Z i).getD c 0)) (fun c hc' => hc c (by omega)) hLb
          have e : (List.range (L i)).map (fun c => Value.int .i64 ((Z i).getD c 0)) = ((Z i).take (L i)).map (Value.int .i64) := by
            apply List.ext_getElem?
            intro j
            rw [List.getElem?_map, List.getElem?_map, List.getElem?_take]
            rcases Nat.lt_or_ge j (L i) with hj | hj
            · rw [List.getElem?_range hj, if_pos hj, List.getElem?_eq_getElem (show j < (Z i).length by omega)]
              simp [List.getD_eq_getElem?_getD, List.getElem?_eq_getElem (show j < (Z i).length by omega)]
            · rw [List.getElem?_eq_none (by simpa using hj), if_neg (by omega)]
              rfl
          rw [e] at he
          exact he
      · rw [List.getElem?_eq_none (by simpa using hi)] at hv
        cases hv
    · intro z hz y hy
      simp only [List.mem_map, List.mem_range] at hz
      obtain ⟨r, hr, rfl⟩ := hz
      obtain ⟨_, _, _, _, hwf, _⟩ := hcell r (by omega)
      exact (bounds_i64 (hwf y (List.mem_of_mem_take hy))).2

theorem array6 {α : Type} {cs : Array α} (h : cs.size = 6) : ∃ c0 c1 c2 c3 c4 c5, cs = #[c0, c1, c2, c3, c4, c5] := by
  obtain ⟨l⟩ := cs
  match l, h with
  | [c0, c1, c2, c3, c4, c5], _ => exact ⟨c0, c1, c2, c3, c4, c5, rfl⟩

/-- a struct of six fields of one cell each, by value, opened -/
theorem open6 {H : Type} {enc : TypeId × Value → H} {P : Program} {w : World} {base : Nat} {spare : Nat → Bool} {held : Bool} {r : Reach} {b0 : Nat} {t : TypeId} {f0 f1 f2 f3 f4 f5 : Field} {v : Value} {d : DataW H} {p : List MemPlace}
    (hs : P.underlying t = some (.struct #[f0, f1, f2, f3, f4, f5])) (hone : oneCellFields P #[f0, f1, f2, f3, f4, f5] = true) (hC : P.cellsOf t = 6)
    (hv : Value.okWide P w r b0 t v) (h : DataW.Trod enc P w base spare held t v d p) :
    ∃ (v0 v1 v2 v3 v4 v5 : Value) (y0 y1 y2 y3 y4 y5 : DataW H × List MemPlace) (n : Nat), v = .agg #[v0, v1, v2, v3, v4, v5] ∧ d = .agg [y0.1, y1.1, y2.1, y3.1, y4.1, y5.1] ∧
      DataW.trod enc P w base spare held n f0.type [v0] = some y0 ∧ DataW.trod enc P w base spare held n f1.type [v1] = some y1 ∧ DataW.trod enc P w base spare held n f2.type [v2] = some y2 ∧
      DataW.trod enc P w base spare held n f3.type [v3] = some y3 ∧ DataW.trod enc P w base spare held n f4.type [v4] = some y4 ∧ DataW.trod enc P w base spare held n f5.type [v5] = some y5 := by
  obtain ⟨cs, rfl, hsz⟩ := okWide_struct hs hv
  obtain ⟨c0, c1, c2, c3, c4, c5, rfl⟩ := array6 (hsz.trans hC)
  obtain ⟨fuel, hf⟩ := h
  obtain ⟨xs, n, _, hx, _, hlen, hff⟩ := DataW.trod_struct hs hf
  obtain ⟨o0, k0⟩ := hone_of hone 0 f0 rfl
  obtain ⟨o1, k1⟩ := hone_of hone 1 f1 rfl
  obtain ⟨o2, k2⟩ := hone_of hone 2 f2 rfl
  obtain ⟨o3, k3⟩ := hone_of hone 3 f3 rfl
  obtain ⟨o4, k4⟩ := hone_of hone 4 f4 rfl
  obtain ⟨o5, k5⟩ := hone_of hone 5 f5 rfl
  match xs, hlen with
  | [y0, y1, y2, y3, y4, y5], _ =>
    simp only [Prod.mk.injEq] at hx
    exact ⟨c0, c1, c2, c3, c4, c5, y0, y1, y2, y3, y4, y5, n, rfl, by simpa using hx.1, by simpa [Value.cells, o0, k0] using hff 0 f0 rfl, by simpa [Value.cells, o1, k1] using hff 1 f1 rfl, by simpa [Value.cells, o2, k2] using hff 2 f2 rfl, by simpa [Value.cells, o3, k3] using hff 3 f3 rfl, by simpa [Value.cells, o4, k4] using hff 4 f4 rfl, by simpa [Value.cells, o5, k5] using hff 5 f5 rfl⟩

namespace PackAlone
set_option maxRecDepth 100000 in
theorem lifted (os : Os) (started : os.Started) (H : Type) (enc : TypeId × Value → H) :
    ReturnsInHanded {} Try.checked os 5 .any (Rows.packAloneSpec.pre6 enc Try.prog Try.f5 Rows.packAloneRow.domain false) (Rows.packAloneSpec.post enc Try.prog Try.f5 false true false false) := by
  refine returnsInHanded_of_change_sized (C := Try.checked) own started (by kernel_rfl) Try.func5
    (ChangeSpec.witness6 (enc := enc) (C := Try.checked) false ⟨#[], #[.agg #[.int .i64 0, .int .i64 0, .slice none 0 0, .slice none 0 0, .slice none 0 0, .slice none 0 0]], []⟩ 8 (by kernel_rfl) (by kernel_rfl) (by kernel_rfl) (by kernel_rfl)) ?_
  intro W base args ds gs before hval0 hW _ hsz0 _
  have hsz : (DataW.weightsEach Try.prog (Try.f5.params.toList ++ Rows.packAloneSpec.plain.varTypes Try.prog) (ds ++ gs)).all (· ≤ reachBytes) = true := hsz0
  have hval : ∀ (j : Nat) t v, Try.f5.params[j]? = some t → args[j]? = some v → Value.okWide Try.prog W .any base t v := hval0
  have hW' := hW
  obtain ⟨p, q, hA0, hV, rfl, hfz, hnd⟩ := hW
  have hA : DataW.TrodAll enc Try.prog W 0 (fun _ => true) true Try.f5.params.toList args.toList ds p := hA0
  rw [Try.params5] at hA hval hsz
  obtain ⟨v0, d0, rfl, rfl, h0⟩ := trodAll_one hA
  obtain ⟨rfl, rfl⟩ := trodVars_none hV
  have lt0 : ∀ x ∈ p, x.block < W.heap.size := by obtain ⟨m, hm⟩ := h0; exact DataW.trod_lt m _ _ _ hm
  obtain ⟨c0, c1, c2, c3, c4, c5, y0, y1, y2, y3, y4, y5, n, rfl, hd, g0, g1, g2, g3, g4, g5⟩ := open6 Try.underlying67 (by kernel_rfl) (by kernel_rfl) (hval 0 67 v0 rfl rfl) h0
  have hw0 := weigh hsz (j := 0) rfl rfl
  rw [hd] at hw0
  obtain ⟨a0, e0, _, wf0⟩ := DataW.trod_int Try.underlying3 g0
  obtain ⟨a1, e1, _, wf1⟩ := DataW.trod_int Try.underlying3 g1
  have hw2 := weigh_field Try.underlying67 hw0 (j := 2) rfl rfl
  have hw3 := weigh_field Try.underlying67 hw0 (j := 3) rfl rfl
  have hw4 := weigh_field Try.underlying67 hw0 (j := 4) rfl rfl
  have hw5 := weigh_field Try.underlying67 hw0 (j := 5) rfl rfl
  obtain ⟨b2, m2, k2, l2, rfl, hl2, z2⟩ := trod_strs g2 hw2
  obtain ⟨b3, m3, k3, l3, rfl, hl3, z3⟩ := trod_strs g3 hw3
  obtain ⟨b4, m4, k4, l4, rfl, hl4, z4⟩ := trod_rows g4 hw4
  obtain ⟨b5, m5, k5, l5, rfl, hl5, z5⟩ := trod_rows g5 hw5
  simp at e0 e1
  subst e0 e1
  clear hA0 hval0
  refine (alone_walk a0 a1 (bounds_i64 wf0).2 (bounds_i64 wf1).2 b2 b3 b4 b5 m2 k2 m3 k3 m4 k4 m5 k5 l2 l3 l4 l5 W hl2 hl3 hl4 hl5 z2 z3 z4 z5).mono fun e W' ⟨he, bel⟩ => ?_
  subst he
  exact ⟨_, rfl, _, _, _, [], _, [], hW', trodAll_mk1 (shut_bool Try.underlying4 _), trodAll_mk1 (Below.trod laidOut (by kernel_rfl) (of_decide_eq_true (by kernel_rfl)) h0 bel lt0), rfl, bel.frame _, fun h => by cases h⟩

theorem over : Rows.packAloneRow.holds Try.pinned (OpenSpec.ofChange Rows.packAloneSpec) :=
  OpenClaim.holds_of_wide 5 Try.f5 rfl rfl rfl rfl rfl rfl rfl ⟨rfl, rfl, rfl, rfl, rfl⟩ rfl rfl rfl rfl rfl (by kernel_rfl) Try.func5 (by kernel_rfl)
    (of_decide_eq_true (by kernel_rfl)) (by unfold Func.isWrapper; first | (rw [if_pos (by decide +kernel)]; kernel_rfl) | (rw [if_neg (by decide +kernel)]; exact ⟨rfl, rfl⟩))
    (fun os started H enc _ => lifted os started H enc)
end PackAlone

theorem packAlone_holds : Rows.PackAloneSaid := PackAlone.over
#print axioms packAlone_holds

end Go.Proofs.Ytnoniccbmojmlaa
