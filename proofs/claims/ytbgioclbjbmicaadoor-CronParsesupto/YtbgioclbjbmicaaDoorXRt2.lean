/- The document's text of a set: told. -/
import Derived.Test.YtbgioclbjbmicaaDoorXRt1
import Derived.Test.YtbgioclbjbmicaaDoorXRlw
import Derived.Deep.Cut
namespace Go.Proofs.YtbgioclbjbmicaaDoor
open Go.RowKit

theorem cat_a (A B : List UInt8) : ((⟨A.toArray⟩ : ByteArray) ++ ⟨B.toArray⟩) = ⟨(A ++ B).toArray⟩ := by apply ByteArray.ext; simp
theorem cat_b (A B : List UInt8) (c : UInt8) : ((⟨A.toArray⟩ : ByteArray) ++ ⟨#[c]⟩ ++ ⟨B.toArray⟩) = ⟨(A ++ c :: B).toArray⟩ := by apply ByteArray.ext; simp
theorem empty_of (A : List UInt8) : (⟨A.toArray⟩ : ByteArray).toList.isEmpty = A.isEmpty := by rw [Lib.toList_data]
theorem runT_one (a : Nat) : X.runT a a = Lib.decDigits a := by simp [X.runT]
theorem runT_two {a b : Nat} (h : a ≠ b) : X.runT a b = Lib.decDigits a ++ 45 :: Lib.decDigits b := by simp [X.runT, h]
theorem size_of (A : List UInt8) : (⟨A.toArray⟩ : ByteArray).size = A.length := by simp [ByteArray.size]
theorem fin1 (done : List (Nat × Nat)) (v : Nat) : done = [] → ((⟨(X.itemsT done).toArray⟩ : ByteArray) ++ ⟨(Lib.decDigits v).toArray⟩) = ⟨(X.itemsT (done ++ [(v, v)])).toArray⟩ := by
  rintro rfl
  rw [X.itemsT_one, runT_one]
  apply ByteArray.ext
  simp [X.itemsT, Lib.join, List.intercalate]
theorem fin2 (done : List (Nat × Nat)) (v e : Nat) : done = [] → v ≠ e → ((⟨(X.itemsT done).toArray⟩ : ByteArray) ++ ⟨(Lib.decDigits v).toArray⟩ ++ ⟨#[45]⟩ ++ ⟨(Lib.decDigits e).toArray⟩) = ⟨(X.itemsT (done ++ [(v, e)])).toArray⟩ := by
  rintro rfl h
  rw [X.itemsT_one, runT_two h]
  apply ByteArray.ext
  simp [X.itemsT, Lib.join, List.intercalate]
theorem fin3 (done : List (Nat × Nat)) (v : Nat) : done ≠ [] → ((⟨(X.itemsT done).toArray⟩ : ByteArray) ++ ⟨#[44]⟩ ++ ⟨(Lib.decDigits v).toArray⟩) = ⟨(X.itemsT (done ++ [(v, v)])).toArray⟩ := by
  intro h
  rw [X.itemsT_more h, runT_one]
  apply ByteArray.ext
  simp
theorem fin4 (done : List (Nat × Nat)) (v e : Nat) : done ≠ [] → v ≠ e → ((⟨(X.itemsT done).toArray⟩ : ByteArray) ++ ⟨#[44]⟩ ++ ⟨(Lib.decDigits v).toArray⟩ ++ ⟨#[45]⟩ ++ ⟨(Lib.decDigits e).toArray⟩) = ⟨(X.itemsT (done ++ [(v, e)])).toArray⟩ := by
  intro h h2
  rw [X.itemsT_more h, runT_two h2]
  apply ByteArray.ext
  simp
set_option maxHeartbeats 8000000 in
set_option maxRecDepth 100000 in
theorem told_any (G : Nat → Nat) (S : X.Sets) (hG : X.Good S) (f : Nat) (hf : f < 5) (w : World) (hX : RxAt G S w) :
    Calls Tryd.prog 25 #[rsl G f, .int .i64 f] w fun e w' => e = .returned (.string ⟨(X.textF S f).toArray⟩) ∧ Below w.heap.size w w' := by
  have hlh := X.loF_le f
  have hlo1 : X.loF f ≤ 1 := by rcases five f hf with rfl | rfl | rfl | rfl | rfl <;> decide
  have hlow : ∀ v, v < X.loF f → X.fieldF S f v = false := by
    intro v hv
    cases c : X.fieldF S f v
    · rfl
    · have := X.good_in hG hf (by omega) c; omega
  have hW := X.allT_isAll hG hf
  have HWh := hide (refWhole_any G S f hf w hX)
  have hY : ∀ v, v < X.hiF f + 1 → w.cell? ⟨G f, v, none⟩ = some (.bool (X.fieldF S f v)) := fun v hv => hX f hf v hv
  unfold X.textF X.textW
  rw [hW] at HWh
  clear hX hW
  unfold rsl at *
  generalize X.fieldF S f = F at *
  generalize X.loF f = lo at *
  generalize X.hiF f = hi at *
  generalize hm : hi + 1 = m at *
  have HM := hide hm
  clear hm
  have HTS := hide (X.TdM.start hlo1 hlow (show hi < 60 by omega))
  have HLen := hide (fun (v : Nat) (done : List (Nat × Nat)) (h : X.TdM F hi (X.runs F hi 61 lo) v done) => X.itemsT_len (h.len (by omega)))
  cases hall : X.isAll F lo hi
  · rw [hall] at HWh
    rw [if_neg (by decide)]
    show Calls _ _ _ _ fun e w' => e = .returned (.string ⟨(X.itemsT (X.runs F hi 61 lo)).toArray⟩) ∧ _
    generalize X.runs F hi 61 lo = all at *
    go_enter Tryd.func25, Tryd.ntmps25
    go_wp2_with fail
    go_at_call 46
    refine HWh.out.mono ?_
    rintro e w1 ⟨rfl, hb1⟩
    have HB1 := hide hb1
    clear hb1 HWh
    go_wp2_with fail
    go_loopw [5, 6] (fun x y wx => ∃ (v : Nat) (done : List (Nat × Nat)) (A : ByteArray), y = .int .i64 v ∧ x = .string A ∧ Hid (A = ⟨(X.itemsT done).toArray⟩) ∧ v ≤ m ∧ Hid (X.TdM F hi all v done) ∧ Below w.heap.size w wx) (fun _ y _ => m - (intOf y).toNat)
    case atStart => exact ⟨0, [], _, rfl, rfl, rfl, by omega, HTS, HB1.out⟩
    case round =>
      obtain ⟨v, done, A, rfl, rfl, HA, hv, HT, hb⟩ := hrel
      have hln := HLen.out v done HT.out
      have hsz : A.size ≤ 180 := by rw [HA.out, size_of]; exact hln.1
      have hemp : A.toList.isEmpty = done.isEmpty := by rw [HA.out, empty_of]; exact hln.2
      clear hln
      have HEmp := hide hemp
      clear hemp
      by_cases hlt : v < m
      · have hM := HM.out
        have rd : ∀ u, u < m → wr.cell? ⟨G f, u, none⟩ = some (.bool (F u)) := fun u hu => by
          have := hY u hu
          rw [hb.cell (p := ⟨G f, u, none⟩) (World.block_lt_of_cell? _ _ this)]; exact this
        have cv := rd v hlt
        have i1 : (v : Int) < m := by omega
        have i2 : (0 : Int) ≤ v := by omega
        cases hF : F v
        · rw [hF] at cv
          have HT2 := hide (HT.out.skip (by omega) (.inl hF))
          have HB := hide hb
          clear hb hF rd HTS HLen hlow
          go_wp2_with fail
          exact ⟨⟨v + 1, done, A, by go_num, rfl, HA, by omega, HT2, HB.out⟩, by simp [intOf]; omega⟩
        · rw [hF] at cv
          have hcase : (∃ u, v = u + 1 ∧ F u = true) ∨ (v = 0 ∨ ∃ u, v = u + 1 ∧ F u = false) := by
            cases v with
            | zero => exact .inr (.inl rfl)
            | succ u =>
              cases c : F u
              · exact .inr (.inr ⟨u, rfl, c⟩)
              · exact .inl ⟨u, rfl, c⟩
          rcases hcase with ⟨u, hu, hFu⟩ | hcase
          · have cu := rd u (by omega)
            rw [hFu] at cu
            have HT2 := hide (HT.out.skip (by omega) (.inr ⟨by omega, by rw [hu]; exact hFu⟩))
            have HB := hide hb
            have i3 : (0 : Int) < v := by omega
            have i4 : (v : Int) - 1 = u := by omega
            have i5 : (u : Int) < m := by omega
            have i6 : (0 : Int) ≤ u := by omega
            clear hb hF rd HTS HLen hlow hu hFu
            go_wp2_with fail
            exact ⟨⟨v + 1, done, A, by go_num, rfl, HA, by omega, HT2, HB.out⟩, by simp [intOf]; omega⟩
          · have HT2 := hide (HT.out.take (by omega) (by omega) hF (by
              rcases hcase with h | ⟨u, h1, h2⟩
              · exact .inl h
              · right; rw [h1]; exact h2))
            have hre := X.runEnd_le F hi 60 v (by omega)
            have HRe := hide (show X.runEnd F hi 60 v = X.runEnd F hi 60 v from rfl)
            generalize hEn : X.runEnd F hi 60 v = en at HT2 hre
            have HEn := hide hEn
            have HRd := hide rd
            clear hEn hF rd HTS HLen hlow HRe
            have HB := hide hb
            clear hb
            rcases hcase with h0 | ⟨u, hu, hFu⟩
            · subst h0
              go_wp2_with fail
              go_loopw [7] (fun z wx => ∃ e k : Nat, z = .int .i64 e ∧ 0 ≤ e ∧ e ≤ hi ∧ Hid (X.runEnd F hi k e = en) ∧ hi ≤ e + k ∧ wx = wr) (fun z _ => m - (intOf z).toNat)
              case atStart => exact ⟨0, 60, rfl, by omega, by omega, HEn, by omega, rfl⟩
              case round =>
                obtain ⟨e, k, rfl, he0, he1, HE, hek, rfl⟩ := hrel
                by_cases hstep : e < hi ∧ F (e + 1) = true
                · obtain ⟨s1, s2⟩ := hstep
                  have ce := HRd.out (e + 1) (by have := HM.out; omega)
                  rw [s2] at ce
                  have k1 : (e : Int) + 1 < m := by have := HM.out; omega
                  have HE2 : Hid (X.runEnd F hi (k - 1) (e + 1) = en) := by
                    cases k with
                    | zero => omega
                    | succ k =>
                      have h := HE.out
                      rw [X.runEnd, if_pos ⟨s1, s2⟩] at h
                      exact h
                  clear s2
                  go_wp2_with fail
                  exact ⟨⟨e + 1, k - 1, by go_num, by omega, by omega, HE2, by omega, by simp⟩, by simp [intOf]; omega⟩
                · have hee : e = en := by rw [← HE.out]; exact (X.runEnd_stop hstep k).symm
                  subst hee
                  have hcase2 : hi = e ∨ (e < hi ∧ F (e + 1) = false) := by
                    by_cases c : e < hi
                    · right
                      refine ⟨c, ?_⟩
                      cases d : F (e + 1)
                      · rfl
                      · exact absurd ⟨c, d⟩ hstep
                    · left; omega
                  have D1 := dec_len 0 (by omega)
                  have D2 := dec_len e (by omega)
                  have HDg1 := hide (fun (w : World) => refDigits_any 0 (by omega) w)
                  have HDg2 := hide (fun (w : World) => refDigits_any e (by omega) w)
                  have z1 := size_of (Lib.decDigits 0)
                  have z2 := size_of (Lib.decDigits e)
                  have HF1 := hide (fin1 done 0)
                  have HF2 := hide (fin2 done 0 e)
                  have HF3 := hide (fin3 done 0)
                  have HF4 := hide (fin4 done 0 e)
                  rw [← HA.out] at HF1 HF2 HF3 HF4
                  generalize (⟨(Lib.decDigits 0).toArray⟩ : ByteArray) = A1 at *
                  generalize (⟨(Lib.decDigits e).toArray⟩ : ByteArray) = A2 at *
                  have s1 : A1.size ≤ 2 := by omega
                  have s2 : A2.size ≤ 2 := by omega
                  have hdn : (done = [] ∧ A.toList.isEmpty = true) ∨ (done ≠ [] ∧ A.toList.isEmpty = false) := by
                    rw [HEmp.out]
                    cases done with
                    | nil => exact .inl (by simp)
                    | cons a b => exact .inr (by simp)
                  have hev : e = 0 ∨ 0 < e := by omega
                  clear z1 z2 D1 D2 HE hstep HEn HEmp
                  rcases hcase2 with h9 | ⟨s3, s4⟩
                  · have k1 : ¬ (e : Int) + 1 < m := by have := HM.out; omega
                    clear h9
                    rcases hdn with ⟨dn, hem⟩ | ⟨dn, hem⟩
                    · rcases hev with hev | hev
                      · subst hev
                        go_wp2_with (go_at_call 47; refine (HDg1.out _).mono ?_; rintro e' w5 ⟨rfl, hb5⟩)
                        all_goals exact ⟨⟨0 + 1, done ++ [(0, 0)], _, by go_num, rfl, HF1.out dn, by omega, HT2, HB.out.trans (hb5.mono HB.out.size)⟩, by first | (simp [intOf]; omega) | simp [intOf]⟩
                      · have k2 : (0 : Int) < e := by omega
                        go_wp2_with (first
                          | (go_at_call 47; refine (HDg2.out w5).mono ?_; rintro e' w6 ⟨rfl, hb6⟩)
                          | (go_at_call 47; refine (HDg1.out _).mono ?_; rintro e' w5 ⟨rfl, hb5⟩))
                        have hB5 := HB.out.trans (hb5.mono HB.out.size)
                        exact ⟨⟨0 + 1, done ++ [(0, e)], _, by go_num, rfl, HF2.out dn (by omega), by omega, HT2, hB5.trans (hb6.mono hB5.size)⟩, by first | (simp [intOf]; omega) | simp [intOf]⟩
                    · rcases hev with hev | hev
                      · subst hev
                        go_wp2_with (go_at_call 47; refine (HDg1.out _).mono ?_; rintro e' w5 ⟨rfl, hb5⟩)
                        all_goals exact ⟨⟨0 + 1, done ++ [(0, 0)], _, by go_num, rfl, HF3.out dn, by omega, HT2, HB.out.trans (hb5.mono HB.out.size)⟩, by first | (simp [intOf]; omega) | simp [intOf]⟩
                      · have k2 : (0 : Int) < e := by omega
                        go_wp2_with (first
                          | (go_at_call 47; refine (HDg2.out w5).mono ?_; rintro e' w6 ⟨rfl, hb6⟩)
                          | (go_at_call 47; refine (HDg1.out _).mono ?_; rintro e' w5 ⟨rfl, hb5⟩))
                        have hB5 := HB.out.trans (hb5.mono HB.out.size)
                        exact ⟨⟨0 + 1, done ++ [(0, e)], _, by go_num, rfl, HF4.out dn (by omega), by omega, HT2, hB5.trans (hb6.mono hB5.size)⟩, by first | (simp [intOf]; omega) | simp [intOf]⟩
                  · have k1 : (e : Int) + 1 < m := by have := HM.out; omega
                    have ce := HRd.out (e + 1) (by have := HM.out; omega)
                    rw [s4] at ce
                    clear s4
                    rcases hdn with ⟨dn, hem⟩ | ⟨dn, hem⟩
                    · rcases hev with hev | hev
                      · subst hev
                        go_wp2_with (go_at_call 47; refine (HDg1.out _).mono ?_; rintro e' w5 ⟨rfl, hb5⟩)
                        all_goals exact ⟨⟨0 + 1, done ++ [(0, 0)], _, by go_num, rfl, HF1.out dn, by omega, HT2, HB.out.trans (hb5.mono HB.out.size)⟩, by first | (simp [intOf]; omega) | simp [intOf]⟩
                      · have k2 : (0 : Int) < e := by omega
                        go_wp2_with (first
                          | (go_at_call 47; refine (HDg2.out w5).mono ?_; rintro e' w6 ⟨rfl, hb6⟩)
                          | (go_at_call 47; refine (HDg1.out _).mono ?_; rintro e' w5 ⟨rfl, hb5⟩))
                        have hB5 := HB.out.trans (hb5.mono HB.out.size)
                        exact ⟨⟨0 + 1, done ++ [(0, e)], _, by go_num, rfl, HF2.out dn (by omega), by omega, HT2, hB5.trans (hb6.mono hB5.size)⟩, by first | (simp [intOf]; omega) | simp [intOf]⟩
                    · rcases hev with hev | hev
                      · subst hev
                        go_wp2_with (go_at_call 47; refine (HDg1.out _).mono ?_; rintro e' w5 ⟨rfl, hb5⟩)
                        all_goals exact ⟨⟨0 + 1, done ++ [(0, 0)], _, by go_num, rfl, HF3.out dn, by omega, HT2, HB.out.trans (hb5.mono HB.out.size)⟩, by first | (simp [intOf]; omega) | simp [intOf]⟩
                      · have k2 : (0 : Int) < e := by omega
                        go_wp2_with (first
                          | (go_at_call 47; refine (HDg2.out w5).mono ?_; rintro e' w6 ⟨rfl, hb6⟩)
                          | (go_at_call 47; refine (HDg1.out _).mono ?_; rintro e' w5 ⟨rfl, hb5⟩))
                        have hB5 := HB.out.trans (hb5.mono HB.out.size)
                        exact ⟨⟨0 + 1, done ++ [(0, e)], _, by go_num, rfl, HF4.out dn (by omega), by omega, HT2, hB5.trans (hb6.mono hB5.size)⟩, by first | (simp [intOf]; omega) | simp [intOf]⟩
            · have cu := HRd.out u (by omega)
              rw [hFu] at cu
              have i3 : (0 : Int) < v := by omega
              have i4 : (v : Int) - 1 = u := by omega
              have i5 : (u : Int) < m := by omega
              have i6 : (0 : Int) ≤ u := by omega
              clear hu hFu
              go_wp2_with fail
              go_loopw [7] (fun z wx => ∃ e k : Nat, z = .int .i64 e ∧ v ≤ e ∧ e ≤ hi ∧ Hid (X.runEnd F hi k e = en) ∧ hi ≤ e + k ∧ wx = wr) (fun z _ => m - (intOf z).toNat)
              case atStart => exact ⟨v, 60, rfl, by omega, by omega, HEn, by omega, rfl⟩
              case round =>
                obtain ⟨e, k, rfl, he0, he1, HE, hek, rfl⟩ := hrel
                by_cases hstep : e < hi ∧ F (e + 1) = true
                · obtain ⟨s1, s2⟩ := hstep
                  have ce := HRd.out (e + 1) (by have := HM.out; omega)
                  rw [s2] at ce
                  have k1 : (e : Int) + 1 < m := by have := HM.out; omega
                  have HE2 : Hid (X.runEnd F hi (k - 1) (e + 1) = en) := by
                    cases k with
                    | zero => omega
                    | succ k =>
                      have h := HE.out
                      rw [X.runEnd, if_pos ⟨s1, s2⟩] at h
                      exact h
                  clear s2
                  go_wp2_with fail
                  exact ⟨⟨e + 1, k - 1, by go_num, by omega, by omega, HE2, by omega, by simp⟩, by simp [intOf]; omega⟩
                · have hee : e = en := by rw [← HE.out]; exact (X.runEnd_stop hstep k).symm
                  subst hee
                  have hcase2 : hi = e ∨ (e < hi ∧ F (e + 1) = false) := by
                    by_cases c : e < hi
                    · right
                      refine ⟨c, ?_⟩
                      cases d : F (e + 1)
                      · rfl
                      · exact absurd ⟨c, d⟩ hstep
                    · left; omega
                  have D1 := dec_len v (by omega)
                  have D2 := dec_len e (by omega)
                  have HDg1 := hide (fun (w : World) => refDigits_any v (by omega) w)
                  have HDg2 := hide (fun (w : World) => refDigits_any e (by omega) w)
                  have z1 := size_of (Lib.decDigits v)
                  have z2 := size_of (Lib.decDigits e)
                  have HF1 := hide (fin1 done v)
                  have HF2 := hide (fin2 done v e)
                  have HF3 := hide (fin3 done v)
                  have HF4 := hide (fin4 done v e)
                  rw [← HA.out] at HF1 HF2 HF3 HF4
                  generalize (⟨(Lib.decDigits v).toArray⟩ : ByteArray) = A1 at *
                  generalize (⟨(Lib.decDigits e).toArray⟩ : ByteArray) = A2 at *
                  have s1 : A1.size ≤ 2 := by omega
                  have s2 : A2.size ≤ 2 := by omega
                  have hdn : (done = [] ∧ A.toList.isEmpty = true) ∨ (done ≠ [] ∧ A.toList.isEmpty = false) := by
                    rw [HEmp.out]
                    cases done with
                    | nil => exact .inl (by simp)
                    | cons a b => exact .inr (by simp)
                  have hev : e = v ∨ v < e := by omega
                  clear z1 z2 D1 D2 HE hstep HEn HEmp
                  rcases hcase2 with h9 | ⟨s3, s4⟩
                  · have k1 : ¬ (e : Int) + 1 < m := by have := HM.out; omega
                    clear h9
                    rcases hdn with ⟨dn, hem⟩ | ⟨dn, hem⟩
                    · rcases hev with hev | hev
                      · subst hev
                        go_wp2_with (go_at_call 47; refine (HDg1.out _).mono ?_; rintro e' w5 ⟨rfl, hb5⟩)
                        all_goals exact ⟨⟨e + 1, done ++ [(e, e)], _, by go_num, rfl, HF1.out dn, by omega, HT2, HB.out.trans (hb5.mono HB.out.size)⟩, by first | (simp [intOf]; omega) | simp [intOf]⟩
                      · have k2 : (v : Int) < e := by omega
                        go_wp2_with (first
                          | (go_at_call 47; refine (HDg2.out w5).mono ?_; rintro e' w6 ⟨rfl, hb6⟩)
                          | (go_at_call 47; refine (HDg1.out _).mono ?_; rintro e' w5 ⟨rfl, hb5⟩))
                        have hB5 := HB.out.trans (hb5.mono HB.out.size)
                        exact ⟨⟨v + 1, done ++ [(v, e)], _, by go_num, rfl, HF2.out dn (by omega), by omega, HT2, hB5.trans (hb6.mono hB5.size)⟩, by first | (simp [intOf]; omega) | simp [intOf]⟩
                    · rcases hev with hev | hev
                      · subst hev
                        go_wp2_with (go_at_call 47; refine (HDg1.out _).mono ?_; rintro e' w5 ⟨rfl, hb5⟩)
                        all_goals exact ⟨⟨e + 1, done ++ [(e, e)], _, by go_num, rfl, HF3.out dn, by omega, HT2, HB.out.trans (hb5.mono HB.out.size)⟩, by first | (simp [intOf]; omega) | simp [intOf]⟩
                      · have k2 : (v : Int) < e := by omega
                        go_wp2_with (first
                          | (go_at_call 47; refine (HDg2.out w5).mono ?_; rintro e' w6 ⟨rfl, hb6⟩)
                          | (go_at_call 47; refine (HDg1.out _).mono ?_; rintro e' w5 ⟨rfl, hb5⟩))
                        have hB5 := HB.out.trans (hb5.mono HB.out.size)
                        exact ⟨⟨v + 1, done ++ [(v, e)], _, by go_num, rfl, HF4.out dn (by omega), by omega, HT2, hB5.trans (hb6.mono hB5.size)⟩, by first | (simp [intOf]; omega) | simp [intOf]⟩
                  · have k1 : (e : Int) + 1 < m := by have := HM.out; omega
                    have ce := HRd.out (e + 1) (by have := HM.out; omega)
                    rw [s4] at ce
                    clear s4
                    rcases hdn with ⟨dn, hem⟩ | ⟨dn, hem⟩
                    · rcases hev with hev | hev
                      · subst hev
                        go_wp2_with (go_at_call 47; refine (HDg1.out _).mono ?_; rintro e' w5 ⟨rfl, hb5⟩)
                        all_goals exact ⟨⟨e + 1, done ++ [(e, e)], _, by go_num, rfl, HF1.out dn, by omega, HT2, HB.out.trans (hb5.mono HB.out.size)⟩, by first | (simp [intOf]; omega) | simp [intOf]⟩
                      · have k2 : (v : Int) < e := by omega
                        go_wp2_with (first
                          | (go_at_call 47; refine (HDg2.out w5).mono ?_; rintro e' w6 ⟨rfl, hb6⟩)
                          | (go_at_call 47; refine (HDg1.out _).mono ?_; rintro e' w5 ⟨rfl, hb5⟩))
                        have hB5 := HB.out.trans (hb5.mono HB.out.size)
                        exact ⟨⟨v + 1, done ++ [(v, e)], _, by go_num, rfl, HF2.out dn (by omega), by omega, HT2, hB5.trans (hb6.mono hB5.size)⟩, by first | (simp [intOf]; omega) | simp [intOf]⟩
                    · rcases hev with hev | hev
                      · subst hev
                        go_wp2_with (go_at_call 47; refine (HDg1.out _).mono ?_; rintro e' w5 ⟨rfl, hb5⟩)
                        all_goals exact ⟨⟨e + 1, done ++ [(e, e)], _, by go_num, rfl, HF3.out dn, by omega, HT2, HB.out.trans (hb5.mono HB.out.size)⟩, by first | (simp [intOf]; omega) | simp [intOf]⟩
                      · have k2 : (v : Int) < e := by omega
                        go_wp2_with (first
                          | (go_at_call 47; refine (HDg2.out w5).mono ?_; rintro e' w6 ⟨rfl, hb6⟩)
                          | (go_at_call 47; refine (HDg1.out _).mono ?_; rintro e' w5 ⟨rfl, hb5⟩))
                        have hB5 := HB.out.trans (hb5.mono HB.out.size)
                        exact ⟨⟨v + 1, done ++ [(v, e)], _, by go_num, rfl, HF4.out dn (by omega), by omega, HT2, hB5.trans (hb6.mono hB5.size)⟩, by first | (simp [intOf]; omega) | simp [intOf]⟩
      · have HB := hide hb
        have i1 : ¬ (v : Int) < m := by omega
        have hover := HT.out.over (by have := HM.out; omega)
        have HAA : Hid (A = ⟨(X.itemsT all).toArray⟩) := by rw [hover]; exact HA
        clear hb hover
        go_wp2_with fail
        go_ret
        exact ⟨by rw [HAA.out]; rfl, HB.out⟩
  · rw [hall] at HWh
    rw [if_pos rfl]
    go_enter Tryd.func25, Tryd.ntmps25
    go_wp2_with fail
    go_at_call 46
    refine HWh.out.mono ?_
    rintro e w1 ⟨rfl, hb1⟩
    go_wp2_with fail
    go_ret
    exact ⟨rfl, hb1⟩
end Go.Proofs.YtbgioclbjbmicaaDoor
