/- CronSame: the walk, where both are read. -/
import Derived.Test.YtbgioclbjbmicaaDoorXRsm
namespace Go.Proofs.YtbgioclbjbmicaaDoor
open Go.RowKit

set_option maxHeartbeats 4000000 in
set_option maxRecDepth 100000 in
theorem same_yes (s o : ByteArray) (w : World) (hs : s.size ≤ 1048576) (ho : o.size ≤ 1048576) (hE : Env w) (S T : X.Sets) (hp : X.parse s.data.toList = .inr S) (hq : X.parse o.data.toList = .inr T) :
    Calls Tryd.prog 6 #[.string s, .string o] w fun e w' => e = .returned (.bool true) ∧ Below w.heap.size w w' := by
  have hGS := X.parse_good hp
  have hGT := X.parse_good hq
  have HP := hide hp
  have HQ := hide hq
  have HS := hide (sameB_eq hGS hGT)
  have HS2 := hide ((sameB_eq hGT hGS).trans (sameR_symm hGS hGT))
  have HTx := hide (text_eq hGS hGT)
  clear hp hq
  generalize sameR S T = R at *
  go_enter Tryd.func6, Tryd.ntmps6
  go_wp2_with fail
  go_at_call 7
  refine (awake_any w hE).mono ?_
  rintro e w1 ⟨rfl, hb1⟩
  have hE1 := hE.keep hb1
  go_wp2_with fail
  go_at_call 8
  refine (read_any s hs w1 hE1).mono ?_
  rintro e w2 ⟨hr, hb2⟩
  rw [HP.out] at hr
  obtain ⟨g, G, rfl, hX, hG⟩ := hr
  have hE2 := hE1.keep hb2
  have hB2 := hb1.trans (hb2.mono hb1.size)
  clear hb1 hb2 hE1 hE
  unfold rex
  go_wp2_with fail
  have hBG := Bx.new w2 G
  generalize hWW : w2.alloc (.cells #[.slice (some ⟨G 0, 0, none⟩) 60 60, .slice (some ⟨G 1, 0, none⟩) 24 24, .slice (some ⟨G 2, 0, none⟩) 32 32, .slice (some ⟨G 3, 0, none⟩) 13 13, .slice (some ⟨G 4, 0, none⟩) 7 7] 26) = W3 at *
  have hb3 : Below w2.heap.size w2 W3 := by rw [← hWW]; exact Below.put (Below.refl _ _) _
  have hE3 := hE2.keep hb3
  have hX3 := hX.keep hb3
  have hG3 := hG.keep hb3
  have hB3 := hB2.trans (hb3.mono hB2.size)
  clear hB2 hE2 hb3 hWW hX hG
  generalize w2.heap.size = p at *
  go_at_call 8
  refine (read_any o ho W3 hE3).mono ?_
  rintro e w4 ⟨hr, hb4⟩
  rw [HQ.out] at hr
  obtain ⟨k, K, rfl, hY4, hK4⟩ := hr
  have hE4 := hE3.keep hb4
  have hX4 := hX3.keep hb4
  have hG4 := hG3.keep hb4
  have hBG4 := hBG.keep hb4
  have hB4 := hB3.trans (hb4.mono hB3.size)
  clear hb4 hE3 hB3 hX3 hG3 hBG
  unfold rex
  go_wp2_with fail
  have hBK := Bx.new w4 K
  generalize hWW : w4.alloc (.cells #[.slice (some ⟨K 0, 0, none⟩) 60 60, .slice (some ⟨K 1, 0, none⟩) 24 24, .slice (some ⟨K 2, 0, none⟩) 32 32, .slice (some ⟨K 3, 0, none⟩) 13 13, .slice (some ⟨K 4, 0, none⟩) 7 7] 26) = W5 at *
  have hb5 : Below w4.heap.size w4 W5 := by rw [← hWW]; exact Below.put (Below.refl _ _) _
  have hE5 := hE4.keep hb5
  have hX5 := hX4.keep hb5
  have hY5 := hY4.keep hb5
  have hG5 := hG4.keep hb5
  have hK5 := hK4.keep hb5
  have hBG5 := hBG4.keep hb5
  have hB5 := hB4.trans (hb5.mono hB4.size)
  clear hB4 hE4 hb5 hWW hX4 hY4 hG4 hK4 hBG4
  generalize w4.heap.size = q at *
  go_at_call 18
  refine (same_any g k S T _ hX5 hY5).mono ?_
  rintro e w6 ⟨rfl, hb6⟩
  rw [HS.out]
  go_wp2_with fail
  go_at_call 18
  refine (same_any k g T S _ (hY5.keep hb6) (hX5.keep hb6)).mono ?_
  rintro e w7 ⟨rfl, hb7⟩
  rw [HS2.out]
  have hb57 := hb6.trans (hb7.mono hb6.size)
  go_wp2_with fail
  go_at_call 18
  refine (same_any g g S S _ (hX5.keep hb57) (hX5.keep hb57)).mono ?_
  rintro e w8 ⟨rfl, hb8⟩
  rw [sameB_self]
  have hb58 := hb57.trans (hb8.mono hb57.size)
  clear hb6 hb7 hb57 hb8
  go_wp2_with fail
  go_at_call 18
  refine (same_nil g _).mono ?_
  rintro e w9 ⟨rfl, hb9⟩
  have hb59 := hb58.trans (hb9.mono hb58.size)
  clear hb58 hb9
  have hG9 := hBG5.keep hb59
  have hK9 := hBK.keep hb59
  have a0 := hG9.c0; have a1 := hG9.c1; have a2 := hG9.c2; have a3 := hG9.c3; have a4 := hG9.c4
  have d0 := hK9.c0; have d1 := hK9.c1; have d2 := hK9.c2; have d3 := hK9.c3; have d4 := hK9.c4
  have HX := hide (hX5.keep hb59)
  have HY := hide (hY5.keep hb59)
  have HG := hide (hG5.keep hb59)
  have HK := hide (hK5.keep hb59)
  have HE := hide (hE5.keep hb59)
  have HB := hide (hB5.trans (hb59.mono hB5.size))
  clear hb59 hG9 hK9 hX5 hY5 hG5 hK5 hE5 hB5 hBG5 hBK
  go_wp2_with fail
  clear a0 a1 a2 a3 a4 d0 d1 d2 d3 d4
  go_at_call 19
  refine (refSame_any G K S T _ HG.out HK.out).mono ?_
  rintro e w10 ⟨rfl, hb10⟩
  have hR : sameR S T = R := by rw [← sameB_eq hGS hGT]; exact HS.out
  rw [hR]
  have HX10 := hide (HX.out.keep hb10)
  have HY10 := hide (HY.out.keep hb10)
  have HE10 := hide (HE.out.keep hb10)
  have HB10 := hide (HB.out.trans (hb10.mono HB.out.size))
  clear hb10 HX HY HG HK HE HB hR
  go_wp2_with fail
  go_at_call 10
  refine (exprText_any g S hGS _ HE10.out HX10.out).mono ?_
  rintro e w11 ⟨rfl, hb11⟩
  have HY11 := hide (HY10.out.keep hb11)
  have HE11 := hide (HE10.out.keep hb11)
  have HB11 := hide (HB10.out.trans (hb11.mono HB10.out.size))
  clear hb11 HX10 HY10 HE10 HB10
  generalize (⟨(X.text S).toArray⟩ : ByteArray) = A at *
  go_wp2_with fail
  go_at_call 10
  refine (exprText_any k T hGT _ HE11.out HY11.out).mono ?_
  rintro e w12 ⟨rfl, hb12⟩
  have HB12 := hide (HB11.out.trans (hb12.mono HB11.out.size))
  clear hb12 HY11 HE11 HB11
  generalize (⟨(X.text T).toArray⟩ : ByteArray) = C at *
  have hAC := HTx.out
  clear HS HS2 HTx hGS hGT
  cases R
  all_goals
    go_wp2_with fail
    go_ret
    exact ⟨rfl, HB12.out⟩
theorem same_walk (s o : ByteArray) (w : World) (hs : s.size ≤ 1048576) (ho : o.size ≤ 1048576) (hE : Env w) :
    Calls Tryd.prog 6 #[.string s, .string o] w fun e w' => e = .returned (.bool true) ∧ Below w.heap.size w w' := by
  cases hp : X.parse s.data.toList with
  | inl n => exact same_no s o w hs ho hE (.inl ⟨n, hp⟩)
  | inr S =>
    cases hq : X.parse o.data.toList with
    | inl n => exact same_no s o w hs ho hE (.inr ⟨n, hq⟩)
    | inr T => exact same_yes s o w hs ho hE S T hp hq
end Go.Proofs.YtbgioclbjbmicaaDoor
