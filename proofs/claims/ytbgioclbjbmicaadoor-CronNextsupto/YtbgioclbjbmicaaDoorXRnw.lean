/- CronNexts: the walk. -/
import Derived.Test.YtbgioclbjbmicaaDoorXAwa
import Derived.Test.YtbgioclbjbmicaaDoorXRrd
import Derived.Test.YtbgioclbjbmicaaDoorXRn1
import Derived.Test.YtbgioclbjbmicaaDoorXRn2
namespace Go.Proofs.YtbgioclbjbmicaaDoor
open Go.RowKit

set_option maxHeartbeats 4000000 in
set_option maxRecDepth 100000 in
theorem nexts_walk (s : ByteArray) (t : Int) (w : World) (hs : s.size ≤ 1048576) (hE : Env w) (_ht0 : -9223372036854775808 ≤ t) (_ht1 : t ≤ 9223372036854775807) :
    Calls Tryd.prog 5 #[.string s, .int .i64 t] w fun e w' => e = .returned (.bool true) ∧ Below w.heap.size w w' := by
  go_enter Tryd.func5, Tryd.ntmps5
  go_wp2_with fail
  go_at_call 7
  refine (awake_any w hE).mono ?_
  rintro e w1 ⟨rfl, hb1⟩
  have hE1 := hE.keep hb1
  go_wp2_with fail
  go_at_call 8
  refine (read_any s hs w1 hE1).mono ?_
  rintro e w2 ⟨hr, hb2⟩
  have hE2 := hE1.keep hb2
  have hB2 := hb1.trans (hb2.mono hb1.size)
  clear hb1 hb2 hE1 hE
  cases hp : X.parse s.data.toList with
  | inl n =>
    rw [hp] at hr
    have hr' : e = .returned (.tuple #[.pointer none, none5, .bool false]) := hr
    subst hr'
    have HP := hide hp
    clear hr hp
    unfold none5
    go_wp2_with fail
    have hb3 : Below w2.heap.size w2 (w2.alloc (.cells #[.slice none 0 0, .slice none 0 0, .slice none 0 0, .slice none 0 0, .slice none 0 0] 26)) := Below.put (Below.refl _ _) _
    generalize w2.alloc (.cells #[.slice none 0 0, .slice none 0 0, .slice none 0 0, .slice none 0 0, .slice none 0 0] 26) = W3 at *
    have hE3 := hE2.keep hb3
    have hB3 := hB2.trans (hb3.mono hB2.size)
    clear hB2 hE2 hb3
    go_at_call 9
    refine (refused_any s hs n HP.out _ hE3).mono ?_
    rintro e w6 ⟨rfl, hb6⟩
    go_wp2_with fail
    go_ret
    exact ⟨rfl, hB3.trans (hb6.mono hB3.size)⟩
  | inr S =>
    rw [hp] at hr
    obtain ⟨g, G, rfl, hX, hG⟩ := hr
    have hGS := X.parse_good hp
    clear hp
    unfold rex
    go_wp2_with fail
    have hBG := Bx.new w2 G
    generalize hWW : w2.alloc (.cells #[.slice (some ⟨G 0, 0, none⟩) 60 60, .slice (some ⟨G 1, 0, none⟩) 24 24, .slice (some ⟨G 2, 0, none⟩) 32 32, .slice (some ⟨G 3, 0, none⟩) 13 13, .slice (some ⟨G 4, 0, none⟩) 7 7] 26) = W3 at *
    have hb3 : Below w2.heap.size w2 W3 := by rw [← hWW]; exact Below.put (Below.refl _ _) _
    have hE3 := hE2.keep hb3
    have hX3 := hX.keep hb3
    have hG3 := hG.keep hb3
    have hB3 := hB2.trans (hb3.mono hB2.size)
    clear hB2 hE2 hb3 hWW hX hG
    generalize w2.heap.size = p at *
    go_at_call 14
    refine (next_any g S t _ hE3 hX3).mono ?_
    rintro e w4 ⟨n1, b1, rfl, hn1, hb4⟩
    have HN1 := hide hn1
    clear hn1
    go_wp2_with fail
    go_at_call 15
    refine (last_any g S t _ (hE3.keep hb4) (hX3.keep hb4)).mono ?_
    rintro e w5 ⟨l1, d1, rfl, hl1, hb5⟩
    have HL1 := hide hl1
    have hb35 := hb4.trans (hb5.mono hb4.size)
    have hG5 := hBG.keep hb35
    have a0 := hG5.c0; have a1 := hG5.c1; have a2 := hG5.c2; have a3 := hG5.c3; have a4 := hG5.c4
    have HG5 := hide hG5
    have HX5 := hide (hG3.keep hb35)
    have HB5 := hide (hB3.trans (hb35.mono hB3.size))
    clear hl1 hb4 hb5 hb35 hG5 hE3 hX3 hG3 hB3 hBG
    go_wp2_with fail
    clear a0 a1 a2 a3 a4
    go_at_call 16
    refine (refNext_any G S hGS t _ HX5.out).mono ?_
    rintro e w6 ⟨⟨n2, b2, rfl, hn2⟩, hb6⟩
    obtain ⟨rfl, rfl⟩ := HN1.out.uniq hn2
    have hG6 := HG5.out.keep hb6
    have a0 := hG6.c0; have a1 := hG6.c1; have a2 := hG6.c2; have a3 := hG6.c3; have a4 := hG6.c4
    have HX6 := hide (HX5.out.keep hb6)
    have HB6 := hide (HB5.out.trans (hb6.mono HB5.out.size))
    clear hb6 hG6 hn2 HN1 HG5 HX5 HB5
    go_wp2_with fail
    clear a0 a1 a2 a3 a4
    go_at_call 17
    refine (refLast_any G S hGS t _ HX6.out).mono ?_
    rintro e w7 ⟨⟨l2, d2, rfl, hl2⟩, hb7⟩
    obtain ⟨rfl, rfl⟩ := HL1.out.uniq hl2
    have HB7 := hide (HB6.out.trans (hb7.mono HB6.out.size))
    clear hb7 hl2 HL1 HX6 HB6
    have q1 : (n1 == n1) = true := by simp
    have q2 : (b1 == b1) = true := by simp
    have q3 : (l1 == l1) = true := by simp
    have q4 : (d1 == d1) = true := by simp
    go_wp2_with fail
    go_ret
    exact ⟨by simp, HB7.out⟩
end Go.Proofs.YtbgioclbjbmicaaDoor
