/- CronMatches: the walk. -/
import Derived.Test.YtbgioclbjbmicaaDoorXAwa
import Derived.Test.YtbgioclbjbmicaaDoorXRrd
import Derived.Test.YtbgioclbjbmicaaDoorXRmo
namespace Go.Proofs.YtbgioclbjbmicaaDoor
open Go.RowKit

set_option maxHeartbeats 4000000 in
set_option maxRecDepth 100000 in
theorem matches_no (s o : ByteArray) (a : Option Addr) (n c : Nat) (w : World) (hs : s.size ≤ 1048576) (hE : Env w) (m : Nat) (hp : X.parse s.data.toList = .inl m) :
    Calls Tryd.prog 4 #[.string s, .string o, .slice a n c] w fun e w' => e = .returned (.bool true) ∧ Below w.heap.size w w' := by
  have HP := hide hp
  clear hp
  go_enter Tryd.func4, Tryd.ntmps4
  go_wp2_with fail
  go_at_call 7
  refine (awake_any w hE).mono ?_
  rintro e w1 ⟨rfl, hb1⟩
  have hE1 := hE.keep hb1
  go_wp2_with fail
  go_at_call 8
  refine (read_any s hs w1 hE1).mono ?_
  rintro e w2 ⟨hr, hb2⟩
  have hE2 := hE1.keep hb2
  have hB2 := hb1.trans (hb2.mono hb1.size)
  clear hb1 hb2 hE1 hE
  rw [HP.out] at hr
  have hr' : e = .returned (.tuple #[.pointer none, none5, .bool false]) := hr
  subst hr'
  clear hr
  unfold none5
  go_wp2_with fail
  have hb3 : Below w2.heap.size w2 (w2.alloc (.cells #[.slice none 0 0, .slice none 0 0, .slice none 0 0, .slice none 0 0, .slice none 0 0] 26)) := Below.put (Below.refl _ _) _
  generalize w2.alloc (.cells #[.slice none 0 0, .slice none 0 0, .slice none 0 0, .slice none 0 0, .slice none 0 0] 26) = W3 at *
  have hE3 := hE2.keep hb3
  have hB3 := hB2.trans (hb3.mono hB2.size)
  clear hB2 hE2 hb3
  go_at_call 9
  refine (refused_any s hs m HP.out _ hE3).mono ?_
  rintro e w6 ⟨rfl, hb6⟩
  go_wp2_with fail
  go_ret
  exact ⟨rfl, hB3.trans (hb6.mono hB3.size)⟩
set_option maxHeartbeats 8000000 in
set_option maxRecDepth 100000 in
theorem matches_one (s o : ByteArray) (a : Option Addr) (n c : Nat) (z : List Int) (w : World) (hs : s.size ≤ 1048576) (ho : o.size ≤ 1048576) (hE : Env w) (hz : RdI w a n z) (S : X.Sets) (hp : X.parse s.data.toList = .inr S) (m : Nat) (hq : X.parse o.data.toList = .inl m) :
    Calls Tryd.prog 4 #[.string s, .string o, .slice a n c] w fun e w' => e = .returned (.bool true) ∧ Below w.heap.size w w' := by
  have hGS := X.parse_good hp
  have HP := hide hp
  have HQ := hide hq
  clear hp hq
  go_enter Tryd.func4, Tryd.ntmps4
  go_wp2_with fail
  go_at_call 7
  refine (awake_any w hE).mono ?_
  rintro e w1 ⟨rfl, hb1⟩
  have hE1 := hE.keep hb1
  have hz1 := hz.keep hb1
  go_wp2_with fail
  go_at_call 8
  refine (read_any s hs w1 hE1).mono ?_
  rintro e w2 ⟨hr, hb2⟩
  rw [HP.out] at hr
  obtain ⟨g, G, rfl, hX, hG⟩ := hr
  have hE2 := hE1.keep hb2
  have hz2 := hz1.keep hb2
  have hB2 := hb1.trans (hb2.mono hb1.size)
  clear hb1 hb2 hE1 hE hz hz1
  unfold rex
  go_wp2_with fail
  have hBG := Bx.new w2 G
  generalize hWW : w2.alloc (.cells #[.slice (some ⟨G 0, 0, none⟩) 60 60, .slice (some ⟨G 1, 0, none⟩) 24 24, .slice (some ⟨G 2, 0, none⟩) 32 32, .slice (some ⟨G 3, 0, none⟩) 13 13, .slice (some ⟨G 4, 0, none⟩) 7 7] 26) = W3 at *
  have hb3 : Below w2.heap.size w2 W3 := by rw [← hWW]; exact Below.put (Below.refl _ _) _
  have hE3 := hE2.keep hb3
  have hX3 := hX.keep hb3
  have hG3 := hG.keep hb3
  have hz3 := hz2.keep hb3
  have hB3 := hB2.trans (hb3.mono hB2.size)
  clear hB2 hE2 hb3 hWW hX hG hz2
  generalize w2.heap.size = p at *
  go_at_call 8
  refine (read_any o ho W3 hE3).mono ?_
  rintro e w4 ⟨hr, hb4⟩
  rw [HQ.out] at hr
  have hr' : e = .returned (.tuple #[.pointer none, none5, .bool false]) := hr
  subst hr'
  clear hr
  have hE4 := hE3.keep hb4
  have hX4 := hX3.keep hb4
  have hG4 := hG3.keep hb4
  have hBG4 := hBG.keep hb4
  have hz4 := hz3.keep hb4
  have hB4 := hB3.trans (hb4.mono hB3.size)
  clear hb4 hE3 hB3 hX3 hG3 hBG hz3
  unfold none5
  go_wp2_with fail
  generalize hWW : w4.alloc (.cells #[.slice none 0 0, .slice none 0 0, .slice none 0 0, .slice none 0 0, .slice none 0 0] 26) = W5 at *
  have hb5 : Below w4.heap.size w4 W5 := by rw [← hWW]; exact Below.put (Below.refl _ _) _
  have HE5 := hide (hE4.keep hb5)
  have HX5 := hide (hX4.keep hb5)
  have HG5 := hide (hG4.keep hb5)
  have HBG5 := hide (hBG4.keep hb5)
  have hz5 := hz4.keep hb5
  have HB5 := hide (hB4.trans (hb5.mono hB4.size))
  clear hB4 hE4 hb5 hWW hX4 hG4 hBG4 hz4
  generalize w4.heap.size = q at *
  have hn := hz5.1
  have HZ5 := hide hz5
  clear hz5
  go_loopw [14] (fun y wx => ∃ i : Nat, y = .int .i64 i ∧ i ≤ n ∧ Below W5.heap.size W5 wx) (fun y _ => n - (intOf y).toNat)
  case atStart => exact ⟨0, rfl, by omega, Below.refl _ _⟩
  case round =>
    obtain ⟨i, rfl, hi, hb⟩ := hrel
    by_cases hlt : i < n
    · have i0 : (i : Int) < n := by omega
      have i1 : (0 : Int) ≤ i := by omega
      obtain ⟨bk, off, rfl, hcz⟩ : ∃ bk off, a = some ⟨bk, off, none⟩ ∧ ∀ i, i < n → W5.cell? ⟨bk, off + i, none⟩ = some (.int .i64 (z.getD i 0)) := by
        rcases HZ5.out.2 with h | h
        · omega
        · exact h
      have hczi := hcz i hlt
      clear hcz
      generalize z.getD i 0 = t at *
      have cz : wr.cell? ⟨bk, off + i, none⟩ = some (.int .i64 t) := by rw [hb.cell (p := ⟨bk, off + i, none⟩) (World.block_lt_of_cell? _ _ hczi)]; exact hczi
      have cz0 := cz
      have HM := hide (fun (w : World) (hE : Env w) (hX : ExprAt w g S) => matches_any g S t w hE hX)
      have HR := hide (fun (w : World) (hX : RxAt G S w) => refMatches_any G S hGS t w hX)
      generalize X.matB S t = ms at *
      go_wp2_with fail
      go_at_call 12
      refine (HM.out wr (HE5.out.keep hb) (HX5.out.keep hb)).mono ?_
      rintro e w6 ⟨rfl, hb6⟩
      have hB6 := hb.trans (hb6.mono hb.size)
      have cz : w6.cell? ⟨bk, off + i, none⟩ = some (.int .i64 t) := by rw [hB6.cell (p := ⟨bk, off + i, none⟩) (World.block_lt_of_cell? _ _ hczi)]; exact hczi
      have hBx := HBG5.out.keep hB6
      have HRu := hide (fun u : Behind w6 => HR.out u.1 ((HG5.out.keep hB6).keep u.2))
      clear hb hb6
      go_wp2_with fail
      clear cz0
      have v0 := fun u : Behind w6 => u.cell (hBx.c0)
      have v1 := fun u : Behind w6 => u.cell (hBx.c1)
      have v2 := fun u : Behind w6 => u.cell (hBx.c2)
      have v3 := fun u : Behind w6 => u.cell (hBx.c3)
      have v4 := fun u : Behind w6 => u.cell (hBx.c4)
      have v5 := fun u : Behind w6 => u.cell cz
      haveI := behindNE w6
      refine quiet_behind (by kernel_rfl) (by kernel_rfl) ?_
      repeat (go_big_quiet_step ((go_at_call 13; exact calls_behind _ (HRu.out _))))
      refine wpQuiet_nil ?_
      intro _ hw'
      obtain ⟨u, hw''⟩ := hw'
      subst hw''
      clear v0 v1 v2 v3 v4 v5
      have hB7 := hB6.trans (u.2.mono hB6.size)
      generalize u.1 = w7 at *
      clear hB6 hBx HRu cz
      have cz : w7.cell? ⟨bk, off + i, none⟩ = some (.int .i64 t) := by rw [hB7.cell (p := ⟨bk, off + i, none⟩) (World.block_lt_of_cell? _ _ hczi)]; exact hczi
      have q1 : (ms != ms) = false := by simp
      have q2 : (!(ms == ms)) = false := by simp
      go_wp2_with fail
      go_at_call 12
      refine (HM.out w7 (HE5.out.keep hB7) (HX5.out.keep hB7)).mono ?_
      rintro e w10 ⟨rfl, hb10⟩
      have HB10 := hide (hB7.trans (hb10.mono hB7.size))
      clear hb10 hB7 cz
      go_wp2_with fail
      exact ⟨⟨i + 1, by go_num, by omega, HB10.out⟩, by simp [intOf]; omega⟩
    · have i0 : ¬ (i : Int) < n := by omega
      have HBe := hide (HB5.out.trans (hb.mono HB5.out.size))
      clear hb
      go_wp2_with fail
      go_ret
      exact ⟨rfl, HBe.out⟩
set_option maxHeartbeats 8000000 in
set_option maxRecDepth 100000 in
theorem matches_two (s o : ByteArray) (a : Option Addr) (n c : Nat) (z : List Int) (w : World) (hs : s.size ≤ 1048576) (ho : o.size ≤ 1048576) (hE : Env w) (hz : RdI w a n z) (S : X.Sets) (hp : X.parse s.data.toList = .inr S) (T : X.Sets) (hq : X.parse o.data.toList = .inr T) :
    Calls Tryd.prog 4 #[.string s, .string o, .slice a n c] w fun e w' => e = .returned (.bool true) ∧ Below w.heap.size w w' := by
  have hGS := X.parse_good hp
  have hGT := X.parse_good hq
  have HP := hide hp
  have HQ := hide hq
  clear hp hq
  go_enter Tryd.func4, Tryd.ntmps4
  go_wp2_with fail
  go_at_call 7
  refine (awake_any w hE).mono ?_
  rintro e w1 ⟨rfl, hb1⟩
  have hE1 := hE.keep hb1
  have hz1 := hz.keep hb1
  go_wp2_with fail
  go_at_call 8
  refine (read_any s hs w1 hE1).mono ?_
  rintro e w2 ⟨hr, hb2⟩
  rw [HP.out] at hr
  obtain ⟨g, G, rfl, hX, hG⟩ := hr
  have hE2 := hE1.keep hb2
  have hz2 := hz1.keep hb2
  have hB2 := hb1.trans (hb2.mono hb1.size)
  clear hb1 hb2 hE1 hE hz hz1
  unfold rex
  go_wp2_with fail
  have hBG := Bx.new w2 G
  generalize hWW : w2.alloc (.cells #[.slice (some ⟨G 0, 0, none⟩) 60 60, .slice (some ⟨G 1, 0, none⟩) 24 24, .slice (some ⟨G 2, 0, none⟩) 32 32, .slice (some ⟨G 3, 0, none⟩) 13 13, .slice (some ⟨G 4, 0, none⟩) 7 7] 26) = W3 at *
  have hb3 : Below w2.heap.size w2 W3 := by rw [← hWW]; exact Below.put (Below.refl _ _) _
  have hE3 := hE2.keep hb3
  have hX3 := hX.keep hb3
  have hG3 := hG.keep hb3
  have hz3 := hz2.keep hb3
  have hB3 := hB2.trans (hb3.mono hB2.size)
  clear hB2 hE2 hb3 hWW hX hG hz2
  generalize w2.heap.size = p at *
  go_at_call 8
  refine (read_any o ho W3 hE3).mono ?_
  rintro e w4 ⟨hr, hb4⟩
  rw [HQ.out] at hr
  obtain ⟨k, K, rfl, hY4, hK4⟩ := hr
  have hE4 := hE3.keep hb4
  have hX4 := hX3.keep hb4
  have hG4 := hG3.keep hb4
  have hBG4 := hBG.keep hb4
  have hz4 := hz3.keep hb4
  have hB4 := hB3.trans (hb4.mono hB3.size)
  clear hb4 hE3 hB3 hX3 hG3 hBG hz3
  unfold rex
  go_wp2_with fail
  have hBK := Bx.new w4 K
  generalize hWW : w4.alloc (.cells #[.slice (some ⟨K 0, 0, none⟩) 60 60, .slice (some ⟨K 1, 0, none⟩) 24 24, .slice (some ⟨K 2, 0, none⟩) 32 32, .slice (some ⟨K 3, 0, none⟩) 13 13, .slice (some ⟨K 4, 0, none⟩) 7 7] 26) = W5 at *
  have hb5 : Below w4.heap.size w4 W5 := by rw [← hWW]; exact Below.put (Below.refl _ _) _
  have HE5 := hide (hE4.keep hb5)
  have HX5 := hide (hX4.keep hb5)
  have HG5 := hide (hG4.keep hb5)
  have HBG5 := hide (hBG4.keep hb5)
  have hz5 := hz4.keep hb5
  have HY5 := hide (hY4.keep hb5)
  have HK5 := hide (hK4.keep hb5)
  have HBK5 := hide hBK
  clear hY4 hK4 hBK
  have HB5 := hide (hB4.trans (hb5.mono hB4.size))
  clear hB4 hE4 hb5 hWW hX4 hG4 hBG4 hz4
  generalize w4.heap.size = q at *
  have hn := hz5.1
  have HZ5 := hide hz5
  clear hz5
  go_loopw [14] (fun y wx => ∃ i : Nat, y = .int .i64 i ∧ i ≤ n ∧ Below W5.heap.size W5 wx) (fun y _ => n - (intOf y).toNat)
  case atStart => exact ⟨0, rfl, by omega, Below.refl _ _⟩
  case round =>
    obtain ⟨i, rfl, hi, hb⟩ := hrel
    by_cases hlt : i < n
    · have i0 : (i : Int) < n := by omega
      have i1 : (0 : Int) ≤ i := by omega
      obtain ⟨bk, off, rfl, hcz⟩ : ∃ bk off, a = some ⟨bk, off, none⟩ ∧ ∀ i, i < n → W5.cell? ⟨bk, off + i, none⟩ = some (.int .i64 (z.getD i 0)) := by
        rcases HZ5.out.2 with h | h
        · omega
        · exact h
      have hczi := hcz i hlt
      clear hcz
      generalize z.getD i 0 = t at *
      have cz : wr.cell? ⟨bk, off + i, none⟩ = some (.int .i64 t) := by rw [hb.cell (p := ⟨bk, off + i, none⟩) (World.block_lt_of_cell? _ _ hczi)]; exact hczi
      have cz0 := cz
      have HM := hide (fun (w : World) (hE : Env w) (hX : ExprAt w g S) => matches_any g S t w hE hX)
      have HR := hide (fun (w : World) (hX : RxAt G S w) => refMatches_any G S hGS t w hX)
      have HM2 := hide (fun (w : World) (hE : Env w) (hX : ExprAt w k T) => matches_any k T t w hE hX)
      have HR2 := hide (fun (w : World) (hX : RxAt K T w) => refMatches_any K T hGT t w hX)
      generalize X.matB T t = mt at *
      generalize X.matB S t = ms at *
      go_wp2_with fail
      go_at_call 12
      refine (HM.out wr (HE5.out.keep hb) (HX5.out.keep hb)).mono ?_
      rintro e w6 ⟨rfl, hb6⟩
      have hB6 := hb.trans (hb6.mono hb.size)
      have cz : w6.cell? ⟨bk, off + i, none⟩ = some (.int .i64 t) := by rw [hB6.cell (p := ⟨bk, off + i, none⟩) (World.block_lt_of_cell? _ _ hczi)]; exact hczi
      have hBx := HBG5.out.keep hB6
      have HRu := hide (fun u : Behind w6 => HR.out u.1 ((HG5.out.keep hB6).keep u.2))
      clear hb hb6
      go_wp2_with fail
      clear cz0
      have v0 := fun u : Behind w6 => u.cell (hBx.c0)
      have v1 := fun u : Behind w6 => u.cell (hBx.c1)
      have v2 := fun u : Behind w6 => u.cell (hBx.c2)
      have v3 := fun u : Behind w6 => u.cell (hBx.c3)
      have v4 := fun u : Behind w6 => u.cell (hBx.c4)
      have v5 := fun u : Behind w6 => u.cell cz
      haveI := behindNE w6
      refine quiet_behind (by kernel_rfl) (by kernel_rfl) ?_
      repeat (go_big_quiet_step ((go_at_call 13; exact calls_behind _ (HRu.out _))))
      refine wpQuiet_nil ?_
      intro _ hw'
      obtain ⟨u, hw''⟩ := hw'
      subst hw''
      clear v0 v1 v2 v3 v4 v5
      have hB7 := hB6.trans (u.2.mono hB6.size)
      generalize u.1 = w7 at *
      clear hB6 hBx HRu cz
      have cz : w7.cell? ⟨bk, off + i, none⟩ = some (.int .i64 t) := by rw [hB7.cell (p := ⟨bk, off + i, none⟩) (World.block_lt_of_cell? _ _ hczi)]; exact hczi
      go_wp2_with fail
      go_at_call 12
      refine (HM2.out w7 (HE5.out.keep hB7) (HY5.out.keep hB7)).mono ?_
      rintro e w8 ⟨rfl, hb8⟩
      have hB8 := hB7.trans (hb8.mono hB7.size)
      have cz0 := cz
      have cz : w8.cell? ⟨bk, off + i, none⟩ = some (.int .i64 t) := by rw [hB8.cell (p := ⟨bk, off + i, none⟩) (World.block_lt_of_cell? _ _ hczi)]; exact hczi
      have hBy := HBK5.out.keep hB8
      have HRu := hide (fun u : Behind w8 => HR2.out u.1 ((HK5.out.keep hB8).keep u.2))
      clear hB7 hb8
      go_wp2_with fail
      clear cz0
      have v0 := fun u : Behind w8 => u.cell (hBy.c0)
      have v1 := fun u : Behind w8 => u.cell (hBy.c1)
      have v2 := fun u : Behind w8 => u.cell (hBy.c2)
      have v3 := fun u : Behind w8 => u.cell (hBy.c3)
      have v4 := fun u : Behind w8 => u.cell (hBy.c4)
      have v5 := fun u : Behind w8 => u.cell cz
      haveI := behindNE w8
      refine quiet_behind (by kernel_rfl) (by kernel_rfl) ?_
      repeat (go_big_quiet_step ((go_at_call 13; exact calls_behind _ (HRu.out _))))
      refine wpQuiet_nil ?_
      intro _ hw'
      obtain ⟨u, hw''⟩ := hw'
      subst hw''
      clear v0 v1 v2 v3 v4 v5
      have hB9 := hB8.trans (u.2.mono hB8.size)
      generalize u.1 = w9 at *
      clear hB8 hBy HRu cz
      have cz : w9.cell? ⟨bk, off + i, none⟩ = some (.int .i64 t) := by rw [hB9.cell (p := ⟨bk, off + i, none⟩) (World.block_lt_of_cell? _ _ hczi)]; exact hczi
      have qq : (mt != mt) = false := by simp
      have qr : (!(mt == mt)) = false := by simp
      have q1 : (ms != ms) = false := by simp
      have q2 : (!(ms == ms)) = false := by simp
      go_wp2_with fail
      go_at_call 12
      refine (HM.out w9 (HE5.out.keep hB9) (HX5.out.keep hB9)).mono ?_
      rintro e w10 ⟨rfl, hb10⟩
      have HB10 := hide (hB9.trans (hb10.mono hB9.size))
      clear hb10 hB9 cz
      go_wp2_with fail
      exact ⟨⟨i + 1, by go_num, by omega, HB10.out⟩, by simp [intOf]; omega⟩
    · have i0 : ¬ (i : Int) < n := by omega
      have HBe := hide (HB5.out.trans (hb.mono HB5.out.size))
      clear hb
      go_wp2_with fail
      go_ret
      exact ⟨rfl, HBe.out⟩
theorem matches_walk (s o : ByteArray) (a : Option Addr) (n c : Nat) (z : List Int) (w : World) (hs : s.size ≤ 1048576) (ho : o.size ≤ 1048576) (hE : Env w) (hz : RdI w a n z) :
    Calls Tryd.prog 4 #[.string s, .string o, .slice a n c] w fun e w' => e = .returned (.bool true) ∧ Below w.heap.size w w' := by
  cases hp : X.parse s.data.toList with
  | inl m => exact matches_no s o a n c w hs hE m hp
  | inr S =>
    cases hq : X.parse o.data.toList with
    | inl m => exact matches_one s o a n c z w hs ho hE hz S hp m hq
    | inr T => exact matches_two s o a n c z w hs ho hE hz S hp T hq
end Go.Proofs.YtbgioclbjbmicaaDoor
