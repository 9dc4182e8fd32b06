/- The document's Parse: Lines, Words. -/
import Derived.Test.YtfoahfgehmghcaaGreatDoorUSpT
namespace Go.Proofs.YtfoahfgehmghcaaGreatDoor
namespace U
namespace Sp
open Go.RowKit

/-- rows of words that a call answers -/
def WdEnd (R : List (List UInt8)) (w : World) (e : Ending) (w' : World) : Prop := ∃ a c, e = .returned (.slice a R.length c) ∧ w'.ownsRow w.heap.size 9 1 (.slice a R.length c) R.length (sts R) ∧ Below w.heap.size w w'
set_option maxRecDepth 100000 in
set_option maxHeartbeats 2000000 in
theorem lines_any (s : ByteArray) (w : World) (hl : s.size ≤ 65536) :
    Calls Tryz.prog 23 #[.string s] w (WdEnd (linesR [] s.data.toList) w) := by
  generalize hR : linesR [] s.data.toList = R
  have HR := hide hR
  clear hR
  go_enter Tryz.func23, Tryz.ntmps23
  go_wp2_with fail
  go_loopw [3, 4, 5] (fun lv fv iv wr => ∃ (fr i : Nat) (got : List (List UInt8)) (va : Option Addr) (vc : Nat), lv = .slice va got.length vc ∧ fv = .int .i64 (fr : Nat) ∧ iv = .int .i64 (i : Nat) ∧ fr ≤ i ∧ i ≤ s.size ∧ got.length ≤ i ∧ Hid (wr.ownsRow w.heap.size 9 1 (.slice va got.length vc) got.length (sts got) ∧ got ++ linesR (seg s fr i) (s.data.toList.drop i) = R ∧ Below w.heap.size w wr)) (fun _ _ iv _ => s.size - (intOf iv).toNat)
  case atStart => exact ⟨0, 0, [], none, 0, rfl, rfl, rfl, Nat.le_refl _, Nat.zero_le _, Nat.le_refl _, World.ownsRow_nil _ _ _ _, by rw [seg_self]; exact HR.out, Below.refl _ _⟩
  case round =>
    obtain ⟨fr, i, got, va, vc, rfl, rfl, rfl, hfi, hi, hgl, HD⟩ := hrel
    clear HR
    by_cases hlt : i < s.size
    · have hd := drop_at s i hlt
      by_cases hb : s[i] = 10
      · have HN : Hid ((got ++ [seg s fr i]) ++ linesR (seg s (i + 1) (i + 1)) (s.data.toList.drop (i + 1)) = R) := by
          show _ = _
          rw [← HD.out.2.1, hd, linesR, if_pos hb, seg_self, List.append_assoc]
          rfl
        have f1 : ((s[i].toNat : Int) == 10) = true := by rw [hb]; rfl
        have hx := ext_seg s fr i
        generalize seg s fr i = cur at *
        clear hd hb
        go_wp2_with (first
          | (at_builtin; refine wp_app rfl _ _ inf_str rfl w.heap.size _ got.length _ (sts got) (.string (ba cur)) rfl rfl (HD.out.1.alloc _) (cell_new _ _ _) rfl ?b1 ?b2 ?_
             rotate_left
             rotate_left
             intro va2 vc2 w8 own8 gr8
             have HF := hide (⟨own8, gr8⟩ : _ ∧ _)
             clear own8 gr8))
        · go_roundw
          · refine ⟨i + 1, i + 1, got ++ [cur], va2, vc2, by simp, rfl, rfl, Nat.le_refl _, by omega, by simp; omega, ?_, HN.out, ?_⟩
            · rw [sts_snoc]; simpa using HF.out.1
            · exact ((HD.out.2.2).alloc HD.out.2.2.size _).grown HF.out.2 (by have := HD.out.2.2.size; simp; omega) (fun k hk => (HD.out.1.lt k hk).1)
          · show s.size - ((i : Int) + 1).toNat < s.size - (i : Int).toNat
            omega
        case b1 => omega
        case b2 => have := HD.out.2.2.size; simp; omega
      · have HN : Hid (got ++ linesR (seg s fr (i + 1)) (s.data.toList.drop (i + 1)) = R) := by
          show _ = _
          rw [← HD.out.2.1, hd, linesR, if_neg hb, seg_snoc s fr i hfi hlt]
        have f1 : ((s[i].toNat : Int) == 10) = false := by
          rw [beq_eq_false_iff_ne]
          intro e
          exact hb (UInt8.toNat_inj.1 (by show s[i].toNat = 10; omega))
        clear hd hb
        go_wp2_with fail
        go_roundw
        · exact ⟨fr, i + 1, got, va, vc, rfl, rfl, rfl, by omega, by omega, by omega, HD.out.1, HN.out, HD.out.2.2⟩
        · show s.size - ((i : Int) + 1).toNat < s.size - (i : Int).toNat
          omega
    · obtain rfl : i = s.size := by omega
      have hR := HD.out.2.1
      rw [drop_end s s.size (by omega), linesR, seg_empty s fr s.size (Nat.le_refl _)] at hR
      by_cases hf : fr < s.size
      · rw [if_neg (by simp; omega)] at hR
        have f1 : (fr : Int) < s.size := by omega
        have hx := ext_seg s fr s.size
        generalize seg s fr s.size = cur at *
        have HRR := hide hR
        clear hR
        go_wp2_with (first
          | (at_builtin; refine wp_app rfl _ _ inf_str rfl w.heap.size _ got.length _ (sts got) (.string (ba cur)) rfl rfl (HD.out.1.alloc _) (cell_new _ _ _) rfl ?b1 ?b2 ?_
             rotate_left
             rotate_left
             intro va2 vc2 w8 own8 gr8
             have HF := hide (⟨own8, gr8⟩ : _ ∧ _)
             clear own8 gr8))
        · go_ret
          have hr := HRR.out
          subst hr
          refine ⟨va2, vc2, by simp, ?_, ?_⟩
          · rw [sts_snoc]; simpa using HF.out.1
          · exact ((HD.out.2.2).alloc HD.out.2.2.size _).grown HF.out.2 (by have := HD.out.2.2.size; simp; omega) (fun k hk => (HD.out.1.lt k hk).1)
        case b1 => omega
        case b2 => have := HD.out.2.2.size; simp; omega
      · rw [if_pos (by simp; omega), List.append_nil] at hR
        have f1 : ¬ (fr : Int) < s.size := by omega
        have HRR := hide hR
        clear hR
        go_wp2_with fail
        go_ret
        have hr := HRR.out
        subst hr
        exact ⟨va, vc, rfl, HD.out.1, HD.out.2.2⟩

def curI (s : ByteArray) (f : Int) (i : Nat) : List UInt8 := if f < 0 then [] else seg s f.toNat i
set_option maxRecDepth 100000 in
set_option maxHeartbeats 4000000 in
theorem words_any (s : ByteArray) (w : World) (hl : s.size ≤ 65536) :
    Calls Tryz.prog 24 #[.string s] w (WdEnd (wordsOf s.data.toList) w) := by
  generalize hR : wordsOf s.data.toList = R
  have HR := hide hR
  clear hR
  go_enter Tryz.func24, Tryz.ntmps24
  go_wp2_with fail
  go_loopw [3, 4, 5, 6] (fun lv fv iv ev wr => ∃ (fr : Int) (i : Nat) (got : List (List UInt8)) (va : Option Addr) (vc : Nat), lv = .slice va got.length vc ∧ fv = .int .i64 fr ∧ iv = .int .i64 (i : Nat) ∧ (fr = -1 ∨ 0 ≤ fr ∧ fr < i) ∧ i ≤ s.size ∧ got.length ≤ i ∧ Hid (wr.ownsRow w.heap.size 9 1 (.slice va got.length vc) got.length (sts got) ∧ got ++ wordsA (curI s fr i) (ahead 35 (s.data.toList.drop i)) = R ∧ Below w.heap.size w wr)) (fun _ _ iv _ _ => s.size + 1 - (intOf iv).toNat)
  case atStart => exact ⟨-1, 0, [], none, 0, rfl, rfl, rfl, .inl rfl, Nat.zero_le _, Nat.le_refl _, World.ownsRow_nil _ _ _ _, HR.out, Below.refl _ _⟩
  case round =>
    obtain ⟨fr, i, got, va, vc, rfl, rfl, rfl, hfr, hi, hgl, HD⟩ := hrel
    clear HR
    have hle : (i : Int) ≤ s.size := by omega
    by_cases hlt : i < s.size
    · have hd := drop_at s i hlt
      have hie : ((i : Int) == s.size) = false := by simp; omega
      have hw : ∀ b : UInt8, ∀ n : Nat, s[i].toNat = n → b.toNat = n → s[i] = b := fun b n h1 h2 => UInt8.toNat_inj.1 (by omega)
      generalize hb : s[i].toNat = c at *
      by_cases c35 : c = 35
      · have f35 : ((c : Int) == 35) = true := by simp; omega
        have HA : Hid (ahead 35 (s.data.toList.drop i) = []) := by show _ = _; rw [hd, ahead, if_pos (hw 35 35 c35 rfl)]
        clear hd hw
        rcases hfr with rfl | ⟨hf0, hf1⟩
        · have HRR : Hid (R = got) := by
            show _ = _
            rw [← HD.out.2.1, HA.out]
            simp [curI, wordsA]
          clear HA
          go_wp2_with fail
          go_ret
          have hr := HRR.out
          subst hr
          exact ⟨va, vc, rfl, HD.out.1, HD.out.2.2⟩
        · obtain ⟨a, rfl⟩ : ∃ a : Nat, fr = a := ⟨fr.toNat, by omega⟩
          have HRR : Hid (R = got ++ [seg s a i]) := by
            show _ = _
            rw [← HD.out.2.1, HA.out]
            unfold curI
            rw [if_neg (by omega), Int.toNat_natCast, wordsA, seg_empty s a i hi, if_neg (by simp; omega)]
          have hx := ext_seg s a i
          have hai : (a : Int) ≤ i := by omega
          generalize seg s a i = cur at *
          clear HA
          go_wp2_with (first
            | (at_builtin; refine wp_app rfl _ _ inf_str rfl w.heap.size _ got.length _ (sts got) (.string (ba cur)) rfl rfl (HD.out.1.alloc _) (cell_new _ _ _) rfl ?b1 ?b2 ?_
               rotate_left
               rotate_left
               intro va2 vc2 w8 own8 gr8
               have HF := hide (⟨own8, gr8⟩ : _ ∧ _)
               clear own8 gr8))
          · go_ret
            have hr := HRR.out
            subst hr
            refine ⟨va2, vc2, by simp, ?_, ?_⟩
            · rw [sts_snoc]; simpa using HF.out.1
            · exact ((HD.out.2.2).alloc HD.out.2.2.size _).grown HF.out.2 (by have := HD.out.2.2.size; simp; omega) (fun k hk => (HD.out.1.lt k hk).1)
          case b1 => omega
          case b2 => have := HD.out.2.2.size; simp; omega
      · have f35 : ((c : Int) == 35) = false := by simp; omega
        have hA : ahead 35 (s.data.toList.drop i) = s[i] :: ahead 35 (s.data.toList.drop (i + 1)) := by rw [hd, ahead, if_neg (fun e => c35 (by rw [← hb, e]; rfl))]
        by_cases c32 : c = 32
        · have f32 : ((c : Int) == 32) = true := by simp; omega
          have HB : Hid (isBl s[i] = true) := by show _ = _; rw [hw 32 32 c32 rfl]; rfl
          have HA := hide hA
          clear hd hw hA
          rcases hfr with rfl | ⟨hf0, hf1⟩
          · have HN : Hid (got ++ wordsA (curI s (-1) (i + 1)) (ahead 35 (s.data.toList.drop (i + 1))) = R) := by
              show _ = _
              rw [← HD.out.2.1, HA.out, wordsA_blank _ _ _ HB.out]
              simp [curI]
            clear HA HB
            go_wp2_with fail
            go_roundw
            · exact ⟨-1, i + 1, got, va, vc, rfl, rfl, rfl, .inl rfl, by omega, by omega, HD.out.1, HN.out, HD.out.2.2⟩
            · show s.size + 1 - ((i : Int) + 1).toNat < s.size + 1 - (i : Int).toNat
              omega
          · obtain ⟨a, rfl⟩ : ∃ a : Nat, fr = a := ⟨fr.toNat, by omega⟩
            have HN : Hid ((got ++ [seg s a i]) ++ wordsA (curI s (-1) (i + 1)) (ahead 35 (s.data.toList.drop (i + 1))) = R) := by
              show _ = _
              rw [← HD.out.2.1, HA.out, wordsA_blank _ _ _ HB.out]
              unfold curI
              rw [if_neg (show ¬ ((a : Nat) : Int) < 0 by omega), if_pos (by omega), Int.toNat_natCast, seg_empty s a i hi, if_neg (by simp; omega), List.append_assoc]
            have hx := ext_seg s a i
            have hai : (a : Int) ≤ i := by omega
            generalize seg s a i = cur at *
            clear HA HB
            go_wp2_with (first
              | (at_builtin; refine wp_app rfl _ _ inf_str rfl w.heap.size _ got.length _ (sts got) (.string (ba cur)) rfl rfl (HD.out.1.alloc _) (cell_new _ _ _) rfl ?b1 ?b2 ?_
                 rotate_left
                 rotate_left
                 intro va2 vc2 w8 own8 gr8
                 have HF := hide (⟨own8, gr8⟩ : _ ∧ _)
                 clear own8 gr8))
            · go_roundw
              · refine ⟨-1, i + 1, got ++ [cur], va2, vc2, by simp, rfl, rfl, .inl rfl, by omega, by simp; omega, ?_, HN.out, ?_⟩
                · rw [sts_snoc]; simpa using HF.out.1
                · exact ((HD.out.2.2).alloc HD.out.2.2.size _).grown HF.out.2 (by have := HD.out.2.2.size; simp; omega) (fun k hk => (HD.out.1.lt k hk).1)
              · show s.size + 1 - ((i : Int) + 1).toNat < s.size + 1 - (i : Int).toNat
                omega
            case b1 => omega
            case b2 => have := HD.out.2.2.size; simp; omega
        · have f32 : ((c : Int) == 32) = false := by simp; omega
          by_cases c9 : c = 9
          · have f9 : ((c : Int) == 9) = true := by simp; omega
            have HB : Hid (isBl s[i] = true) := by show _ = _; rw [hw 9 9 c9 rfl]; rfl
            have HA := hide hA
            clear hd hw hA
            rcases hfr with rfl | ⟨hf0, hf1⟩
            · have HN : Hid (got ++ wordsA (curI s (-1) (i + 1)) (ahead 35 (s.data.toList.drop (i + 1))) = R) := by
                show _ = _
                rw [← HD.out.2.1, HA.out, wordsA_blank _ _ _ HB.out]
                simp [curI]
              clear HA HB
              go_wp2_with fail
              go_roundw
              · exact ⟨-1, i + 1, got, va, vc, rfl, rfl, rfl, .inl rfl, by omega, by omega, HD.out.1, HN.out, HD.out.2.2⟩
              · show s.size + 1 - ((i : Int) + 1).toNat < s.size + 1 - (i : Int).toNat
                omega
            · obtain ⟨a, rfl⟩ : ∃ a : Nat, fr = a := ⟨fr.toNat, by omega⟩
              have HN : Hid ((got ++ [seg s a i]) ++ wordsA (curI s (-1) (i + 1)) (ahead 35 (s.data.toList.drop (i + 1))) = R) := by
                show _ = _
                rw [← HD.out.2.1, HA.out, wordsA_blank _ _ _ HB.out]
                unfold curI
                rw [if_neg (show ¬ ((a : Nat) : Int) < 0 by omega), if_pos (by omega), Int.toNat_natCast, seg_empty s a i hi, if_neg (by simp; omega), List.append_assoc]
              have hx := ext_seg s a i
              have hai : (a : Int) ≤ i := by omega
              generalize seg s a i = cur at *
              clear HA HB
              go_wp2_with (first
                | (at_builtin; refine wp_app rfl _ _ inf_str rfl w.heap.size _ got.length _ (sts got) (.string (ba cur)) rfl rfl (HD.out.1.alloc _) (cell_new _ _ _) rfl ?b1 ?b2 ?_
                   rotate_left
                   rotate_left
                   intro va2 vc2 w8 own8 gr8
                   have HF := hide (⟨own8, gr8⟩ : _ ∧ _)
                   clear own8 gr8))
              · go_roundw
                · refine ⟨-1, i + 1, got ++ [cur], va2, vc2, by simp, rfl, rfl, .inl rfl, by omega, by simp; omega, ?_, HN.out, ?_⟩
                  · rw [sts_snoc]; simpa using HF.out.1
                  · exact ((HD.out.2.2).alloc HD.out.2.2.size _).grown HF.out.2 (by have := HD.out.2.2.size; simp; omega) (fun k hk => (HD.out.1.lt k hk).1)
                · show s.size + 1 - ((i : Int) + 1).toNat < s.size + 1 - (i : Int).toNat
                  omega
              case b1 => omega
              case b2 => have := HD.out.2.2.size; simp; omega
          · have f9 : ((c : Int) == 9) = false := by simp; omega
            have HB : Hid (isBl s[i] = false) := by
              show _ = _
              unfold isBl
              rw [Bool.or_eq_false_iff, beq_eq_false_iff_ne, beq_eq_false_iff_ne]
              exact ⟨fun e => c32 (by rw [← hb, e]; rfl), fun e => c9 (by rw [← hb, e]; rfl)⟩
            have HA := hide hA
            clear hd hw hA
            rcases hfr with rfl | ⟨hf0, hf1⟩
            · have HN : Hid (got ++ wordsA (curI s (i : Nat) (i + 1)) (ahead 35 (s.data.toList.drop (i + 1))) = R) := by
                show _ = _
                rw [← HD.out.2.1, HA.out, wordsA, if_neg (by rw [HB.out]; simp)]
                unfold curI
                rw [if_neg (by omega), if_pos (by omega), List.nil_append, Int.toNat_natCast, ← seg_snoc s i i (Nat.le_refl _) hlt, seg_self]
                rfl
              clear HA HB
              go_wp2_with fail
              go_roundw
              · exact ⟨(i : Nat), i + 1, got, va, vc, rfl, rfl, rfl, .inr ⟨by omega, by omega⟩, by omega, by omega, HD.out.1, HN.out, HD.out.2.2⟩
              · show s.size + 1 - ((i : Int) + 1).toNat < s.size + 1 - (i : Int).toNat
                omega
            · obtain ⟨a, rfl⟩ : ∃ a : Nat, fr = a := ⟨fr.toNat, by omega⟩
              have HN : Hid (got ++ wordsA (curI s (a : Nat) (i + 1)) (ahead 35 (s.data.toList.drop (i + 1))) = R) := by
                show _ = _
                rw [← HD.out.2.1, HA.out, wordsA, if_neg (by rw [HB.out]; simp)]
                unfold curI
                rw [if_neg (by omega), if_neg (by omega), Int.toNat_natCast, seg_snoc s a i (by omega) hlt]
              clear HA HB
              go_wp2_with fail
              go_roundw
              · exact ⟨(a : Nat), i + 1, got, va, vc, rfl, rfl, rfl, .inr ⟨by omega, by omega⟩, by omega, by omega, HD.out.1, HN.out, HD.out.2.2⟩
              · show s.size + 1 - ((i : Int) + 1).toNat < s.size + 1 - (i : Int).toNat
                omega
    · have hie : ((i : Int) == s.size) = true := by simp; omega
      have HA : Hid (ahead 35 (s.data.toList.drop i) = []) := by show _ = _; rw [drop_end s i hlt]; rfl
      rcases hfr with rfl | ⟨hf0, hf1⟩
      · have HRR : Hid (R = got) := by
          show _ = _
          rw [← HD.out.2.1, HA.out]
          simp [curI, wordsA]
        clear HA
        go_wp2_with fail
        go_ret
        have hr := HRR.out
        subst hr
        exact ⟨va, vc, rfl, HD.out.1, HD.out.2.2⟩
      · obtain ⟨a, rfl⟩ : ∃ a : Nat, fr = a := ⟨fr.toNat, by omega⟩
        have HRR : Hid (R = got ++ [seg s a i]) := by
          show _ = _
          rw [← HD.out.2.1, HA.out]
          unfold curI
          rw [if_neg (by omega), Int.toNat_natCast, wordsA, seg_empty s a i hi, if_neg (by simp; omega)]
        have hx := ext_seg s a i
        have hai : (a : Int) ≤ i := by omega
        generalize seg s a i = cur at *
        clear HA
        go_wp2_with (first
          | (at_builtin; refine wp_app rfl _ _ inf_str rfl w.heap.size _ got.length _ (sts got) (.string (ba cur)) rfl rfl (HD.out.1.alloc _) (cell_new _ _ _) rfl ?b1 ?b2 ?_
             rotate_left
             rotate_left
             intro va2 vc2 w8 own8 gr8
             have HF := hide (⟨own8, gr8⟩ : _ ∧ _)
             clear own8 gr8))
        · go_ret
          have hr := HRR.out
          subst hr
          refine ⟨va2, vc2, by simp, ?_, ?_⟩
          · rw [sts_snoc]; simpa using HF.out.1
          · exact ((HD.out.2.2).alloc HD.out.2.2.size _).grown HF.out.2 (by have := HD.out.2.2.size; simp; omega) (fun k hk => (HD.out.1.lt k hk).1)
        case b1 => omega
        case b2 => have := HD.out.2.2.size; simp; omega
end Sp
end U
end Go.Proofs.YtfoahfgehmghcaaGreatDoor
