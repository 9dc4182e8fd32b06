/- The document's expressions: Same. -/
import Derived.Test.YtbgioclbjbmicaaDoorXRf1
import Derived.Test.YtbgioclbjbmicaaDoorXTextM
namespace Go.Proofs.YtbgioclbjbmicaaDoor
open Go.RowKit

def sameR (S T : X.Sets) : Bool := (List.range 5).all fun f => (List.range (X.hiF f + 1)).all fun v => S (60 * f + v) == T (60 * f + v)
theorem sameR_true {S T : X.Sets} (h : ∀ f, f < 5 → ∀ v, v < X.hiF f + 1 → S (60 * f + v) = T (60 * f + v)) : sameR S T = true := by
  unfold sameR
  rw [List.all_eq_true]
  intro f hf
  rw [List.all_eq_true]
  intro v hv
  rw [h f (List.mem_range.1 hf) v (List.mem_range.1 hv)]; simp
theorem sameR_false {S T : X.Sets} {f v : Nat} (hf : f < 5) (hv : v < X.hiF f + 1) (h : S (60 * f + v) ≠ T (60 * f + v)) : sameR S T = false := by
  cases e : sameR S T
  · rfl
  · unfold sameR at e
    have h1 := List.all_eq_true.1 e f (List.mem_range.2 hf)
    have h2 := List.all_eq_true.1 h1 v (List.mem_range.2 hv)
    exact absurd (by simpa using h2) h
/-- Sets that may be are the same just if they are equal. -/
theorem same_eq {S T : X.Sets} (hS : X.Good S) (hT : X.Good T) : sameR S T = true ↔ S = T := by
  constructor
  · intro h
    have key : ∀ f, f < 5 → ∀ v, v < X.hiF f + 1 → S (60 * f + v) = T (60 * f + v) := by
      intro f hf v hv
      by_cases c : S (60 * f + v) = T (60 * f + v)
      · exact c
      · rw [sameR_false hf hv c] at h; cases h
    funext i
    cases a : S i
    · cases b : T i
      · rfl
      · obtain ⟨f, v, hf, h1, h2, rfl⟩ := hT.inn i b
        rw [key f hf v (by omega), b] at a; cases a
    · obtain ⟨f, v, hf, h1, h2, rfl⟩ := hS.inn i a
      rw [← key f hf v (by omega), a]
  · rintro rfl
    exact sameR_true (fun _ _ _ _ => rfl)
set_option maxHeartbeats 4000000 in
set_option maxRecDepth 100000 in
theorem refSame_any (G K : Nat → Nat) (S T : X.Sets) (w : World) (hX : RxAt G S w) (hY : RxAt K T w) :
    Calls Tryd.prog 19 #[rex G, rex K] w fun e w' => e = .returned (.bool (sameR S T)) ∧ Below w.heap.size w w' := by
  have HT := hide (@sameR_true S T)
  have HF := hide (fun (f v : Nat) => @sameR_false S T f v)
  generalize sameR S T = R at *
  have hBG := Bx.new w G
  have hb1 : Below w.heap.size w (w.alloc (.cells #[.slice (some ⟨G 0, 0, none⟩) 60 60, .slice (some ⟨G 1, 0, none⟩) 24 24, .slice (some ⟨G 2, 0, none⟩) 32 32, .slice (some ⟨G 3, 0, none⟩) 13 13, .slice (some ⟨G 4, 0, none⟩) 7 7] 26)) := Below.put (Below.refl _ _) _
  have hX1 := hX.keep hb1
  have hY1 := hY.keep hb1
  have hs1 : (w.alloc (.cells #[.slice (some ⟨G 0, 0, none⟩) 60 60, .slice (some ⟨G 1, 0, none⟩) 24 24, .slice (some ⟨G 2, 0, none⟩) 32 32, .slice (some ⟨G 3, 0, none⟩) 13 13, .slice (some ⟨G 4, 0, none⟩) 7 7] 26)).heap.size = w.heap.size + 1 := by simp
  unfold rex
  go_enter Tryd.func19, Tryd.ntmps19
  go_wp2_with fail
  generalize w.alloc (.cells #[.slice (some ⟨G 0, 0, none⟩) 60 60, .slice (some ⟨G 1, 0, none⟩) 24 24, .slice (some ⟨G 2, 0, none⟩) 32 32, .slice (some ⟨G 3, 0, none⟩) 13 13, .slice (some ⟨G 4, 0, none⟩) 7 7] 26) = W1 at *
  have hBK := Bx.new W1 K
  have hb2 : Below W1.heap.size W1 (W1.alloc (.cells #[.slice (some ⟨K 0, 0, none⟩) 60 60, .slice (some ⟨K 1, 0, none⟩) 24 24, .slice (some ⟨K 2, 0, none⟩) 32 32, .slice (some ⟨K 3, 0, none⟩) 13 13, .slice (some ⟨K 4, 0, none⟩) 7 7] 26)) := Below.put (Below.refl _ _) _
  have hBG2 := hBG.keep hb2
  have hX2 := hX1.keep hb2
  have hY2 := hY1.keep hb2
  have hB2 := hb1.trans (hb2.mono hb1.size)
  rw [hs1] at hBK
  generalize W1.alloc (.cells #[.slice (some ⟨K 0, 0, none⟩) 60 60, .slice (some ⟨K 1, 0, none⟩) 24 24, .slice (some ⟨K 2, 0, none⟩) 32 32, .slice (some ⟨K 3, 0, none⟩) 13 13, .slice (some ⟨K 4, 0, none⟩) 7 7] 26) = W2 at *
  have HB2 := hide hB2
  clear hBG hb1 hX1 hY1 hb2 hX hY hB2 hs1
  generalize hp1 : w.heap.size + 1 = p1 at *
  clear hp1
  go_loopw [5] (fun y wx => ∃ n : Nat, y = .int .i64 n ∧ n ≤ 5 ∧ Hid (∀ f, f < n → ∀ v, v < X.hiF f + 1 → S (60 * f + v) = T (60 * f + v)) ∧ Below W2.heap.size W2 wx) (fun y _ => 5 - (intOf y).toNat)
  case atStart => exact ⟨0, rfl, by omega, (fun f hf => absurd hf (by omega)), Below.refl _ _⟩
  case round =>
    obtain ⟨n, rfl, hn, HN, hb⟩ := hrel
    by_cases hlt : n < 5
    · have i0 : (n : Int) < 5 := by omega
      have hG3 := hBG2.keep hb
      have a0 := hG3.c0; have a1 := hG3.c1; have a2 := hG3.c2; have a3 := hG3.c3; have a4 := hG3.c4
      go_wp2_with fail
      clear a0 a1 a2 a3 a4 hG3
      go_at_call 26
      refine (field_any G n hlt _).mono ?_
      rintro e w3 ⟨rfl, hb3⟩
      have hB3 := hb.trans (hb3.mono hb.size)
      have hK3 := hBK.keep hB3
      have a0 := hK3.c0; have a1 := hK3.c1; have a2 := hK3.c2; have a3 := hK3.c3; have a4 := hK3.c4
      go_wp2_with fail
      clear a0 a1 a2 a3 a4 hK3
      go_at_call 26
      refine (field_any K n hlt _).mono ?_
      rintro e w4 ⟨rfl, hb4⟩
      have hB4 := hB3.trans (hb4.mono hB3.size)
      have hX4 := hX2.keep hB4 n hlt
      have hY4 := hY2.keep hB4 n hlt
      have HF2 := hide (fun (v : Nat) => HF.out n v hlt)
      have HB4 := hide hB4
      have HH : Hid (∀ v, v < X.hiF n + 1 → S (60 * n + v) = T (60 * n + v)) → ∀ f, f < n + 1 → ∀ v, v < X.hiF f + 1 → S (60 * f + v) = T (60 * f + v) := by
        intro h f hf v hv
        by_cases c : f = n
        · subst c; exact h.out v hv
        · exact HN.out f (by omega) v hv
      have HH2 := hide HH
      clear hb hb3 hB3 hb4 hB4 HH
      unfold rsl
      have hm0 := X.loF_le n
      generalize hmm : X.hiF n + 1 = m at *
      have hm1 : m ≤ 60 := by omega
      clear hm0 hmm
      go_wp2_with fail
      go_loopw [8] (fun y wx => ∃ v : Nat, y = .int .i64 v ∧ v ≤ m ∧ Hid (∀ u, u < v → S (60 * n + u) = T (60 * n + u)) ∧ Below w4.heap.size w4 wx) (fun y _ => m - (intOf y).toNat)
      case atStart => exact ⟨0, rfl, by omega, (fun f hf => absurd hf (by omega)), Below.refl _ _⟩
      case round =>
        obtain ⟨v, rfl, hv, HV, hbv⟩ := hrel
        by_cases hvm : v < m
        · have x0 := hX4 v hvm
          have y0 := hY4 v hvm
          have cx : wr.cell? ⟨G n, v, none⟩ = some (.bool (S (60 * n + v))) := by rw [hbv.cell (p := ⟨G n, v, none⟩) (World.block_lt_of_cell? _ _ x0)]; exact x0
          have cy : wr.cell? ⟨K n, v, none⟩ = some (.bool (T (60 * n + v))) := by rw [hbv.cell (p := ⟨K n, v, none⟩) (World.block_lt_of_cell? _ _ y0)]; exact y0
          have j0 : (v : Int) < m := by omega
          have j1 : (0 : Int) ≤ v := by omega
          have hdr : ∀ k, Below w4.heap.size w4 (wr.drewN k) := fun k => hbv.trans ⟨rfl, rfl, rfl, Nat.le_refl _, fun _ _ => rfl⟩
          have HDR := hide hdr
          clear hdr x0 y0 hbv
          by_cases hc : S (60 * n + v) = T (60 * n + v)
          · have HV2 : Hid (∀ u, u < v + 1 → S (60 * n + u) = T (60 * n + u)) := fun u h2 => by
              by_cases c : u = v
              · subst c; exact hc
              · exact HV.out u (by omega)
            rw [hc] at cx
            clear hc
            generalize T (60 * n + v) = b at *
            go_wp2_with fail
            go_quiet (fail)
            go_wp2_with fail
            all_goals exact ⟨⟨v + 1, by go_num, by omega, HV2, HDR.out _⟩, by simp [intOf]; omega⟩
          · have hR := HF2.out v hvm hc
            subst hR
            have HX4 := hide (HB4.out.trans ((HDR.out 1).mono HB4.out.size))
            have hbb : (!(S (60 * n + v) == T (60 * n + v))) = true := by simp [hc]
            have hbc : (S (60 * n + v) != T (60 * n + v)) = true := by simp [hc]
            clear hc
            generalize T (60 * n + v) = b at *
            generalize S (60 * n + v) = b' at *
            go_wp2_with fail
            go_quiet (fail)
            go_wp2_with fail
            go_ret
            exact ⟨rfl, HB2.out.trans ((HB4.out.trans ((HDR.out _).mono HB4.out.size)).mono HB2.out.size)⟩
        · have j0 : ¬ (v : Int) < m := by omega
          have HN2 := hide (HH2.out (fun u hu => HV.out u (by omega)))
          have HBv := hide (HB4.out.trans (hbv.mono HB4.out.size))
          clear hbv
          go_wp2_with fail
          exact ⟨⟨n + 1, by go_num, by omega, HN2, HBv.out⟩, by simp [intOf]; omega⟩
    · obtain rfl : n = 5 := by omega
      have hR := HT.out (fun f hf v hv => HN.out f hf v hv)
      subst hR
      have HBe := hide (HB2.out.trans (hb.mono HB2.out.size))
      clear hb
      go_wp2_with fail
      go_ret
      exact ⟨rfl, HBe.out⟩
end Go.Proofs.YtbgioclbjbmicaaDoor
