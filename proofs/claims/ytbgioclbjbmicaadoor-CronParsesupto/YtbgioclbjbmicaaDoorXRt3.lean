/- The document's Text. -/
import Derived.Test.YtbgioclbjbmicaaDoorXRt2
namespace Go.Proofs.YtbgioclbjbmicaaDoor
open Go.RowKit

theorem texts_take (S : X.Sets) (n : Nat) (h : n < 5) : (X.texts S).take (n + 1) = (X.texts S).take n ++ [X.textF S n] := by
  rcases five n h with rfl | rfl | rfl | rfl | rfl <;> rfl
theorem text_step (S : X.Sets) (n : Nat) (h0 : 1 ≤ n) (h : n < 5) : Lib.join ((X.texts S).take (n + 1)) [32] = Lib.join ((X.texts S).take n) [32] ++ 32 :: X.textF S n := by
  rw [texts_take S n h, X.join_snoc 32 _ _ (by
    intro e
    have := congrArg List.length e
    simp [X.texts] at this
    omega)]
theorem text_cat (S : X.Sets) (n : Nat) (h0 : 1 ≤ n) (h : n < 5) : ((⟨(Lib.join ((X.texts S).take n) [32]).toArray⟩ : ByteArray) ++ ⟨#[32]⟩ ++ ⟨(X.textF S n).toArray⟩) = ⟨(Lib.join ((X.texts S).take (n + 1)) [32]).toArray⟩ := by
  rw [text_step S n h0 h, cat_b]
theorem textF_len {S : X.Sets} (h : X.Good S) (f : Nat) (hf : f < 5) : (⟨(X.textF S f).toArray⟩ : ByteArray).size ≤ 186 := by
  rw [size_of]; exact (X.textF_facts h f hf).2.2
theorem take_len {S : X.Sets} (h : X.Good S) (n : Nat) : (⟨(Lib.join ((X.texts S).take n) [32]).toArray⟩ : ByteArray).size ≤ 935 := by
  rw [size_of]
  have h1 := join_len 32 186 ((X.texts S).take n) (fun x hx => by
    have hx := List.mem_of_mem_take hx
    simp only [X.texts, List.mem_cons, List.not_mem_nil, or_false] at hx
    rcases hx with rfl | rfl | rfl | rfl | rfl <;> exact (X.textF_facts h _ (by decide)).2.2)
  have h2 : ((X.texts S).take n).length ≤ 5 := by rw [List.length_take]; have : (X.texts S).length = 5 := rfl; omega
  omega
set_option maxHeartbeats 4000000 in
set_option maxRecDepth 100000 in
theorem refText_any (G : Nat → Nat) (S : X.Sets) (hG : X.Good S) (w : World) (hX : RxAt G S w) :
    Calls Tryd.prog 11 #[rex G] w fun e w' => e = .returned (.string ⟨(X.text S).toArray⟩) ∧ Below w.heap.size w w' := by
  have hBx := Bx.new w G
  have hb1 : Below w.heap.size w (w.alloc (.cells #[.slice (some ⟨G 0, 0, none⟩) 60 60, .slice (some ⟨G 1, 0, none⟩) 24 24, .slice (some ⟨G 2, 0, none⟩) 32 32, .slice (some ⟨G 3, 0, none⟩) 13 13, .slice (some ⟨G 4, 0, none⟩) 7 7] 26)) := Below.put (Below.refl _ _) _
  unfold rex
  go_enter Tryd.func11, Tryd.ntmps11
  go_wp2_with fail
  generalize w.alloc (.cells #[.slice (some ⟨G 0, 0, none⟩) 60 60, .slice (some ⟨G 1, 0, none⟩) 24 24, .slice (some ⟨G 2, 0, none⟩) 32 32, .slice (some ⟨G 3, 0, none⟩) 13 13, .slice (some ⟨G 4, 0, none⟩) 7 7] 26) = W1 at *
  have hX1 := hX.keep hb1
  go_at_call 25
  refine (told_any G S hG 0 (by decide) W1 hX1).mono ?_
  rintro e w2 ⟨rfl, hb2⟩
  have hX2 := hX1.keep hb2
  have hB2 := hBx.keep hb2
  have HB2 := hide (hb1.trans (hb2.mono hb1.size))
  clear hb1 hb2 hX1 hX hBx
  go_wp2_with fail
  go_loopw [3, 4] (fun x y wx => ∃ (n : Nat) (A : ByteArray), y = .int .i64 n ∧ x = .string A ∧ 1 ≤ n ∧ n ≤ 5 ∧ Hid (A = ⟨(Lib.join ((X.texts S).take n) [32]).toArray⟩) ∧ Below w2.heap.size w2 wx) (fun _ y _ => 5 - (intOf y).toNat)
  case atStart => exact ⟨1, _, rfl, rfl, by omega, by omega, (by show _ = _; congr 2; simp [X.texts, Lib.join, List.intercalate]), Below.refl _ _⟩
  case round =>
    obtain ⟨n, A, rfl, rfl, hn0, hn, HA, hb⟩ := hrel
    have hsz : A.size ≤ 935 := by rw [HA.out]; exact take_len hG n
    by_cases hlt : n < 5
    · have i0 : (n : Int) < 5 := by omega
      have hG3 := hB2.keep hb
      have a0 := hG3.c0; have a1 := hG3.c1; have a2 := hG3.c2; have a3 := hG3.c3; have a4 := hG3.c4
      have HX3 := hide (hX2.keep hb)
      have hB := textF_len hG n hlt
      have HC := hide (text_cat S n hn0 hlt)
      rw [← HA.out] at HC
      have HTd := hide (fun (w : World) (hX : RxAt G S w) => told_any G S hG n hlt w hX)
      generalize (⟨(X.textF S n).toArray⟩ : ByteArray) = B at *
      clear hG3
      go_wp2_with (first
        | (go_at_call 25; refine (HTd.out w3 (HX3.out.keep hb3)).mono ?_; rintro e w4 ⟨rfl, hb4⟩)
        | (go_at_call 26; refine (field_any G n hlt _).mono ?_; rintro e w3 ⟨rfl, hb3⟩))
      have hB3 := hb.trans (hb3.mono hb.size)
      exact ⟨⟨n + 1, _, by go_num, rfl, by omega, by omega, HC, hB3.trans (hb4.mono hB3.size)⟩, by simp [intOf]; omega⟩
    · obtain rfl : n = 5 := by omega
      have HBe := hide (HB2.out.trans (hb.mono HB2.out.size))
      have HA5 : Hid (A = ⟨(X.text S).toArray⟩) := HA
      clear hb HA
      go_wp2_with fail
      go_ret
      exact ⟨by rw [HA5.out]; rfl, HBe.out⟩
end Go.Proofs.YtbgioclbjbmicaaDoor
