/- The document's writer: words and flags. -/
import Derived.Test.YtinhpanpjamjlaaGreatPRefW
import Derived.Test.YtinhpanpjamjlaaGreatPWord
import Derived.Test.YtinhpanpjamjlaaGreatPFlag
namespace Go.Proofs.YtinhpanpjamjlaaGreat
open Go.RowKit

theorem word_take (X k : Nat) (hk : k < 8) : (word X).take k ++ [X / 256 ^ k % 256] = (word X).take (k + 1) := by
  rw [List.take_add_one]
  congr 1
  unfold word
  rw [List.getElem?_map, List.getElem?_range hk]
  rfl
theorem word_bytes (X : Nat) : ∀ d ∈ word X, d < 256 := by
  intro d hd
  unfold word at hd
  simp only [List.mem_map] at hd
  obtain ⟨k, _, rfl⟩ := hd
  exact Nat.mod_lt _ (by decide)

theorem LayWord_any (X : Nat) (hX : X < 18446744073709551616) (w : World) :
    Calls Tryz.prog 133 #[.int .u64 (X : Nat)] w fun en w' => ∃ a c, en = .returned (.slice a (word X).length c) ∧ Rd w' a (word X).length (word X) ∧ (a = none → c = 0) ∧ Below w.heap.size w w' := by
  go_enter Tryz.func133, Tryz.ntmps133
  go_wp2
  go_loopw [0, 3, 4] (fun x v i wx => ∃ k y : Nat, k ≤ 8 ∧ i = .int .i64 (k : Nat) ∧ x = .int .u64 (y : Nat) ∧ y < 18446744073709551616 ∧ Hid (y = X / 256 ^ k) ∧ wx.ownsRow w.heap.size 5 1 v ((word X).take k).length (B8 ((word X).take k)) ∧ Below w.heap.size w wx) (fun _ _ i _ => 8 - (intOf i).toNat)
  case atStart => exact ⟨0, X, by omega, rfl, rfl, hX, by show X = X / 256 ^ 0; simp, World.ownsRow_nil _ _ _ _, Below.refl _ _⟩
  case round =>
    obtain ⟨k, y, hk, rfl, rfl, hy, HY, ho, hb⟩ := hrel
    have hll : ((word X).take k).length ≤ 9 := by rw [List.length_take, word_len]; omega
    have HO := hide ho
    have HB := hide hb
    have HR : Hid (Rd (wr.alloc (.cells #[.int .u8 ((y : Int) % 256)] 5)) (some ⟨wr.heap.size, 0, none⟩) 1 [y % 256]) := by
      have h := rd_one wr (y % 256) (by omega)
      rw [show ((y % 256 : Nat) : Int) = (y : Int) % 256 by omega] at h
      exact h
    have HS : Hid (w.heap.size ≤ (wr.alloc (.cells #[.int .u8 0] 5)).heap.size) := by show _ ≤ _; have := hb.size; simp; omega
    clear ho hb
    by_cases hlt : k < 8
    · go_wp2_with (at_builtin; refine wpList_append_rd rfl _ _ rfl _ ((word X).take k) w.heap.size rfl (HO.out.alloc _) _ 1 1 [y % 256] rfl HR.out (fun e => by cases e) (by omega) (by have := HS.out; simp at this ⊢; omega) ?_; intro v' w2 ho2 hg hnb; have HO2 := hide ho2; have HG := hide hg; clear ho2 hg hnb)
      have ho2 := HO2.out
      rw [show (word X).take k ++ [y % 256] = (word X).take (k + 1) by rw [HY.out]; exact word_take X k hlt] at ho2
      exact ⟨⟨k + 1, y / 256, by omega, by go_num, by go_num, by omega, by show y / 256 = X / 256 ^ (k + 1); rw [HY.out, Nat.div_div_eq_div_mul, Nat.pow_succ], ho2, below_grown HB.out _ HG.out fun k hk => (HO.out.lt k hk).1⟩, by simp [intOf]; omega⟩
    · obtain rfl : k = 8 := by omega
      have ho := HO.out
      rw [show (word X).take 8 = word X from rfl] at ho
      obtain ⟨a2, c2, rfl, h2, h3, _⟩ := ownsRow_rd ho (word_bytes X) (by rw [word_len]; decide)
      have H2 := hide h2
      have H3 := hide h3
      clear ho h2 h3 HO HR HS
      go_wp2_with fail
      go_ret
      exact ⟨a2, c2, rfl, H2.out, H3.out, HB.out⟩

theorem RWord_any (S : Nat → Prop) (w0 : World) (p : Nat) (X : Nat) (hX : X < 18446744073709551616) (s : K.WS) (w : World) (h : VAt S w0 p s w) :
    Calls Tryz.prog 49 #[.pointer (some ⟨p, 0, none⟩), .int .u64 (X : Nat)] w fun en w' => en = .returned (.tuple #[]) ∧ VAt S w0 p (putW (wordW X) s) w' := by
  have HH := hide h
  clear h
  have HE : Hid (putW (fun s => s.lay (word X)) s = putW (wordW X) s) := rfl
  generalize putW (wordW X) s = s' at *
  go_enter Tryz.func49, Tryz.ntmps49
  go_wp2_with fail
  refine (LayWord_any X hX _).mono ?_
  rintro e w1 ⟨a, c, rfl, hr, h0, hb⟩
  have HR := hide hr
  have H0 := hide h0
  have HV := hide (HH.out.below hb)
  clear hr h0 hb HH
  rw [word_len] at *
  go_wp2_with fail
  refine (Lay_any S w0 p s a 8 c (word X) _ HV.out HR.out H0.out (by decide)).mono ?_
  rintro e w2 ⟨rfl, h1⟩
  rw [HE.out] at h1
  have H1 := hide h1
  clear h1
  go_wp2_with fail
  first | go_end0 | refine bodyPost_ret (results_none rfl _ _ _) rfl ?_
  exact ⟨rfl, H1.out⟩

theorem RFlag_any (S : Nat → Prop) (w0 : World) (p : Nat) (b : Bool) (s : K.WS) (w : World) (h : VAt S w0 p s w) :
    Calls Tryz.prog 50 #[.pointer (some ⟨p, 0, none⟩), .bool b] w fun en w' => en = .returned (.tuple #[]) ∧ VAt S w0 p (putW (flagW b) s) w' := by
  cases b with
  | true =>
    have HR := hide (rd_one w 1 (by decide))
    have HV := hide (h.below ((Below.refl _ _).alloc (Nat.le_refl _) (.cells #[.int .u8 1] 5)))
    clear h
    have HE : Hid (putW (fun s => s.lay [1]) s = putW (flagW true) s) := rfl
    generalize putW (flagW true) s = s' at *
    go_enter Tryz.func50, Tryz.ntmps50
    go_wp2_with fail
    refine (Lay_any S w0 p s _ 1 1 [1] _ HV.out HR.out (fun e => by cases e) (by decide)).mono ?_
    rintro e w2 ⟨rfl, h1⟩
    rw [HE.out] at h1
    have H1 := hide h1
    clear h1
    go_wp2_with fail
    first | go_end0 | refine bodyPost_ret (results_none rfl _ _ _) rfl ?_
    exact ⟨rfl, H1.out⟩
  | false =>
    have HR := hide (rd_one w 0 (by decide))
    have HV := hide (h.below ((Below.refl _ _).alloc (Nat.le_refl _) (.cells #[.int .u8 0] 5)))
    clear h
    have HE : Hid (putW (fun s => s.lay [0]) s = putW (flagW false) s) := rfl
    generalize putW (flagW false) s = s' at *
    go_enter Tryz.func50, Tryz.ntmps50
    go_wp2_with fail
    refine (Lay_any S w0 p s _ 1 1 [0] _ HV.out HR.out (fun e => by cases e) (by decide)).mono ?_
    rintro e w2 ⟨rfl, h1⟩
    rw [HE.out] at h1
    have H1 := hide h1
    clear h1
    go_wp2_with fail
    first | go_end0 | refine bodyPost_ret (results_none rfl _ _ _) rfl ?_
    exact ⟨rfl, H1.out⟩
end Go.Proofs.YtinhpanpjamjlaaGreat
