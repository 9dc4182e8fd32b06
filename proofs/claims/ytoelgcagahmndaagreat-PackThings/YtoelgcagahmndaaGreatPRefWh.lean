import Derived.Test.YtoelgcagahmndaaGreatPRefW
import Derived.Test.YtoelgcagahmndaaGreatPWord
import Derived.Test.YtoelgcagahmndaaGreatPFlag
import Derived.Test.YtoelgcagahmndaaGreatPText
import Derived.Lib.ConvBytes
import Derived.Test.YtoelgcagahmndaaGreatPWrM
/- The document's writer: words and flags. -/
namespace Go.Proofs.YtoelgcagahmndaaGreat
open Go.RowKit

theorem word_take (X k : Nat) (hk : k < 8) : (word X).take k ++ [X / 256 ^ k % 256] = (word X).take (k + 1) := by
  rw [List.take_add_one]
  congr 1
  unfold word
  rw [List.getElem?_map, List.getElem?_range hk]
  rfl
theorem word_bytes (X : Nat) : ∀ d ∈ word X, d < 256 := by
  intro d hd
  unfold word at hd
  simp only [List.mem_map] at hd
  obtain ⟨k, _, rfl⟩ := hd
  exact Nat.mod_lt _ (by decide)

theorem LayWord_any (X : Nat) (hX : X < 18446744073709551616) (w : World) :
    Calls Tryz.prog 161 #[.int .u64 (X : Nat)] w fun en w' => ∃ a c, en = .returned (.slice a (word X).length c) ∧ Rd w' a (word X).length (word X) ∧ (a = none → c = 0) ∧ Below w.heap.size w w' := by
  go_enter Tryz.func161, Tryz.ntmps161
  go_wp2
  go_loopw [0, 3, 4] (fun x v i wx => ∃ k y : Nat, k ≤ 8 ∧ i = .int .i64 (k : Nat) ∧ x = .int .u64 (y : Nat) ∧ y < 18446744073709551616 ∧ Hid (y = X / 256 ^ k) ∧ wx.ownsRow w.heap.size 5 1 v ((word X).take k).length (B8 ((word X).take k)) ∧ Below w.heap.size w wx) (fun _ _ i _ => 8 - (intOf i).toNat)
  case atStart => exact ⟨0, X, by omega, rfl, rfl, hX, by show X = X / 256 ^ 0; simp, World.ownsRow_nil _ _ _ _, Below.refl _ _⟩
  case round =>
    obtain ⟨k, y, hk, rfl, rfl, hy, HY, ho, hb⟩ := hrel
    have hll : ((word X).take k).length ≤ 9 := by rw [List.length_take, word_len]; omega
    have HO := hide ho
    have HB := hide hb
    have HR : Hid (Rd (wr.alloc (.cells #[.int .u8 ((y : Int) % 256)] 5)) (some ⟨wr.heap.size, 0, none⟩) 1 [y % 256]) := by
      have h := rd_one wr (y % 256) (by omega)
      rw [show ((y % 256 : Nat) : Int) = (y : Int) % 256 by omega] at h
      exact h
    have HS : Hid (w.heap.size ≤ (wr.alloc (.cells #[.int .u8 0] 5)).heap.size) := by show _ ≤ _; have := hb.size; simp; omega
    clear ho hb
    by_cases hlt : k < 8
    · go_wp2_with (at_builtin; refine wpList_append_rd rfl _ _ rfl _ ((word X).take k) w.heap.size rfl (HO.out.alloc _) _ 1 1 [y % 256] rfl HR.out (fun e => by cases e) (by omega) (by have := HS.out; simp at this ⊢; omega) ?_; intro v' w2 ho2 hg hnb; have HO2 := hide ho2; have HG := hide hg; clear ho2 hg hnb)
      have ho2 := HO2.out
      rw [show (word X).take k ++ [y % 256] = (word X).take (k + 1) by rw [HY.out]; exact word_take X k hlt] at ho2
      exact ⟨⟨k + 1, y / 256, by omega, by go_num, by go_num, by omega, by show y / 256 = X / 256 ^ (k + 1); rw [HY.out, Nat.div_div_eq_div_mul, Nat.pow_succ], ho2, below_grown HB.out _ HG.out fun k hk => (HO.out.lt k hk).1⟩, by simp [intOf]; omega⟩
    · obtain rfl : k = 8 := by omega
      have ho := HO.out
      rw [show (word X).take 8 = word X from rfl] at ho
      obtain ⟨a2, c2, rfl, h2, h3, _⟩ := ownsRow_rd ho (word_bytes X) (by rw [word_len]; decide)
      have H2 := hide h2
      have H3 := hide h3
      clear ho h2 h3 HO HR HS
      go_wp2_with fail
      go_ret
      exact ⟨a2, c2, rfl, H2.out, H3.out, HB.out⟩

theorem RWord_any (S : Nat → Prop) (w0 : World) (p : Nat) (X : Nat) (hX : X < 18446744073709551616) (s : K.WS) (w : World) (h : VAt S w0 p s w) :
    Calls Tryz.prog 87 #[.pointer (some ⟨p, 0, none⟩), .int .u64 (X : Nat)] w fun en w' => en = .returned (.tuple #[]) ∧ VAt S w0 p (putW (wordW X) s) w' := by
  have HH := hide h
  clear h
  have HE : Hid (putW (fun s => s.lay (word X)) s = putW (wordW X) s) := rfl
  generalize putW (wordW X) s = s' at *
  go_enter Tryz.func87, Tryz.ntmps87
  go_wp2_with fail
  refine (LayWord_any X hX _).mono ?_
  rintro e w1 ⟨a, c, rfl, hr, h0, hb⟩
  have HR := hide hr
  have H0 := hide h0
  have HV := hide (HH.out.below hb)
  clear hr h0 hb HH
  rw [word_len] at *
  go_wp2_with fail
  refine (Lay_any S w0 p s a 8 c (word X) _ HV.out HR.out H0.out (by decide)).mono ?_
  rintro e w2 ⟨rfl, h1⟩
  rw [HE.out] at h1
  have H1 := hide h1
  clear h1
  go_wp2_with fail
  first | go_end0 | refine bodyPost_ret (results_none rfl _ _ _) rfl ?_
  exact ⟨rfl, H1.out⟩

theorem RFlag_any (S : Nat → Prop) (w0 : World) (p : Nat) (b : Bool) (s : K.WS) (w : World) (h : VAt S w0 p s w) :
    Calls Tryz.prog 88 #[.pointer (some ⟨p, 0, none⟩), .bool b] w fun en w' => en = .returned (.tuple #[]) ∧ VAt S w0 p (putW (flagW b) s) w' := by
  cases b with
  | true =>
    have HR := hide (rd_one w 1 (by decide))
    have HV := hide (h.below ((Below.refl _ _).alloc (Nat.le_refl _) (.cells #[.int .u8 1] 5)))
    clear h
    have HE : Hid (putW (fun s => s.lay [1]) s = putW (flagW true) s) := rfl
    generalize putW (flagW true) s = s' at *
    go_enter Tryz.func88, Tryz.ntmps88
    go_wp2_with fail
    refine (Lay_any S w0 p s _ 1 1 [1] _ HV.out HR.out (fun e => by cases e) (by decide)).mono ?_
    rintro e w2 ⟨rfl, h1⟩
    rw [HE.out] at h1
    have H1 := hide h1
    clear h1
    go_wp2_with fail
    first | go_end0 | refine bodyPost_ret (results_none rfl _ _ _) rfl ?_
    exact ⟨rfl, H1.out⟩
  | false =>
    have HR := hide (rd_one w 0 (by decide))
    have HV := hide (h.below ((Below.refl _ _).alloc (Nat.le_refl _) (.cells #[.int .u8 0] 5)))
    clear h
    have HE : Hid (putW (fun s => s.lay [0]) s = putW (flagW false) s) := rfl
    generalize putW (flagW false) s = s' at *
    go_enter Tryz.func88, Tryz.ntmps88
    go_wp2_with fail
    refine (Lay_any S w0 p s _ 1 1 [0] _ HV.out HR.out (fun e => by cases e) (by decide)).mono ?_
    rintro e w2 ⟨rfl, h1⟩
    rw [HE.out] at h1
    have H1 := hide h1
    clear h1
    go_wp2_with fail
    first | go_end0 | refine bodyPost_ret (results_none rfl _ _ _) rfl ?_
    exact ⟨rfl, H1.out⟩
end Go.Proofs.YtoelgcagahmndaaGreat

/- The document's writer: blobs. -/
namespace Go.Proofs.YtoelgcagahmndaaGreat
open Go.RowKit

set_option maxRecDepth 10000 in
theorem LayNumber_own (n0 : Nat) (hn0 : n0 ≤ 9223372036854775807) (w : World) :
    Calls Tryz.prog 62 #[.int .i64 (n0 : Nat)] w fun en w' => ∃ v, en = .returned v ∧ w'.ownsRow w.heap.size 5 1 v (K.num n0).length (B8 (K.num n0)) ∧ Below w.heap.size w w' := by
  have HN := hide (K.num_len9 hn0)
  go_enter Tryz.func62, Tryz.ntmps62
  go_wp2
  go_loopw [0, 3] (fun i v wx => ∃ (n : Nat) (l : List Nat), i = .int .i64 (n : Nat) ∧ n ≤ 9223372036854775807 ∧ l ++ K.num n = K.num n0 ∧ (∀ d ∈ l, d < 256) ∧ wx.ownsRow w.heap.size 5 1 v l.length (B8 l) ∧ Below w.heap.size w wx) (fun i _ _ => (intOf i).toNat)
  case atStart => exact ⟨n0, [], rfl, hn0, rfl, (fun d hd => by cases hd), World.ownsRow_nil _ _ _ _, Below.refl _ _⟩
  case round =>
    obtain ⟨n, l, rfl, hn, hl, hd, ho, hb⟩ := hrel
    have hll : l.length ≤ 9 := by have := HN.out; have h2 := congrArg List.length hl; rw [List.length_append] at h2; omega
    have HL := hide hl
    have HD := hide hd
    have HO := hide ho
    have HB := hide hb
    have HR := fun d hd => hide (rd_one wr d hd)
    have HS : Hid (w.heap.size ≤ (wr.alloc (.cells #[.int .u8 0] 5)).heap.size) := by show _ ≤ _; have := hb.size; simp; omega
    clear hl hd ho hb
    by_cases hlt : n < 128
    · have hm : (n : Int) % 256 = (n : Int) := by omega
      go_wp2_with (at_builtin; refine wpList_append_rd rfl _ _ rfl _ l w.heap.size rfl (HO.out.alloc _) _ 1 1 [n] rfl (HR n (by omega)).out (fun e => by cases e) (by omega) (by have := HS.out; simp at this ⊢; omega) ?_; intro v' w2 ho2 hg hnb; obtain ⟨a', c', hv'⟩ := ownsRow_shape ho2; subst hv'; have HO2 := hide ho2; have HG := hide hg; clear ho2 hg hnb)
      go_ret
      have hnum : l ++ [n] = K.num n0 := by rw [← HL.out, K.num_small hlt]
      have ho2 := HO2.out
      rw [hnum] at ho2
      exact ⟨_, by rw [← hnum]; simp, ho2, below_grown HB.out _ HG.out fun k hk => (HO.out.lt k hk).1⟩
    · obtain ⟨d, hd⟩ : ∃ d, d = n % 128 + 128 := ⟨_, rfl⟩
      have ht : (n : Int).tmod 128 = ((n % 128 : Nat) : Int) := by rw [Int.tmod_eq_emod_of_nonneg (by omega)]; omega
      have ht2 : (n : Int).tdiv 128 = ((n / 128 : Nat) : Int) := by rw [Int.tdiv_eq_ediv_of_nonneg (by omega)]; omega
      have HDD := hide hd
      have hd8 : d < 256 := by omega
      have HR2 : Hid (Rd (wr.alloc (.cells #[.int .u8 ((n : Int) % 128 + 128)] 5)) (some ⟨wr.heap.size, 0, none⟩) 1 [d]) := by
        have h := rd_one wr d hd8
        rw [show (d : Int) = (n : Int) % 128 + 128 by omega] at h
        exact h
      clear hd
      go_wp2_with (at_builtin; refine wpList_append_rd rfl _ _ rfl _ l w.heap.size rfl (HO.out.alloc _) _ 1 1 [d] rfl HR2.out (fun e => by cases e) (by omega) (by have := HS.out; simp at this ⊢; omega) ?_; intro v' w2 ho2 hg hnb; have HO2 := hide ho2; have HG := hide hg; clear ho2 hg hnb)
      go_roundw
      case rel =>
        refine ⟨n / 128, l ++ [d], by go_num, by omega, ?_, ?_, HO2.out, below_grown HB.out _ HG.out fun k hk => (HO.out.lt k hk).1⟩
        · rw [← HL.out, K.num_big (n := n) (by omega), HDD.out, List.append_assoc]; rfl
        · intro x hx
          rcases List.mem_append.1 hx with hx | hx
          · exact HD.out x hx
          · simp at hx; omega
      case measure => simp [intOf]; omega

theorem LayBlob_any (a : Option Addr) (n c : Nat) (l : List Nat) (w : World) (hr : Rd w a n l) (h0 : a = none → c = 0) (hn : n ≤ 140737488351232) :
    Calls Tryz.prog 162 #[.slice a n c] w fun en w' => ∃ a' c', en = .returned (.slice a' (K.num n ++ l).length c') ∧ Rd w' a' (K.num n ++ l).length (K.num n ++ l) ∧ (a' = none → c' = 0) ∧ Below w.heap.size w w' := by
  have HR := hide hr
  have H0 := hide h0
  clear hr h0
  go_enter Tryz.func162, Tryz.ntmps162
  go_wp2_with fail
  refine (LayNumber_own n (by omega) _).mono ?_
  rintro e w1 ⟨v, rfl, ho, hb⟩
  obtain ⟨a1, c1, hv⟩ := ownsRow_shape ho
  subst hv
  have hl9 := K.num_len9 (n := n) (by omega)
  have HML := hide hl9
  have HO := hide ho
  have HB := hide hb
  have HS := hide hb.size
  have HR1 := hide (HR.out.keep hb)
  clear ho hb
  clear hl9
  obtain ⟨ml, hml⟩ : ∃ ml, (K.num n).length = ml := ⟨_, rfl⟩
  have HM := hide hml
  rw [hml]
  clear hml
  go_wp2_with (at_builtin; refine wpList_append_rd rfl _ _ rfl (.slice a1 ml c1) (K.num n) w.heap.size rfl (by rw [← HM.out]; exact HO.out) _ n c l rfl HR1.out H0.out (by have := HML.out; omega) HS.out ?_; intro v' w2 ho2 hg hnb; have HO2 := hide ho2; have HG := hide hg; clear ho2 hg hnb)
  obtain ⟨a2, c2, hv2, h2, h3, -⟩ := ownsRow_rd HO2.out (fun d hd => by
    rcases List.mem_append.1 hd with hd | hd
    · exact K.num_lt n d hd
    · exact HR.out.2.2.1 d hd) (by have h1 := HML.out; have h2 := HR.out.1; rw [List.length_append]; omega)
  subst hv2
  have H2 := hide h2
  have H3 := hide h3
  have HB2 := hide (HB.out.grown HG.out HS.out (fun k hk => (HO.out.lt k (by rw [HM.out]; exact hk)).1))
  clear h2 h3
  go_ret
  exact ⟨a2, c2, rfl, H2.out, H3.out, HB2.out⟩

theorem RBlob_any (S : Nat → Prop) (w0 : World) (p : Nat) (most : Int) (a : Option Addr) (n c : Nat) (l : List Nat) (s : K.WS) (w : World) (h : VAt S w0 p s w) (hr : Rd w a n l) (h0 : a = none → c = 0) (hn : n ≤ 140737488351232) :
    Calls Tryz.prog 89 #[.pointer (some ⟨p, 0, none⟩), .int .i64 most, .slice a n c] w fun en w' => en = .returned (.tuple #[]) ∧ VAt S w0 p (putW (textW most l) s) w' := by
  have HH := hide h
  have HR := hide hr
  have H0 := hide h0
  clear h hr h0
  generalize hs' : putW (textW most l) s = s'
  have HS := hide hs'
  clear hs'
  go_enter Tryz.func89, Tryz.ntmps89
  by_cases hm : most < (n : Int)
  · have HE : Hid (s.fail 20 = s') := by
      show _ = _
      have hl := HR.out.1
      rw [← HS.out]
      unfold putW textW K.WS.fail
      rw [if_pos (show most < (l.length : Int) by omega)]
      by_cases hz : s.fault = 0 <;> simp [hz]
    go_wp2_with fail
    refine (wrong_any S w0 p s 20 _ HH.out).mono ?_
    rintro e w1 ⟨rfl, h1⟩
    rw [HE.out] at h1
    have H1 := hide h1
    clear h1
    go_wp2_with fail
    first | go_end0 | refine bodyPost_ret (results_none rfl _ _ _) rfl ?_
    exact ⟨rfl, H1.out⟩
  · have HE : Hid (putW (fun s => s.lay (K.num n ++ l)) s = s') := by
      show _ = _
      have hl := HR.out.1
      rw [← HS.out]
      unfold putW textW
      rw [if_neg (show ¬ most < (l.length : Int) by omega), ← hl]
    go_wp2_with fail
    refine (LayBlob_any a n c l _ HR.out H0.out hn).mono ?_
    rintro e w1 ⟨a1, c1, rfl, hr1, h01, hb1⟩
    have HV := hide (HH.out.below hb1)
    have HR1 := hide hr1
    have H01 := hide h01
    have HLN : Hid ((K.num n ++ l).length ≤ 140737488351300) := by
      show _ ≤ _
      have h1 := K.num_len9 (n := n) (by omega)
      have h2 := HR.out.1
      rw [List.length_append]; omega
    clear hr1 h01 hb1
    generalize hml : (K.num n ++ l).length = ml at *
    clear hml
    go_wp2_with fail
    refine (Lay_any S w0 p s a1 ml c1 (K.num n ++ l) _ HV.out HR1.out H01.out HLN.out).mono ?_
    rintro e w2 ⟨rfl, h1⟩
    rw [HE.out] at h1
    have H1 := hide h1
    clear h1
    go_wp2_with fail
    first | go_end0 | refine bodyPost_ret (results_none rfl _ _ _) rfl ?_
    exact ⟨rfl, H1.out⟩

end Go.Proofs.YtoelgcagahmndaaGreat

/- The document's writer: texts. -/
namespace Go.Proofs.YtoelgcagahmndaaGreat
open Go.RowKit

theorem conv_below (w : World) (e : TypeId) (t : ByteArray) : Below w.heap.size w (Lib.bytesWorld w e t) := by
  refine ⟨rfl, rfl, rfl, ?_, fun k hk => Lib.bytesWorld_at_old w e t k hk⟩
  have := (Array.getElem?_eq_some_iff.1 (Lib.bytesWorld_at_new w e t)).1
  omega
theorem bytes_rd (w : World) (e : TypeId) (t : ByteArray) (ht : t.size ≤ 140737488351232) : Rd (Lib.bytesWorld w e t) (some ⟨w.heap.size, 0, none⟩) t.size (sb t) := by
  refine ⟨(sb_len t).symm, by omega, sb_lt t, .inr ⟨w.heap.size, 0, rfl, fun i hi => ?_⟩⟩
  rw [cell_of_row _ _ _ _ _ _ (Lib.bytesWorld_at_new w e t)]
  have hs : i < t.data.size := hi
  unfold Lib.bytesCells
  rw [Nat.zero_add, Array.getElem?_append_left (by simpa using hs)]
  have hg := Array.getElem?_eq_getElem hs
  simp [sb, hg]

theorem RText_any (S : Nat → Prop) (w0 : World) (p : Nat) (most : Int) (t : ByteArray) (ht : t.size ≤ 140737488351232) (s : K.WS) (w : World) (h : VAt S w0 p s w) :
    Calls Tryz.prog 64 #[.pointer (some ⟨p, 0, none⟩), .int .i64 most, .string t] w fun en w' => en = .returned (.tuple #[]) ∧ VAt S w0 p (putW (textW most (sb t)) s) w' := by
  have hconv : ∀ w : World, (convert 9 23 (.string t)).run Tryz.prog w = .ok (.slice (some ⟨w.heap.size, 0, none⟩) t.size (grownCap w t.size 0 5)) (Lib.bytesWorld w 5 t) :=
    fun w => Lib.run_convert_string_bytes w 9 23 5 t Tryz.underlying9 Tryz.underlying23 Tryz.underlying5
  have HH := hide h
  have HC := hide (conv_below w 5 t)
  have HR := hide (bytes_rd w 5 t ht)
  clear h
  generalize hs' : putW (textW most (sb t)) s = s'
  have HS := hide hs'
  clear hs'
  go_enter Tryz.func64, Tryz.ntmps64
  go_wp2_with fail
  refine (RBlob_any S w0 p most _ t.size _ (sb t) s _ (HH.out.below HC.out) HR.out (fun e => by cases e) ht).mono ?_
  rintro e w2 ⟨rfl, h1⟩
  rw [HS.out] at h1
  have H1 := hide h1
  clear h1
  go_wp2_with fail
  first | go_end0 | refine bodyPost_ret (results_none rfl _ _ _) rfl ?_
  exact ⟨rfl, H1.out⟩
end Go.Proofs.YtoelgcagahmndaaGreat

/- The document's writer: Head. -/
namespace Go.Proofs.YtoelgcagahmndaaGreat
namespace Wm
open Go.RowKit

theorem RHead_any (S : Nat → Prop) (w0 : World) (p : Nat) (most : Int) (n : Nat) (hn : n ≤ 140737488351232) (s : K.WS) (w : World) (h : VAt S w0 p s w) :
    Calls Tryz.prog 14 #[.pointer (some ⟨p, 0, none⟩), .int .i64 most, .int .i64 (n : Nat)] w fun en w' => en = .returned (.tuple #[]) ∧ VAt S w0 p (putW (headW most n) s) w' := by
  have HH := hide h
  clear h
  generalize hs' : putW (headW most n) s = s'
  have HS := hide hs'
  clear hs'
  by_cases hb : most < (n : Int) ∨ 16777216 < n
  · have HE : Hid (s.fail 20 = s') := by
      show _ = _
      rw [← HS.out]
      unfold putW headW K.WS.fail
      rw [if_pos hb]
      by_cases hz : s.fault = 0 <;> simp [hz]
    by_cases h1 : most < (n : Int)
    · clear hb
      go_enter Tryz.func14, Tryz.ntmps14
      go_wp2_with fail
      refine (wrong_any S w0 p s 20 _ HH.out).mono ?_
      rintro e w1 ⟨rfl, h1⟩
      rw [HE.out] at h1
      go_wp2
      first | go_end0 | refine bodyPost_ret (results_none rfl _ _ _) rfl ?_
      exact ⟨rfl, h1⟩
    · have h2 : (16777216 : Int) < (n : Int) := by omega
      clear hb
      go_enter Tryz.func14, Tryz.ntmps14
      go_wp2_with fail
      refine (wrong_any S w0 p s 20 _ HH.out).mono ?_
      rintro e w1 ⟨rfl, h1⟩
      rw [HE.out] at h1
      go_wp2
      first | go_end0 | refine bodyPost_ret (results_none rfl _ _ _) rfl ?_
      exact ⟨rfl, h1⟩
  · have h1 : ¬ most < (n : Int) := by omega
    have h2 : ¬ (16777216 : Int) < (n : Int) := by omega
    have HE : Hid (putW (fun s => s.lay (K.num n)) s = s') := by
      show _ = _
      rw [← HS.out]
      unfold putW headW
      rw [if_neg hb]
    clear hb
    have HK := hide (K.num_len9 (n := n) (by omega))
    go_enter Tryz.func14, Tryz.ntmps14
    go_wp2_with fail
    refine (LayNumber_any n (by omega) _).mono ?_
    rintro e w1 ⟨a, c, rfl, hr, h0, hb⟩
    have HR := hide hr
    have H0 := hide h0
    have HH1 := hide (HH.out.below hb)
    clear hr h0 hb
    go_wp2_with fail
    refine (Lay_any S w0 p s a _ c _ _ HH1.out HR.out H0.out (by have := HK.out; omega)).mono ?_
    rintro e w2 ⟨rfl, h2⟩
    rw [HE.out] at h2
    go_wp2
    go_end0
    exact ⟨rfl, h2⟩
end Wm
end Go.Proofs.YtoelgcagahmndaaGreat
