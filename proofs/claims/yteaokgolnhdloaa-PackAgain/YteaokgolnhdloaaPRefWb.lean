/- The document's writer: blobs. -/
import Derived.Test.YteaokgolnhdloaaPRefW
import Derived.Test.YteaokgolnhdloaaPText
namespace Go.Proofs.Yteaokgolnhdloaa
open Go.RowKit

set_option maxRecDepth 10000 in
theorem LayNumber_own (n0 : Nat) (hn0 : n0 ≤ 9223372036854775807) (w : World) :
    Calls Try.prog 62 #[.int .i64 (n0 : Nat)] w fun en w' => ∃ v, en = .returned v ∧ w'.ownsRow w.heap.size 5 1 v (K.num n0).length (B8 (K.num n0)) ∧ Below w.heap.size w w' := by
  have HN := hide (K.num_len9 hn0)
  go_enter Try.func62, Try.ntmps62
  go_wp2
  go_loopw [0, 3] (fun i v wx => ∃ (n : Nat) (l : List Nat), i = .int .i64 (n : Nat) ∧ n ≤ 9223372036854775807 ∧ l ++ K.num n = K.num n0 ∧ (∀ d ∈ l, d < 256) ∧ wx.ownsRow w.heap.size 5 1 v l.length (B8 l) ∧ Below w.heap.size w wx) (fun i _ _ => (intOf i).toNat)
  case atStart => exact ⟨n0, [], rfl, hn0, rfl, (fun d hd => by cases hd), World.ownsRow_nil _ _ _ _, Below.refl _ _⟩
  case round =>
    obtain ⟨n, l, rfl, hn, hl, hd, ho, hb⟩ := hrel
    have hll : l.length ≤ 9 := by have := HN.out; have h2 := congrArg List.length hl; rw [List.length_append] at h2; omega
    have HL := hide hl
    have HD := hide hd
    have HO := hide ho
    have HB := hide hb
    have HR := fun d hd => hide (rd_one wr d hd)
    have HS : Hid (w.heap.size ≤ (wr.alloc (.cells #[.int .u8 0] 5)).heap.size) := by show _ ≤ _; have := hb.size; simp; omega
    clear hl hd ho hb
    by_cases hlt : n < 128
    · have hm : (n : Int) % 256 = (n : Int) := by omega
      go_wp2_with (at_builtin; refine wpList_append_rd rfl _ _ rfl _ l w.heap.size rfl (HO.out.alloc _) _ 1 1 [n] rfl (HR n (by omega)).out (fun e => by cases e) (by omega) (by have := HS.out; simp at this ⊢; omega) ?_; intro v' w2 ho2 hg hnb; obtain ⟨a', c', hv'⟩ := ownsRow_shape ho2; subst hv'; have HO2 := hide ho2; have HG := hide hg; clear ho2 hg hnb)
      go_ret
      have hnum : l ++ [n] = K.num n0 := by rw [← HL.out, K.num_small hlt]
      have ho2 := HO2.out
      rw [hnum] at ho2
      exact ⟨_, by rw [← hnum]; simp, ho2, below_grown HB.out _ HG.out fun k hk => (HO.out.lt k hk).1⟩
    · obtain ⟨d, hd⟩ : ∃ d, d = n % 128 + 128 := ⟨_, rfl⟩
      have ht : (n : Int).tmod 128 = ((n % 128 : Nat) : Int) := by rw [Int.tmod_eq_emod_of_nonneg (by omega)]; omega
      have ht2 : (n : Int).tdiv 128 = ((n / 128 : Nat) : Int) := by rw [Int.tdiv_eq_ediv_of_nonneg (by omega)]; omega
      have HDD := hide hd
      have hd8 : d < 256 := by omega
      have HR2 : Hid (Rd (wr.alloc (.cells #[.int .u8 ((n : Int) % 128 + 128)] 5)) (some ⟨wr.heap.size, 0, none⟩) 1 [d]) := by
        have h := rd_one wr d hd8
        rw [show (d : Int) = (n : Int) % 128 + 128 by omega] at h
        exact h
      clear hd
      go_wp2_with (at_builtin; refine wpList_append_rd rfl _ _ rfl _ l w.heap.size rfl (HO.out.alloc _) _ 1 1 [d] rfl HR2.out (fun e => by cases e) (by omega) (by have := HS.out; simp at this ⊢; omega) ?_; intro v' w2 ho2 hg hnb; have HO2 := hide ho2; have HG := hide hg; clear ho2 hg hnb)
      go_roundw
      case rel =>
        refine ⟨n / 128, l ++ [d], by go_num, by omega, ?_, ?_, HO2.out, below_grown HB.out _ HG.out fun k hk => (HO.out.lt k hk).1⟩
        · rw [← HL.out, K.num_big (n := n) (by omega), HDD.out, List.append_assoc]; rfl
        · intro x hx
          rcases List.mem_append.1 hx with hx | hx
          · exact HD.out x hx
          · simp at hx; omega
      case measure => simp [intOf]; omega

theorem LayBlob_any (a : Option Addr) (n c : Nat) (l : List Nat) (w : World) (hr : Rd w a n l) (h0 : a = none → c = 0) (hn : n ≤ 140737488351232) :
    Calls Try.prog 63 #[.slice a n c] w fun en w' => ∃ a' c', en = .returned (.slice a' (K.num n ++ l).length c') ∧ Rd w' a' (K.num n ++ l).length (K.num n ++ l) ∧ (a' = none → c' = 0) ∧ Below w.heap.size w w' := by
  have HR := hide hr
  have H0 := hide h0
  clear hr h0
  go_enter Try.func63, Try.ntmps63
  go_wp2_with fail
  refine (LayNumber_own n (by omega) _).mono ?_
  rintro e w1 ⟨v, rfl, ho, hb⟩
  obtain ⟨a1, c1, hv⟩ := ownsRow_shape ho
  subst hv
  have hl9 := K.num_len9 (n := n) (by omega)
  have HML := hide hl9
  have HO := hide ho
  have HB := hide hb
  have HS := hide hb.size
  have HR1 := hide (HR.out.keep hb)
  clear ho hb
  clear hl9
  obtain ⟨ml, hml⟩ : ∃ ml, (K.num n).length = ml := ⟨_, rfl⟩
  have HM := hide hml
  rw [hml]
  clear hml
  go_wp2_with (at_builtin; refine wpList_append_rd rfl _ _ rfl (.slice a1 ml c1) (K.num n) w.heap.size rfl (by rw [← HM.out]; exact HO.out) _ n c l rfl HR1.out H0.out (by have := HML.out; omega) HS.out ?_; intro v' w2 ho2 hg hnb; have HO2 := hide ho2; have HG := hide hg; clear ho2 hg hnb)
  obtain ⟨a2, c2, hv2, h2, h3, -⟩ := ownsRow_rd HO2.out (fun d hd => by
    rcases List.mem_append.1 hd with hd | hd
    · exact K.num_lt n d hd
    · exact HR.out.2.2.1 d hd) (by have h1 := HML.out; have h2 := HR.out.1; rw [List.length_append]; omega)
  subst hv2
  have H2 := hide h2
  have H3 := hide h3
  have HB2 := hide (HB.out.grown HG.out HS.out (fun k hk => (HO.out.lt k (by rw [HM.out]; exact hk)).1))
  clear h2 h3
  go_ret
  exact ⟨a2, c2, rfl, H2.out, H3.out, HB2.out⟩

theorem RBlob_any (S : Nat → Prop) (w0 : World) (p : Nat) (most : Int) (a : Option Addr) (n c : Nat) (l : List Nat) (s : K.WS) (w : World) (h : VAt S w0 p s w) (hr : Rd w a n l) (h0 : a = none → c = 0) (hn : n ≤ 140737488351232) :
    Calls Try.prog 23 #[.pointer (some ⟨p, 0, none⟩), .int .i64 most, .slice a n c] w fun en w' => en = .returned (.tuple #[]) ∧ VAt S w0 p (putW (textW most l) s) w' := by
  have HH := hide h
  have HR := hide hr
  have H0 := hide h0
  clear h hr h0
  generalize hs' : putW (textW most l) s = s'
  have HS := hide hs'
  clear hs'
  go_enter Try.func23, Try.ntmps23
  by_cases hm : most < (n : Int)
  · have HE : Hid (s.fail 20 = s') := by
      show _ = _
      have hl := HR.out.1
      rw [← HS.out]
      unfold putW textW K.WS.fail
      rw [if_pos (show most < (l.length : Int) by omega)]
      by_cases hz : s.fault = 0 <;> simp [hz]
    go_wp2_with fail
    refine (wrong_any S w0 p s 20 _ HH.out).mono ?_
    rintro e w1 ⟨rfl, h1⟩
    rw [HE.out] at h1
    have H1 := hide h1
    clear h1
    go_wp2_with fail
    first | go_end0 | refine bodyPost_ret (results_none rfl _ _ _) rfl ?_
    exact ⟨rfl, H1.out⟩
  · have HE : Hid (putW (fun s => s.lay (K.num n ++ l)) s = s') := by
      show _ = _
      have hl := HR.out.1
      rw [← HS.out]
      unfold putW textW
      rw [if_neg (show ¬ most < (l.length : Int) by omega), ← hl]
    go_wp2_with fail
    refine (LayBlob_any a n c l _ HR.out H0.out hn).mono ?_
    rintro e w1 ⟨a1, c1, rfl, hr1, h01, hb1⟩
    have HV := hide (HH.out.below hb1)
    have HR1 := hide hr1
    have H01 := hide h01
    have HLN : Hid ((K.num n ++ l).length ≤ 140737488351300) := by
      show _ ≤ _
      have h1 := K.num_len9 (n := n) (by omega)
      have h2 := HR.out.1
      rw [List.length_append]; omega
    clear hr1 h01 hb1
    generalize hml : (K.num n ++ l).length = ml at *
    clear hml
    go_wp2_with fail
    refine (Lay_any S w0 p s a1 ml c1 (K.num n ++ l) _ HV.out HR1.out H01.out HLN.out).mono ?_
    rintro e w2 ⟨rfl, h1⟩
    rw [HE.out] at h1
    have H1 := hide h1
    clear h1
    go_wp2_with fail
    first | go_end0 | refine bodyPost_ret (results_none rfl _ _ _) rfl ?_
    exact ⟨rfl, H1.out⟩

end Go.Proofs.Yteaokgolnhdloaa
