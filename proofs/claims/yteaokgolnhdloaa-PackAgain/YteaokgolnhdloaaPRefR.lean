/- The document's answer: the reader. -/
import Derived.Test.YteaokgolnhdloaaPRefW
import Derived.Deep.QuietTactic
import Derived.BigQuiet
namespace Go.Proofs.Yteaokgolnhdloaa
open Go.RowKit

namespace K
/-- how many bytes a number has -/
def grpGo : Nat → Nat → List Nat → Int
  | 0, _, _ => -2
  | _ + 1, _, [] => -1
  | k + 1, i, b :: l => if b < 128 then ((i + 1 : Nat) : Int) else grpGo k (i + 1) l
def val : List Nat → Nat
  | [] => 0
  | b :: l => b % 128 + 128 * val l
theorem val_lt (l : List Nat) : val l < 128 ^ l.length := by
  induction l with
  | nil => decide
  | cons b l ih => simp only [val, List.length_cons, Nat.pow_succ]; omega

theorem grp_short (k : Nat) : ∀ (i n : Nat) (l : List Nat), grpGo k i l = -1 → pkGo k i n l = .error 21 := by
  induction k with
  | zero => intro i n l h; simp [grpGo] at h
  | succ k ih =>
    intro i n l h
    cases l with
    | nil => rfl
    | cons b l =>
      simp only [grpGo] at h
      split at h
      · omega
      · simp only [pkGo]
        rw [if_pos (by omega)]
        exact ih _ _ _ h
theorem grp_many (k : Nat) : ∀ (i n : Nat) (l : List Nat), grpGo k i l = -2 → pkGo k i n l = .error 22 := by
  induction k with
  | zero => intro i n l h; rfl
  | succ k ih =>
    intro i n l h
    cases l with
    | nil => simp [grpGo] at h
    | cons b l =>
      simp only [grpGo] at h
      split at h
      · omega
      · simp only [pkGo]
        rw [if_pos (by omega)]
        exact ih _ _ _ h
theorem grp_cases (k : Nat) : ∀ (i : Nat) (l : List Nat), grpGo k i l = -1 ∨ grpGo k i l = -2 ∨ ∃ j : Nat, grpGo k i l = (j : Int) := by
  induction k with
  | zero => intro i l; exact .inr (.inl rfl)
  | succ k ih =>
    intro i l
    cases l with
    | nil => exact .inl rfl
    | cons b l =>
      simp only [grpGo]
      split
      · exact .inr (.inr ⟨_, rfl⟩)
      · exact ih _ _
theorem grp_ok (k : Nat) : ∀ (i n j : Nat) (l : List Nat), (∀ d ∈ l, d < 256) → grpGo k i l = (j : Int) → i < j ∧ j ≤ i + k ∧ j - i ≤ l.length ∧
    pkGo k i n l = (if l.getD (j - i - 1) 0 = 0 ∧ 1 < j then .error 22 else .ok (n + val (l.take (j - i)) * 128 ^ i, j)) := by
  induction k with
  | zero => intro i n j l _ h; simp [grpGo] at h
  | succ k ih =>
    intro i n j l hl h
    cases l with
    | nil => simp [grpGo] at h
    | cons b l =>
      have hb8 := hl b (by simp)
      simp only [grpGo] at h
      split at h
      · rename_i hb
        have hj : j = i + 1 := by omega
        subst hj
        refine ⟨by omega, by omega, by simp, ?_⟩
        simp only [pkGo]
        rw [if_neg (by omega), show i + 1 - i - 1 = 0 by omega, show i + 1 - i = 1 by omega]
        simp only [List.getD_cons_zero, List.take_succ_cons, List.take_zero, val, Nat.mul_zero, Nat.add_zero, Nat.mod_eq_of_lt hb]
        by_cases h0 : b = 0 ∧ 0 < i
        · rw [if_pos h0, if_pos ⟨h0.1, by omega⟩]
        · rw [if_neg h0, if_neg (by omega)]
      · rename_i hb
        obtain ⟨h1, h2, h3, h4⟩ := ih (i + 1) (n + (b - 128) * 128 ^ i) j l (fun d hd => hl d (by simp [hd])) h
        refine ⟨by omega, by omega, by simp; omega, ?_⟩
        simp only [pkGo]
        rw [if_pos (by omega), h4, show j - i - 1 = (j - (i + 1) - 1) + 1 by omega, show j - i = (j - (i + 1)) + 1 by omega]
        simp only [List.getD_cons_succ, List.take_succ_cons, val]
        split
        · rfl
        · congr 2
          rw [show b % 128 = b - 128 by omega, Nat.pow_succ, Nat.add_mul, Nat.mul_comm 128 (val _), Nat.mul_assoc, Nat.mul_comm 128 (128 ^ i)]
          omega
end K

/-- a reader in memory: bytes of its own -/
structure Qr (w : World) (q : Nat) (s : K.RS) : Prop where
  ex : ∃ a c, w.heap[q]? = some (.cells #[.slice a s.data.length c, .int .i64 (s.taken : Nat), .int .i64 (s.fault : Nat)] 44 (0, 0)) ∧ Rd w a s.data.length s.data ∧ (a = none → c = 0) ∧ s.data.length ≤ c ∧ (∀ b off, a = some ⟨b, off, none⟩ → b < q)
  tak : s.taken ≤ s.data.length
  top : s.data.length ≤ 16777216

theorem Qr.stay {w w' : World} {q : Nat} {s : K.RS} (h : Qr w q s) {S : Nat → Prop} (hk : Keep S w w') (hq : ∀ k, k ≤ q → ¬ S k) : Qr w' q s := by
  obtain ⟨a, c, h1, h2, h3, h4, h5⟩ := h.ex
  exact ⟨⟨a, c, hk.blk h1 (hq q (Nat.le_refl _)), h2.stay hk fun b off e => hq b (Nat.le_of_lt (h5 b off e)), h3, h4, h5⟩, h.tak, h.top⟩
theorem Qr.lt {w : World} {q : Nat} {s : K.RS} (h : Qr w q s) : q < w.heap.size := by
  obtain ⟨a, c, h1, _⟩ := h.ex
  exact (Array.getElem?_eq_some_iff.1 h1).1
theorem Qr.keep {w w' : World} {q : Nat} {s : K.RS} (h : Qr w q s) {S : Nat → Prop} (hk : Keep S w w') (hq : ∀ k, k < w.heap.size → ¬ S k) : Qr w' q s :=
  h.stay hk fun k hk => hq k (Nat.lt_of_le_of_lt hk h.lt)

theorem Qr.below {w w' : World} {q : Nat} {s : K.RS} (h : Qr w q s) (hb : Below w.heap.size w w') : Qr w' q s := h.keep (S := fun _ => False) (Keep.ofBelow hb (Nat.le_refl _)) fun _ _ h => h

theorem Qr.set2 {w : World} {q : Nat} {s : K.RS} (h : Qr w q s) (e : Nat) : Qr (w.setCell ⟨q, 2, none⟩ (.int .i64 (e : Nat))) q { s with fault := e } := by
  obtain ⟨a, c, hb, hr, h0, hc, hq⟩ := h.ex
  have hk : Keep (fun k => k = q) w (w.setCell ⟨q, 2, none⟩ (.int .i64 (e : Nat))) := Keep.setCell (S := fun k => k = q) w (p := ⟨q, 2, none⟩) rfl _
  refine ⟨⟨a, c, ?_, hr.stay hk (fun b off e h => Nat.ne_of_lt (hq b off e) h), h0, hc, hq⟩, h.tak, h.top⟩
  rw [heap_setCell_same w q 2 _ _ _ hb]; rfl

theorem Qr.set1 {w : World} {q : Nat} {s : K.RS} (h : Qr w q s) (e : Nat) (he : e ≤ s.data.length) : Qr (w.setCell ⟨q, 1, none⟩ (.int .i64 (e : Nat))) q { s with taken := e } := by
  obtain ⟨a, c, hb, hr, h0, hc, hq⟩ := h.ex
  have hk : Keep (fun k => k = q) w (w.setCell ⟨q, 1, none⟩ (.int .i64 (e : Nat))) := Keep.setCell (S := fun k => k = q) w (p := ⟨q, 1, none⟩) rfl _
  refine ⟨⟨a, c, ?_, hr.stay hk (fun b off e h => Nat.ne_of_lt (hq b off e) h), h0, hc, hq⟩, he, h.top⟩
  rw [heap_setCell_same w q 1 _ _ _ hb]; rfl

/-- what the walk wants to see of a reader -/
theorem Qr.see {w : World} {q : Nat} {s : K.RS} (h : Qr w q s) :
    ∃ a c, w.cell? ⟨q, 0, none⟩ = some (.slice a s.data.length c) ∧ w.cell? ⟨q, 1, none⟩ = some (.int .i64 (s.taken : Nat)) ∧ w.cell? ⟨q, 2, none⟩ = some (.int .i64 (s.fault : Nat)) ∧ (∀ i, w.frozen? ⟨q, i, none⟩ = false) := by
  obtain ⟨a, c, hb, hr, h0, hc, hq⟩ := h.ex
  exact ⟨a, c, cell0 hb, cell1 hb, cell2 hb, fun i => frozen_of_row w q i _ _ hb⟩


set_option maxRecDepth 10000 in
theorem group_any (a : Option Addr) (n c : Nat) (l : List Nat) (at_ : Nat) (w : World) (h : Rd w a n l) (ha : at_ ≤ n) (hn : n ≤ 16777216) :
    Calls Try.prog 102 #[.slice a n c, .int .i64 (at_ : Nat)] w fun en w' => en = .returned (.int .i64 (K.grpGo 9 0 (l.drop at_))) ∧ w' = w := by
  have HH := hide h
  have hl := h.1
  have HL := hide hl
  clear h hl
  generalize hg : K.grpGo 9 0 (l.drop at_) = g
  have HG := hide hg
  clear hg
  go_enter Try.func102, Try.ntmps102
  go_wp2
  go_loop [5] (fun i => ∃ k : Nat, k ≤ 9 ∧ i = .int .i64 (k : Nat) ∧ K.grpGo (9 - k) k (l.drop (at_ + k)) = g) (fun i => 9 - (intOf i).toNat)
  case atStart => exact ⟨0, Nat.zero_le _, rfl, HG.out⟩
  case round =>
    obtain ⟨k, hk, rfl, hg⟩ := hrel
    have HK := hide hg
    clear hg
    by_cases hlt : k < 9
    · by_cases hs : at_ + k < n
      · obtain ⟨b, off, rfl, hcell⟩ : ∃ b off, a = some ⟨b, off, none⟩ ∧ w.cell? ⟨b, off + (at_ + k), none⟩ = some (.int .u8 ((l.getD (at_ + k) 0 : Nat) : Int)) := by
          rcases HH.out.2.2.2 with h0 | ⟨b, off, rfl, hr⟩
          · omega
          · exact ⟨b, off, rfl, hr (at_ + k) hs⟩
        have hkl : at_ + k < l.length := by have := HL.out; omega
        have HDR : Hid (l.drop (at_ + k) = l.getD (at_ + k) 0 :: l.drop (at_ + (k + 1))) := by
          show _ = _
          rw [List.drop_eq_getElem_cons hkl, List.getD_eq_getElem?_getD, List.getElem?_eq_getElem hkl, Option.getD_some]
          rfl
        generalize l.getD (at_ + k) 0 = d at *
        have hst : K.grpGo (9 - k) k (d :: l.drop (at_ + (k + 1))) = if d < 128 then ((k + 1 : Nat) : Int) else K.grpGo (9 - (k + 1)) (k + 1) (l.drop (at_ + (k + 1))) := by
          rw [show 9 - k = (9 - (k + 1)) + 1 by omega]; rfl
        have HST := hide hst
        clear hst
        by_cases hd : d < 128
        · go_wp2
          go_ret
          refine ⟨ret_int ?_, rfl⟩
          rw [← HK.out, HDR.out, HST.out, if_pos hd]
          rfl
        · go_wp2
          refine ⟨⟨k + 1, by omega, by go_num, ?_⟩, by simp [intOf]; omega⟩
          rw [← HK.out, HDR.out, HST.out, if_neg hd]
      · go_wp2
        go_ret
        refine ⟨ret_int ?_, rfl⟩
        rw [← HK.out, List.drop_eq_nil_of_le (by have := HL.out; omega), show 9 - k = (9 - (k + 1)) + 1 by omega]
        rfl
    · obtain rfl : k = 9 := by omega
      go_wp2
      go_ret
      exact ⟨ret_int (by rw [← HK.out]; rfl), rfl⟩

/-- what TakeNumber tells: the number, the place behind it, the fault -/
def tn (least most : Int) (l : List Nat) (at_ : Nat) : Nat × Nat × Nat := match K.pk (l.drop at_) with
  | .error e => (0, at_, e)
  | .ok (n, z) => if (n : Int) < least ∨ most < (n : Int) then (0, at_, 22) else (n, at_ + z, 0)

theorem val_drop (l : List Nat) (j i : Nat) (h : i < j) (hj : j ≤ l.length) : K.val ((l.take j).drop i) = l.getD i 0 % 128 + 128 * K.val ((l.take j).drop (i + 1)) := by
  have hi : i < (l.take j).length := by simp; omega
  rw [List.drop_eq_getElem_cons hi]
  simp only [K.val]
  congr 2
  rw [List.getElem_take, List.getD_eq_getElem?_getD, List.getElem?_eq_getElem (by omega), Option.getD_some]

theorem val_bound (l : List Nat) (j i : Nat) : K.val ((l.take j).drop i) < 128 ^ (j - i) := by
  refine Nat.lt_of_lt_of_le (K.val_lt _) (Nat.pow_le_pow_right (by decide) ?_)
  simp; omega

set_option maxRecDepth 10000 in
set_option maxHeartbeats 1000000 in
theorem TakeNumber_any (a : Option Addr) (n c : Nat) (l : List Nat) (at_ : Nat) (least most : Int) (w : World) (h : Rd w a n l) (ha : at_ ≤ n) (hn : n ≤ 16777216) :
    Calls Try.prog 89 #[.slice a n c, .int .i64 (at_ : Nat), .int .i64 least, .int .i64 most] w fun en w' =>
      en = .returned (.tuple #[.int .i64 ((tn least most l at_).1 : Nat), .int .i64 ((tn least most l at_).2.1 : Nat), .int .i64 ((tn least most l at_).2.2 : Nat)]) ∧ w' = w := by
  have HH := hide h
  have hl := h.1
  have HL := hide hl
  have HBY := hide h.2.2.1
  clear h hl
  generalize ht : tn least most l at_ = t
  obtain ⟨t1, t2, t3⟩ := t
  have HT := hide ht
  clear ht
  generalize hg : K.grpGo 9 0 (l.drop at_) = g
  have HG := hide hg
  by_cases h1 : g = -1
  · subst h1
    have hp : K.pk (l.drop at_) = .error 21 := K.grp_short 9 0 0 _ hg
    obtain ⟨e1, e2, e3⟩ : 0 = t1 ∧ at_ = t2 ∧ 21 = t3 := by have := HT.out; unfold tn at this; rw [hp] at this; simpa using this
    subst e1; subst e2; subst e3
    clear hg hp
    go_enter Try.func89, Try.ntmps89
    go_wp2_with fail
    refine (group_any a n c l at_ _ HH.out ha hn).mono ?_
    rintro e w1 ⟨rfl, rfl⟩
    rw [HG.out]
    go_wp2
    exact ⟨rfl, .tuple #[.int .i64 0, .int .i64 (at_ : Nat), .int .i64 21], by simp [results, Try.results89], rfl, rfl⟩
  · by_cases h2 : g = -2
    · subst h2
      have hp : K.pk (l.drop at_) = .error 22 := K.grp_many 9 0 0 _ hg
      obtain ⟨e1, e2, e3⟩ : 0 = t1 ∧ at_ = t2 ∧ 22 = t3 := by have := HT.out; unfold tn at this; rw [hp] at this; simpa using this
      subst e1; subst e2; subst e3
      clear hg hp h1
      go_enter Try.func89, Try.ntmps89
      go_wp2_with fail
      refine (group_any a n c l at_ _ HH.out ha hn).mono ?_
      rintro e w1 ⟨rfl, rfl⟩
      rw [HG.out]
      go_wp2
      exact ⟨rfl, .tuple #[.int .i64 0, .int .i64 (at_ : Nat), .int .i64 22], by simp [results, Try.results89], rfl, rfl⟩
    · obtain ⟨j, rfl⟩ : ∃ j : Nat, g = (j : Int) := by
        rcases K.grp_cases 9 0 (l.drop at_) with h | h | ⟨j, h⟩
        · exact absurd (hg.symm.trans h) h1
        · exact absurd (hg.symm.trans h) h2
        · exact ⟨j, hg.symm.trans h⟩
      obtain ⟨hj0, hj9, hjl, hp⟩ := K.grp_ok 9 0 0 j (l.drop at_) (fun d hd => HBY.out d (List.mem_of_mem_drop hd)) hg
      have hp' : K.pk (l.drop at_) = if (l.drop at_).getD (j - 1) 0 = 0 ∧ 1 < j then .error 22 else .ok (K.val ((l.drop at_).take j), j) := by
        have := hp
        simp only [Nat.sub_zero, Nat.pow_zero, Nat.mul_one, Nat.zero_add] at this
        exact this
      have hjn : at_ + j ≤ n := by rw [List.length_drop] at hjl; have := HL.out; omega
      have hj9' : j ≤ 9 := by omega
      have HP := hide hp'
      clear hg hp h1 h2 hp' hj9 hjl
      obtain ⟨b, off, rfl, hrow⟩ : ∃ b off, a = some ⟨b, off, none⟩ ∧ ∀ i, i < n → w.cell? ⟨b, off + i, none⟩ = some (.int .u8 ((l.getD i 0 : Nat) : Int)) := by
        rcases HH.out.2.2.2 with h0 | ⟨b, off, rfl, hr⟩
        · omega
        · exact ⟨b, off, rfl, hr⟩
      have HROW := hide hrow
      obtain ⟨q, hq⟩ : ∃ q, at_ + j = q + 1 := ⟨at_ + j - 1, by omega⟩
      have hlast := hrow q (by omega)
      have HGD : Hid ((l.drop at_).getD (j - 1) 0 = l.getD q 0) := by show _ = _; rw [List.getD_eq_getElem?_getD, List.getD_eq_getElem?_getD, List.getElem?_drop, show at_ + (j - 1) = q by omega]
      have hsub : (at_ : Int) + (j : Int) - 1 = (q : Int) := by omega
      have hqn : q < n := by omega
      have HQ := hide hq
      have hd8 : l.getD q 0 < 256 := by
        rw [List.getD_eq_getElem?_getD, List.getElem?_eq_getElem (show q < l.length by have := HL.out; omega), Option.getD_some]
        exact HBY.out _ (List.getElem_mem _)
      clear hrow hq
      generalize l.getD q 0 = d at *
      by_cases hz : d = 0 ∧ 1 < j
      · obtain ⟨rfl, hj1⟩ := hz
        obtain ⟨e1, e2, e3⟩ : 0 = t1 ∧ at_ = t2 ∧ 22 = t3 := by
          have := HT.out
          unfold tn at this
          rw [HP.out, if_pos ⟨HGD.out, hj1⟩] at this
          simpa using this
        subst e1; subst e2; subst e3
        go_enter Try.func89, Try.ntmps89
        go_wp2_with fail
        refine (group_any _ n c l at_ _ HH.out ha hn).mono ?_
        rintro e w1 ⟨rfl, rfl⟩
        rw [HG.out]
        go_wp2
        exact ⟨rfl, .tuple #[.int .i64 0, .int .i64 (at_ : Nat), .int .i64 22], by simp [results, Try.results89], rfl, rfl⟩
      · have HTT : Hid ((if ((K.val ((l.drop at_).take j) : Nat) : Int) < least ∨ most < ((K.val ((l.drop at_).take j) : Nat) : Int) then (0, at_, 22) else (K.val ((l.drop at_).take j), at_ + j, 0)) = (t1, t2, t3)) := by
          show _ = _
          have := HT.out
          unfold tn at this
          rw [HP.out, if_neg (by rw [HGD.out]; exact hz)] at this
          exact this
        have HLL : Hid (j ≤ (l.drop at_).length) := by show _ ≤ _; rw [List.length_drop]; have := HL.out; omega
        have HGL : Hid (∀ i, (l.drop at_).getD i 0 = l.getD (at_ + i) 0) := by intro i; rw [List.getD_eq_getElem?_getD, List.getD_eq_getElem?_getD, List.getElem?_drop]
        by_cases hj1 : 1 < j
        · have hd0 : ((d : Int) == 0) = false := by rw [beq_eq_false_iff_ne]; omega
          clear hz
          go_enter Try.func89, Try.ntmps89
          go_wp2_with fail
          refine (group_any _ n c l at_ _ HH.out ha hn).mono ?_
          rintro e w1 ⟨rfl, rfl⟩
          rw [HG.out]
          go_wp2
          go_loop [12, 13] (fun x i => ∃ m : Nat, m ≤ j ∧ i = .int .i64 ((m : Int) - 1) ∧ x = .int .i64 (K.val (((l.drop at_).take j).drop m) : Nat)) (fun _ i => ((intOf i) + 1).toNat)
          case atStart =>
            refine ⟨j, Nat.le_refl _, rfl, ?_⟩
            rw [List.drop_eq_nil_of_le (by simp; omega)]
            rfl
          case round =>
            obtain ⟨m, hm, rfl, rfl⟩ := hrel
            cases m with
            | zero =>
              have hV : K.val (((l.drop at_).take j).drop 0) = K.val ((l.drop at_).take j) := by rw [List.drop_zero]
              rw [hV]
              have hbd : K.val ((l.drop at_).take j) < 9223372036854775808 := by
                have h1 := val_bound (l.drop at_) j 0
                rw [List.drop_zero] at h1
                exact Nat.lt_of_lt_of_le h1 (Nat.le_trans (Nat.pow_le_pow_right (by decide) (show j - 0 ≤ 9 by omega)) (by decide))
              have htt := HTT.out
              clear hV HTT
              generalize K.val ((l.drop at_).take j) = V at *
              by_cases hb1 : (V : Int) < least
              · rw [if_pos (.inl hb1)] at htt
                injection htt with e1 e2
                injection e2 with e2 e3
                have HT1 := hide e1
                have HT2 := hide e2
                have HT3 := hide e3
                clear e1 e2 e3
                go_wp2
                refine ⟨rfl, .tuple #[.int .i64 0, .int .i64 (at_ : Nat), .int .i64 22], by simp [results, Try.results89], ?_, rfl⟩
                rw [← HT1.out, ← HT2.out, ← HT3.out]
                rfl
              · by_cases hb2 : most < (V : Int)
                · rw [if_pos (.inr hb2)] at htt
                  injection htt with e1 e2
                  injection e2 with e2 e3
                  have HT1 := hide e1
                  have HT2 := hide e2
                  have HT3 := hide e3
                  clear e1 e2 e3
                  go_wp2
                  refine ⟨rfl, .tuple #[.int .i64 0, .int .i64 (at_ : Nat), .int .i64 22], by simp [results, Try.results89], ?_, rfl⟩
                  rw [← HT1.out, ← HT2.out, ← HT3.out]
                  rfl
                · rw [if_neg (by omega)] at htt
                  injection htt with e1 e2
                  injection e2 with e2 e3
                  have HT1 := hide e1
                  have HT2 := hide e2
                  have HT3 := hide e3
                  clear e1 e2 e3
                  go_wp2
                  refine ⟨rfl, .tuple #[.int .i64 (V : Nat), .int .i64 ((at_ : Int) + (j : Int)), .int .i64 0], by simp [results, Try.results89], ?_, rfl⟩
                  rw [← HT1.out, ← HT2.out, ← HT3.out]
                  rfl
            | succ m =>
              have hci := HROW.out (at_ + m) (by omega)
              have hvd := val_drop (l.drop at_) j m (by omega) HLL.out
              rw [HGL.out] at hvd
              have HVD := hide hvd
              have hbd : K.val (((l.drop at_).take j).drop (m + 1)) < 72057594037927936 := by
                have h1 := val_bound (l.drop at_) j (m + 1)
                exact Nat.lt_of_lt_of_le h1 (Nat.le_trans (Nat.pow_le_pow_right (by decide) (show j - (m + 1) ≤ 8 by omega)) (by decide))
              have hx8 : l.getD (at_ + m) 0 < 256 := by
                rw [List.getD_eq_getElem?_getD, List.getElem?_eq_getElem (show at_ + m < l.length by have := HL.out; omega), Option.getD_some]
                exact HBY.out _ (List.getElem_mem _)
              rw [show ((m + 1 : Nat) : Int) - 1 = (m : Int) by omega]
              clear hvd
              generalize K.val (((l.drop at_).take j).drop (m + 1)) = V at *
              generalize l.getD (at_ + m) 0 = y at *
              have htm : (y : Int).tmod 128 = (y : Int) % 128 := Int.tmod_eq_emod_of_nonneg (by omega)
              go_wp2
              refine ⟨⟨m, by omega, by go_num, ?_⟩, by simp [intOf]⟩
              rw [HVD.out]
              congr 1
              omega
        · clear hz
          go_enter Try.func89, Try.ntmps89
          go_wp2_with fail
          refine (group_any _ n c l at_ _ HH.out ha hn).mono ?_
          rintro e w1 ⟨rfl, rfl⟩
          rw [HG.out]
          go_wp2
          go_loop [12, 13] (fun x i => ∃ m : Nat, m ≤ j ∧ i = .int .i64 ((m : Int) - 1) ∧ x = .int .i64 (K.val (((l.drop at_).take j).drop m) : Nat)) (fun _ i => ((intOf i) + 1).toNat)
          case atStart =>
            refine ⟨j, Nat.le_refl _, rfl, ?_⟩
            rw [List.drop_eq_nil_of_le (by simp; omega)]
            rfl
          case round =>
            obtain ⟨m, hm, rfl, rfl⟩ := hrel
            cases m with
            | zero =>
              have hV : K.val (((l.drop at_).take j).drop 0) = K.val ((l.drop at_).take j) := by rw [List.drop_zero]
              rw [hV]
              have hbd : K.val ((l.drop at_).take j) < 9223372036854775808 := by
                have h1 := val_bound (l.drop at_) j 0
                rw [List.drop_zero] at h1
                exact Nat.lt_of_lt_of_le h1 (Nat.le_trans (Nat.pow_le_pow_right (by decide) (show j - 0 ≤ 9 by omega)) (by decide))
              have htt := HTT.out
              clear hV HTT
              generalize K.val ((l.drop at_).take j) = V at *
              by_cases hb1 : (V : Int) < least
              · rw [if_pos (.inl hb1)] at htt
                injection htt with e1 e2
                injection e2 with e2 e3
                have HT1 := hide e1
                have HT2 := hide e2
                have HT3 := hide e3
                clear e1 e2 e3
                go_wp2
                refine ⟨rfl, .tuple #[.int .i64 0, .int .i64 (at_ : Nat), .int .i64 22], by simp [results, Try.results89], ?_, rfl⟩
                rw [← HT1.out, ← HT2.out, ← HT3.out]
                rfl
              · by_cases hb2 : most < (V : Int)
                · rw [if_pos (.inr hb2)] at htt
                  injection htt with e1 e2
                  injection e2 with e2 e3
                  have HT1 := hide e1
                  have HT2 := hide e2
                  have HT3 := hide e3
                  clear e1 e2 e3
                  go_wp2
                  refine ⟨rfl, .tuple #[.int .i64 0, .int .i64 (at_ : Nat), .int .i64 22], by simp [results, Try.results89], ?_, rfl⟩
                  rw [← HT1.out, ← HT2.out, ← HT3.out]
                  rfl
                · rw [if_neg (by omega)] at htt
                  injection htt with e1 e2
                  injection e2 with e2 e3
                  have HT1 := hide e1
                  have HT2 := hide e2
                  have HT3 := hide e3
                  clear e1 e2 e3
                  go_wp2
                  refine ⟨rfl, .tuple #[.int .i64 (V : Nat), .int .i64 ((at_ : Int) + (j : Int)), .int .i64 0], by simp [results, Try.results89], ?_, rfl⟩
                  rw [← HT1.out, ← HT2.out, ← HT3.out]
                  rfl
            | succ m =>
              have hci := HROW.out (at_ + m) (by omega)
              have hvd := val_drop (l.drop at_) j m (by omega) HLL.out
              rw [HGL.out] at hvd
              have HVD := hide hvd
              have hbd : K.val (((l.drop at_).take j).drop (m + 1)) < 72057594037927936 := by
                have h1 := val_bound (l.drop at_) j (m + 1)
                exact Nat.lt_of_lt_of_le h1 (Nat.le_trans (Nat.pow_le_pow_right (by decide) (show j - (m + 1) ≤ 8 by omega)) (by decide))
              have hx8 : l.getD (at_ + m) 0 < 256 := by
                rw [List.getD_eq_getElem?_getD, List.getElem?_eq_getElem (show at_ + m < l.length by have := HL.out; omega), Option.getD_some]
                exact HBY.out _ (List.getElem_mem _)
              rw [show ((m + 1 : Nat) : Int) - 1 = (m : Int) by omega]
              clear hvd
              generalize K.val (((l.drop at_).take j).drop (m + 1)) = V at *
              generalize l.getD (at_ + m) 0 = y at *
              have htm : (y : Int).tmod 128 = (y : Int) % 128 := Int.tmod_eq_emod_of_nonneg (by omega)
              go_wp2
              refine ⟨⟨m, by omega, by go_num, ?_⟩, by simp [intOf]⟩
              rw [HVD.out]
              congr 1
              omega

end Go.Proofs.Yteaokgolnhdloaa
