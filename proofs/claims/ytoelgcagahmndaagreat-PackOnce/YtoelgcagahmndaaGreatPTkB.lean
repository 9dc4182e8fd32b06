import Derived.Test.YtoelgcagahmndaaGreatPRefW
import Derived.Deep.QuietTactic
import Derived.BigQuiet
import Derived.Test.YtoelgcagahmndaaGreatPWordR
import Derived.Test.YtoelgcagahmndaaGreatPFlag
import Derived.Test.YtoelgcagahmndaaGreatPTextR
import Derived.Deep.RegionHeld3
/- The document's answer: the reader. -/
namespace Go.Proofs.YtoelgcagahmndaaGreat
open Go.RowKit

namespace K
/-- how many bytes a number has -/
def grpGo : Nat → Nat → List Nat → Int
  | 0, _, _ => -2
  | _ + 1, _, [] => -1
  | k + 1, i, b :: l => if b < 128 then ((i + 1 : Nat) : Int) else grpGo k (i + 1) l
def val : List Nat → Nat
  | [] => 0
  | b :: l => b % 128 + 128 * val l
theorem val_lt (l : List Nat) : val l < 128 ^ l.length := by
  induction l with
  | nil => decide
  | cons b l ih => simp only [val, List.length_cons, Nat.pow_succ]; omega

theorem grp_short (k : Nat) : ∀ (i n : Nat) (l : List Nat), grpGo k i l = -1 → pkGo k i n l = .error 21 := by
  induction k with
  | zero => intro i n l h; simp [grpGo] at h
  | succ k ih =>
    intro i n l h
    cases l with
    | nil => rfl
    | cons b l =>
      simp only [grpGo] at h
      split at h
      · omega
      · simp only [pkGo]
        rw [if_pos (by omega)]
        exact ih _ _ _ h
theorem grp_many (k : Nat) : ∀ (i n : Nat) (l : List Nat), grpGo k i l = -2 → pkGo k i n l = .error 22 := by
  induction k with
  | zero => intro i n l h; rfl
  | succ k ih =>
    intro i n l h
    cases l with
    | nil => simp [grpGo] at h
    | cons b l =>
      simp only [grpGo] at h
      split at h
      · omega
      · simp only [pkGo]
        rw [if_pos (by omega)]
        exact ih _ _ _ h
theorem grp_cases (k : Nat) : ∀ (i : Nat) (l : List Nat), grpGo k i l = -1 ∨ grpGo k i l = -2 ∨ ∃ j : Nat, grpGo k i l = (j : Int) := by
  induction k with
  | zero => intro i l; exact .inr (.inl rfl)
  | succ k ih =>
    intro i l
    cases l with
    | nil => exact .inl rfl
    | cons b l =>
      simp only [grpGo]
      split
      · exact .inr (.inr ⟨_, rfl⟩)
      · exact ih _ _
theorem grp_ok (k : Nat) : ∀ (i n j : Nat) (l : List Nat), (∀ d ∈ l, d < 256) → grpGo k i l = (j : Int) → i < j ∧ j ≤ i + k ∧ j - i ≤ l.length ∧
    pkGo k i n l = (if l.getD (j - i - 1) 0 = 0 ∧ 1 < j then .error 22 else .ok (n + val (l.take (j - i)) * 128 ^ i, j)) := by
  induction k with
  | zero => intro i n j l _ h; simp [grpGo] at h
  | succ k ih =>
    intro i n j l hl h
    cases l with
    | nil => simp [grpGo] at h
    | cons b l =>
      have hb8 := hl b (by simp)
      simp only [grpGo] at h
      split at h
      · rename_i hb
        have hj : j = i + 1 := by omega
        subst hj
        refine ⟨by omega, by omega, by simp, ?_⟩
        simp only [pkGo]
        rw [if_neg (by omega), show i + 1 - i - 1 = 0 by omega, show i + 1 - i = 1 by omega]
        simp only [List.getD_cons_zero, List.take_succ_cons, List.take_zero, val, Nat.mul_zero, Nat.add_zero, Nat.mod_eq_of_lt hb]
        by_cases h0 : b = 0 ∧ 0 < i
        · rw [if_pos h0, if_pos ⟨h0.1, by omega⟩]
        · rw [if_neg h0, if_neg (by omega)]
      · rename_i hb
        obtain ⟨h1, h2, h3, h4⟩ := ih (i + 1) (n + (b - 128) * 128 ^ i) j l (fun d hd => hl d (by simp [hd])) h
        refine ⟨by omega, by omega, by simp; omega, ?_⟩
        simp only [pkGo]
        rw [if_pos (by omega), h4, show j - i - 1 = (j - (i + 1) - 1) + 1 by omega, show j - i = (j - (i + 1)) + 1 by omega]
        simp only [List.getD_cons_succ, List.take_succ_cons, val]
        split
        · rfl
        · congr 2
          rw [show b % 128 = b - 128 by omega, Nat.pow_succ, Nat.add_mul, Nat.mul_comm 128 (val _), Nat.mul_assoc, Nat.mul_comm 128 (128 ^ i)]
          omega
end K

/-- a reader in memory: bytes of its own -/
structure Qr (w : World) (q : Nat) (s : K.RS) : Prop where
  ex : ∃ a c, w.heap[q]? = some (.cells #[.slice a s.data.length c, .int .i64 (s.taken : Nat), .int .i64 (s.fault : Nat)] 59 (0, 0)) ∧ Rd w a s.data.length s.data ∧ (a = none → c = 0) ∧ s.data.length ≤ c ∧ (∀ b off, a = some ⟨b, off, none⟩ → b < q)
  tak : s.taken ≤ s.data.length
  top : s.data.length ≤ 16777216

theorem Qr.stay {w w' : World} {q : Nat} {s : K.RS} (h : Qr w q s) {S : Nat → Prop} (hk : Keep S w w') (hq : ∀ k, k ≤ q → ¬ S k) : Qr w' q s := by
  obtain ⟨a, c, h1, h2, h3, h4, h5⟩ := h.ex
  exact ⟨⟨a, c, hk.blk h1 (hq q (Nat.le_refl _)), h2.stay hk fun b off e => hq b (Nat.le_of_lt (h5 b off e)), h3, h4, h5⟩, h.tak, h.top⟩
theorem Qr.lt {w : World} {q : Nat} {s : K.RS} (h : Qr w q s) : q < w.heap.size := by
  obtain ⟨a, c, h1, _⟩ := h.ex
  exact (Array.getElem?_eq_some_iff.1 h1).1
theorem Qr.keep {w w' : World} {q : Nat} {s : K.RS} (h : Qr w q s) {S : Nat → Prop} (hk : Keep S w w') (hq : ∀ k, k < w.heap.size → ¬ S k) : Qr w' q s :=
  h.stay hk fun k hk => hq k (Nat.lt_of_le_of_lt hk h.lt)

theorem Qr.below {w w' : World} {q : Nat} {s : K.RS} (h : Qr w q s) (hb : Below w.heap.size w w') : Qr w' q s := h.keep (S := fun _ => False) (Keep.ofBelow hb (Nat.le_refl _)) fun _ _ h => h

theorem Qr.set2 {w : World} {q : Nat} {s : K.RS} (h : Qr w q s) (e : Nat) : Qr (w.setCell ⟨q, 2, none⟩ (.int .i64 (e : Nat))) q { s with fault := e } := by
  obtain ⟨a, c, hb, hr, h0, hc, hq⟩ := h.ex
  have hk : Keep (fun k => k = q) w (w.setCell ⟨q, 2, none⟩ (.int .i64 (e : Nat))) := Keep.setCell (S := fun k => k = q) w (p := ⟨q, 2, none⟩) rfl _
  refine ⟨⟨a, c, ?_, hr.stay hk (fun b off e h => Nat.ne_of_lt (hq b off e) h), h0, hc, hq⟩, h.tak, h.top⟩
  rw [heap_setCell_same w q 2 _ _ _ hb]; rfl

theorem Qr.set1 {w : World} {q : Nat} {s : K.RS} (h : Qr w q s) (e : Nat) (he : e ≤ s.data.length) : Qr (w.setCell ⟨q, 1, none⟩ (.int .i64 (e : Nat))) q { s with taken := e } := by
  obtain ⟨a, c, hb, hr, h0, hc, hq⟩ := h.ex
  have hk : Keep (fun k => k = q) w (w.setCell ⟨q, 1, none⟩ (.int .i64 (e : Nat))) := Keep.setCell (S := fun k => k = q) w (p := ⟨q, 1, none⟩) rfl _
  refine ⟨⟨a, c, ?_, hr.stay hk (fun b off e h => Nat.ne_of_lt (hq b off e) h), h0, hc, hq⟩, he, h.top⟩
  rw [heap_setCell_same w q 1 _ _ _ hb]; rfl

/-- what the walk wants to see of a reader -/
theorem Qr.see {w : World} {q : Nat} {s : K.RS} (h : Qr w q s) :
    ∃ a c, w.cell? ⟨q, 0, none⟩ = some (.slice a s.data.length c) ∧ w.cell? ⟨q, 1, none⟩ = some (.int .i64 (s.taken : Nat)) ∧ w.cell? ⟨q, 2, none⟩ = some (.int .i64 (s.fault : Nat)) ∧ (∀ i, w.frozen? ⟨q, i, none⟩ = false) := by
  obtain ⟨a, c, hb, hr, h0, hc, hq⟩ := h.ex
  exact ⟨a, c, cell0 hb, cell1 hb, cell2 hb, fun i => frozen_of_row w q i _ _ hb⟩


set_option maxRecDepth 10000 in
theorem group_any (a : Option Addr) (n c : Nat) (l : List Nat) (at_ : Nat) (w : World) (h : Rd w a n l) (ha : at_ ≤ n) (hn : n ≤ 16777216) :
    Calls Tryz.prog 176 #[.slice a n c, .int .i64 (at_ : Nat)] w fun en w' => en = .returned (.int .i64 (K.grpGo 9 0 (l.drop at_))) ∧ w' = w := by
  have HH := hide h
  have hl := h.1
  have HL := hide hl
  clear h hl
  generalize hg : K.grpGo 9 0 (l.drop at_) = g
  have HG := hide hg
  clear hg
  go_enter Tryz.func176, Tryz.ntmps176
  go_wp2
  go_loop [5] (fun i => ∃ k : Nat, k ≤ 9 ∧ i = .int .i64 (k : Nat) ∧ K.grpGo (9 - k) k (l.drop (at_ + k)) = g) (fun i => 9 - (intOf i).toNat)
  case atStart => exact ⟨0, Nat.zero_le _, rfl, HG.out⟩
  case round =>
    obtain ⟨k, hk, rfl, hg⟩ := hrel
    have HK := hide hg
    clear hg
    by_cases hlt : k < 9
    · by_cases hs : at_ + k < n
      · obtain ⟨b, off, rfl, hcell⟩ : ∃ b off, a = some ⟨b, off, none⟩ ∧ w.cell? ⟨b, off + (at_ + k), none⟩ = some (.int .u8 ((l.getD (at_ + k) 0 : Nat) : Int)) := by
          rcases HH.out.2.2.2 with h0 | ⟨b, off, rfl, hr⟩
          · omega
          · exact ⟨b, off, rfl, hr (at_ + k) hs⟩
        have hkl : at_ + k < l.length := by have := HL.out; omega
        have HDR : Hid (l.drop (at_ + k) = l.getD (at_ + k) 0 :: l.drop (at_ + (k + 1))) := by
          show _ = _
          rw [List.drop_eq_getElem_cons hkl, List.getD_eq_getElem?_getD, List.getElem?_eq_getElem hkl, Option.getD_some]
          rfl
        generalize l.getD (at_ + k) 0 = d at *
        have hst : K.grpGo (9 - k) k (d :: l.drop (at_ + (k + 1))) = if d < 128 then ((k + 1 : Nat) : Int) else K.grpGo (9 - (k + 1)) (k + 1) (l.drop (at_ + (k + 1))) := by
          rw [show 9 - k = (9 - (k + 1)) + 1 by omega]; rfl
        have HST := hide hst
        clear hst
        by_cases hd : d < 128
        · go_wp2
          go_ret
          refine ⟨ret_int ?_, rfl⟩
          rw [← HK.out, HDR.out, HST.out, if_pos hd]
          rfl
        · go_wp2
          refine ⟨⟨k + 1, by omega, by go_num, ?_⟩, by simp [intOf]; omega⟩
          rw [← HK.out, HDR.out, HST.out, if_neg hd]
      · go_wp2
        go_ret
        refine ⟨ret_int ?_, rfl⟩
        rw [← HK.out, List.drop_eq_nil_of_le (by have := HL.out; omega), show 9 - k = (9 - (k + 1)) + 1 by omega]
        rfl
    · obtain rfl : k = 9 := by omega
      go_wp2
      go_ret
      exact ⟨ret_int (by rw [← HK.out]; rfl), rfl⟩

/-- what TakeNumber tells: the number, the place behind it, the fault -/
def tn (least most : Int) (l : List Nat) (at_ : Nat) : Nat × Nat × Nat := match K.pk (l.drop at_) with
  | .error e => (0, at_, e)
  | .ok (n, z) => if (n : Int) < least ∨ most < (n : Int) then (0, at_, 22) else (n, at_ + z, 0)

theorem val_drop (l : List Nat) (j i : Nat) (h : i < j) (hj : j ≤ l.length) : K.val ((l.take j).drop i) = l.getD i 0 % 128 + 128 * K.val ((l.take j).drop (i + 1)) := by
  have hi : i < (l.take j).length := by simp; omega
  rw [List.drop_eq_getElem_cons hi]
  simp only [K.val]
  congr 2
  rw [List.getElem_take, List.getD_eq_getElem?_getD, List.getElem?_eq_getElem (by omega), Option.getD_some]

theorem val_bound (l : List Nat) (j i : Nat) : K.val ((l.take j).drop i) < 128 ^ (j - i) := by
  refine Nat.lt_of_lt_of_le (K.val_lt _) (Nat.pow_le_pow_right (by decide) ?_)
  simp; omega

set_option maxRecDepth 10000 in
set_option maxHeartbeats 1000000 in
theorem TakeNumber_any (a : Option Addr) (n c : Nat) (l : List Nat) (at_ : Nat) (least most : Int) (w : World) (h : Rd w a n l) (ha : at_ ≤ n) (hn : n ≤ 16777216) :
    Calls Tryz.prog 127 #[.slice a n c, .int .i64 (at_ : Nat), .int .i64 least, .int .i64 most] w fun en w' =>
      en = .returned (.tuple #[.int .i64 ((tn least most l at_).1 : Nat), .int .i64 ((tn least most l at_).2.1 : Nat), .int .i64 ((tn least most l at_).2.2 : Nat)]) ∧ w' = w := by
  have HH := hide h
  have hl := h.1
  have HL := hide hl
  have HBY := hide h.2.2.1
  clear h hl
  generalize ht : tn least most l at_ = t
  obtain ⟨t1, t2, t3⟩ := t
  have HT := hide ht
  clear ht
  generalize hg : K.grpGo 9 0 (l.drop at_) = g
  have HG := hide hg
  by_cases h1 : g = -1
  · subst h1
    have hp : K.pk (l.drop at_) = .error 21 := K.grp_short 9 0 0 _ hg
    obtain ⟨e1, e2, e3⟩ : 0 = t1 ∧ at_ = t2 ∧ 21 = t3 := by have := HT.out; unfold tn at this; rw [hp] at this; simpa using this
    subst e1; subst e2; subst e3
    clear hg hp
    go_enter Tryz.func127, Tryz.ntmps127
    go_wp2_with fail
    refine (group_any a n c l at_ _ HH.out ha hn).mono ?_
    rintro e w1 ⟨rfl, rfl⟩
    rw [HG.out]
    go_wp2
    exact ⟨rfl, .tuple #[.int .i64 0, .int .i64 (at_ : Nat), .int .i64 21], by simp [results, Tryz.results127], rfl, rfl⟩
  · by_cases h2 : g = -2
    · subst h2
      have hp : K.pk (l.drop at_) = .error 22 := K.grp_many 9 0 0 _ hg
      obtain ⟨e1, e2, e3⟩ : 0 = t1 ∧ at_ = t2 ∧ 22 = t3 := by have := HT.out; unfold tn at this; rw [hp] at this; simpa using this
      subst e1; subst e2; subst e3
      clear hg hp h1
      go_enter Tryz.func127, Tryz.ntmps127
      go_wp2_with fail
      refine (group_any a n c l at_ _ HH.out ha hn).mono ?_
      rintro e w1 ⟨rfl, rfl⟩
      rw [HG.out]
      go_wp2
      exact ⟨rfl, .tuple #[.int .i64 0, .int .i64 (at_ : Nat), .int .i64 22], by simp [results, Tryz.results127], rfl, rfl⟩
    · obtain ⟨j, rfl⟩ : ∃ j : Nat, g = (j : Int) := by
        rcases K.grp_cases 9 0 (l.drop at_) with h | h | ⟨j, h⟩
        · exact absurd (hg.symm.trans h) h1
        · exact absurd (hg.symm.trans h) h2
        · exact ⟨j, hg.symm.trans h⟩
      obtain ⟨hj0, hj9, hjl, hp⟩ := K.grp_ok 9 0 0 j (l.drop at_) (fun d hd => HBY.out d (List.mem_of_mem_drop hd)) hg
      have hp' : K.pk (l.drop at_) = if (l.drop at_).getD (j - 1) 0 = 0 ∧ 1 < j then .error 22 else .ok (K.val ((l.drop at_).take j), j) := by
        have := hp
        simp only [Nat.sub_zero, Nat.pow_zero, Nat.mul_one, Nat.zero_add] at this
        exact this
      have hjn : at_ + j ≤ n := by rw [List.length_drop] at hjl; have := HL.out; omega
      have hj9' : j ≤ 9 := by omega
      have HP := hide hp'
      clear hg hp h1 h2 hp' hj9 hjl
      obtain ⟨b, off, rfl, hrow⟩ : ∃ b off, a = some ⟨b, off, none⟩ ∧ ∀ i, i < n → w.cell? ⟨b, off + i, none⟩ = some (.int .u8 ((l.getD i 0 : Nat) : Int)) := by
        rcases HH.out.2.2.2 with h0 | ⟨b, off, rfl, hr⟩
        · omega
        · exact ⟨b, off, rfl, hr⟩
      have HROW := hide hrow
      obtain ⟨q, hq⟩ : ∃ q, at_ + j = q + 1 := ⟨at_ + j - 1, by omega⟩
      have hlast := hrow q (by omega)
      have HGD : Hid ((l.drop at_).getD (j - 1) 0 = l.getD q 0) := by show _ = _; rw [List.getD_eq_getElem?_getD, List.getD_eq_getElem?_getD, List.getElem?_drop, show at_ + (j - 1) = q by omega]
      have hsub : (at_ : Int) + (j : Int) - 1 = (q : Int) := by omega
      have hqn : q < n := by omega
      have HQ := hide hq
      have hd8 : l.getD q 0 < 256 := by
        rw [List.getD_eq_getElem?_getD, List.getElem?_eq_getElem (show q < l.length by have := HL.out; omega), Option.getD_some]
        exact HBY.out _ (List.getElem_mem _)
      clear hrow hq
      generalize l.getD q 0 = d at *
      by_cases hz : d = 0 ∧ 1 < j
      · obtain ⟨rfl, hj1⟩ := hz
        obtain ⟨e1, e2, e3⟩ : 0 = t1 ∧ at_ = t2 ∧ 22 = t3 := by
          have := HT.out
          unfold tn at this
          rw [HP.out, if_pos ⟨HGD.out, hj1⟩] at this
          simpa using this
        subst e1; subst e2; subst e3
        go_enter Tryz.func127, Tryz.ntmps127
        go_wp2_with fail
        refine (group_any _ n c l at_ _ HH.out ha hn).mono ?_
        rintro e w1 ⟨rfl, rfl⟩
        rw [HG.out]
        go_wp2
        exact ⟨rfl, .tuple #[.int .i64 0, .int .i64 (at_ : Nat), .int .i64 22], by simp [results, Tryz.results127], rfl, rfl⟩
      · have HTT : Hid ((if ((K.val ((l.drop at_).take j) : Nat) : Int) < least ∨ most < ((K.val ((l.drop at_).take j) : Nat) : Int) then (0, at_, 22) else (K.val ((l.drop at_).take j), at_ + j, 0)) = (t1, t2, t3)) := by
          show _ = _
          have := HT.out
          unfold tn at this
          rw [HP.out, if_neg (by rw [HGD.out]; exact hz)] at this
          exact this
        have HLL : Hid (j ≤ (l.drop at_).length) := by show _ ≤ _; rw [List.length_drop]; have := HL.out; omega
        have HGL : Hid (∀ i, (l.drop at_).getD i 0 = l.getD (at_ + i) 0) := by intro i; rw [List.getD_eq_getElem?_getD, List.getD_eq_getElem?_getD, List.getElem?_drop]
        by_cases hj1 : 1 < j
        · have hd0 : ((d : Int) == 0) = false := by rw [beq_eq_false_iff_ne]; omega
          clear hz
          go_enter Tryz.func127, Tryz.ntmps127
          go_wp2_with fail
          refine (group_any _ n c l at_ _ HH.out ha hn).mono ?_
          rintro e w1 ⟨rfl, rfl⟩
          rw [HG.out]
          go_wp2
          go_loop [12, 13] (fun x i => ∃ m : Nat, m ≤ j ∧ i = .int .i64 ((m : Int) - 1) ∧ x = .int .i64 (K.val (((l.drop at_).take j).drop m) : Nat)) (fun _ i => ((intOf i) + 1).toNat)
          case atStart =>
            refine ⟨j, Nat.le_refl _, rfl, ?_⟩
            rw [List.drop_eq_nil_of_le (by simp; omega)]
            rfl
          case round =>
            obtain ⟨m, hm, rfl, rfl⟩ := hrel
            cases m with
            | zero =>
              have hV : K.val (((l.drop at_).take j).drop 0) = K.val ((l.drop at_).take j) := by rw [List.drop_zero]
              rw [hV]
              have hbd : K.val ((l.drop at_).take j) < 9223372036854775808 := by
                have h1 := val_bound (l.drop at_) j 0
                rw [List.drop_zero] at h1
                exact Nat.lt_of_lt_of_le h1 (Nat.le_trans (Nat.pow_le_pow_right (by decide) (show j - 0 ≤ 9 by omega)) (by decide))
              have htt := HTT.out
              clear hV HTT
              generalize K.val ((l.drop at_).take j) = V at *
              by_cases hb1 : (V : Int) < least
              · rw [if_pos (.inl hb1)] at htt
                injection htt with e1 e2
                injection e2 with e2 e3
                have HT1 := hide e1
                have HT2 := hide e2
                have HT3 := hide e3
                clear e1 e2 e3
                go_wp2
                refine ⟨rfl, .tuple #[.int .i64 0, .int .i64 (at_ : Nat), .int .i64 22], by simp [results, Tryz.results127], ?_, rfl⟩
                rw [← HT1.out, ← HT2.out, ← HT3.out]
                rfl
              · by_cases hb2 : most < (V : Int)
                · rw [if_pos (.inr hb2)] at htt
                  injection htt with e1 e2
                  injection e2 with e2 e3
                  have HT1 := hide e1
                  have HT2 := hide e2
                  have HT3 := hide e3
                  clear e1 e2 e3
                  go_wp2
                  refine ⟨rfl, .tuple #[.int .i64 0, .int .i64 (at_ : Nat), .int .i64 22], by simp [results, Tryz.results127], ?_, rfl⟩
                  rw [← HT1.out, ← HT2.out, ← HT3.out]
                  rfl
                · rw [if_neg (by omega)] at htt
                  injection htt with e1 e2
                  injection e2 with e2 e3
                  have HT1 := hide e1
                  have HT2 := hide e2
                  have HT3 := hide e3
                  clear e1 e2 e3
                  go_wp2
                  refine ⟨rfl, .tuple #[.int .i64 (V : Nat), .int .i64 ((at_ : Int) + (j : Int)), .int .i64 0], by simp [results, Tryz.results127], ?_, rfl⟩
                  rw [← HT1.out, ← HT2.out, ← HT3.out]
                  rfl
            | succ m =>
              have hci := HROW.out (at_ + m) (by omega)
              have hvd := val_drop (l.drop at_) j m (by omega) HLL.out
              rw [HGL.out] at hvd
              have HVD := hide hvd
              have hbd : K.val (((l.drop at_).take j).drop (m + 1)) < 72057594037927936 := by
                have h1 := val_bound (l.drop at_) j (m + 1)
                exact Nat.lt_of_lt_of_le h1 (Nat.le_trans (Nat.pow_le_pow_right (by decide) (show j - (m + 1) ≤ 8 by omega)) (by decide))
              have hx8 : l.getD (at_ + m) 0 < 256 := by
                rw [List.getD_eq_getElem?_getD, List.getElem?_eq_getElem (show at_ + m < l.length by have := HL.out; omega), Option.getD_some]
                exact HBY.out _ (List.getElem_mem _)
              rw [show ((m + 1 : Nat) : Int) - 1 = (m : Int) by omega]
              clear hvd
              generalize K.val (((l.drop at_).take j).drop (m + 1)) = V at *
              generalize l.getD (at_ + m) 0 = y at *
              have htm : (y : Int).tmod 128 = (y : Int) % 128 := Int.tmod_eq_emod_of_nonneg (by omega)
              go_wp2
              refine ⟨⟨m, by omega, by go_num, ?_⟩, by simp [intOf]⟩
              rw [HVD.out]
              congr 1
              omega
        · clear hz
          go_enter Tryz.func127, Tryz.ntmps127
          go_wp2_with fail
          refine (group_any _ n c l at_ _ HH.out ha hn).mono ?_
          rintro e w1 ⟨rfl, rfl⟩
          rw [HG.out]
          go_wp2
          go_loop [12, 13] (fun x i => ∃ m : Nat, m ≤ j ∧ i = .int .i64 ((m : Int) - 1) ∧ x = .int .i64 (K.val (((l.drop at_).take j).drop m) : Nat)) (fun _ i => ((intOf i) + 1).toNat)
          case atStart =>
            refine ⟨j, Nat.le_refl _, rfl, ?_⟩
            rw [List.drop_eq_nil_of_le (by simp; omega)]
            rfl
          case round =>
            obtain ⟨m, hm, rfl, rfl⟩ := hrel
            cases m with
            | zero =>
              have hV : K.val (((l.drop at_).take j).drop 0) = K.val ((l.drop at_).take j) := by rw [List.drop_zero]
              rw [hV]
              have hbd : K.val ((l.drop at_).take j) < 9223372036854775808 := by
                have h1 := val_bound (l.drop at_) j 0
                rw [List.drop_zero] at h1
                exact Nat.lt_of_lt_of_le h1 (Nat.le_trans (Nat.pow_le_pow_right (by decide) (show j - 0 ≤ 9 by omega)) (by decide))
              have htt := HTT.out
              clear hV HTT
              generalize K.val ((l.drop at_).take j) = V at *
              by_cases hb1 : (V : Int) < least
              · rw [if_pos (.inl hb1)] at htt
                injection htt with e1 e2
                injection e2 with e2 e3
                have HT1 := hide e1
                have HT2 := hide e2
                have HT3 := hide e3
                clear e1 e2 e3
                go_wp2
                refine ⟨rfl, .tuple #[.int .i64 0, .int .i64 (at_ : Nat), .int .i64 22], by simp [results, Tryz.results127], ?_, rfl⟩
                rw [← HT1.out, ← HT2.out, ← HT3.out]
                rfl
              · by_cases hb2 : most < (V : Int)
                · rw [if_pos (.inr hb2)] at htt
                  injection htt with e1 e2
                  injection e2 with e2 e3
                  have HT1 := hide e1
                  have HT2 := hide e2
                  have HT3 := hide e3
                  clear e1 e2 e3
                  go_wp2
                  refine ⟨rfl, .tuple #[.int .i64 0, .int .i64 (at_ : Nat), .int .i64 22], by simp [results, Tryz.results127], ?_, rfl⟩
                  rw [← HT1.out, ← HT2.out, ← HT3.out]
                  rfl
                · rw [if_neg (by omega)] at htt
                  injection htt with e1 e2
                  injection e2 with e2 e3
                  have HT1 := hide e1
                  have HT2 := hide e2
                  have HT3 := hide e3
                  clear e1 e2 e3
                  go_wp2
                  refine ⟨rfl, .tuple #[.int .i64 (V : Nat), .int .i64 ((at_ : Int) + (j : Int)), .int .i64 0], by simp [results, Tryz.results127], ?_, rfl⟩
                  rw [← HT1.out, ← HT2.out, ← HT3.out]
                  rfl
            | succ m =>
              have hci := HROW.out (at_ + m) (by omega)
              have hvd := val_drop (l.drop at_) j m (by omega) HLL.out
              rw [HGL.out] at hvd
              have HVD := hide hvd
              have hbd : K.val (((l.drop at_).take j).drop (m + 1)) < 72057594037927936 := by
                have h1 := val_bound (l.drop at_) j (m + 1)
                exact Nat.lt_of_lt_of_le h1 (Nat.le_trans (Nat.pow_le_pow_right (by decide) (show j - (m + 1) ≤ 8 by omega)) (by decide))
              have hx8 : l.getD (at_ + m) 0 < 256 := by
                rw [List.getD_eq_getElem?_getD, List.getElem?_eq_getElem (show at_ + m < l.length by have := HL.out; omega), Option.getD_some]
                exact HBY.out _ (List.getElem_mem _)
              rw [show ((m + 1 : Nat) : Int) - 1 = (m : Int) by omega]
              clear hvd
              generalize K.val (((l.drop at_).take j).drop (m + 1)) = V at *
              generalize l.getD (at_ + m) 0 = y at *
              have htm : (y : Int).tmod 128 = (y : Int) % 128 := Int.tmod_eq_emod_of_nonneg (by omega)
              go_wp2
              refine ⟨⟨m, by omega, by go_num, ?_⟩, by simp [intOf]⟩
              rw [HVD.out]
              congr 1
              omega

end Go.Proofs.YtoelgcagahmndaaGreat

/- The document's answer: NewReader, Number, End of the reader. -/
namespace Go.Proofs.YtoelgcagahmndaaGreat
open Go.RowKit

theorem RNewReader_any (a : Option Addr) (n c : Nat) (l : List Nat) (w : World) (h : Rd w a n l) (h0 : a = none → c = 0) :
    Calls Tryz.prog 22 #[.slice a n c] w fun en w' => ∃ q, en = .returned (.pointer (some ⟨q, 0, none⟩)) ∧ Qr w' q (newR l) ∧ w.heap.size ≤ q ∧ Below w.heap.size w w' := by
  have hba := (Below.refl w.heap.size w).alloc (Nat.le_refl _) (.cells #[] 5)
  have HR := hide (h.keep hba)
  have H0 := hide h0
  have hl := h.1
  have hn := h.2.1
  have HL := hide hl
  have HBY := hide h.2.2.1
  have HOE := hide (ownsRow_empty w)
  clear h h0 hl hba
  unfold newR
  by_cases hlt : n ≤ 16777216
  · rw [if_pos (by have := HL.out; omega)]
    go_enter Tryz.func22, Tryz.ntmps22
    go_wp2_with (at_builtin; refine wpList_append_rd rfl _ _ rfl _ [] w.heap.size rfl HOE.out a n c l rfl HR.out H0.out (by show 0 + _ ≤ _; omega) (by simp) ?_; intro v' w2 ho2 hg hnb; rw [List.nil_append] at ho2; obtain ⟨a', c', hv', hr, h0', hc', _⟩ := ownsRow_rd ho2 HBY.out (by have := HL.out; omega); subst hv'; have HO2 := hide ho2; have HG := hide hg; have HR' := hide hr; have H0' := hide h0'; have HC := hide hc'; clear ho2 hg hnb hr h0' hc')
    go_ret
    have hb := below_grown (Below.refl _ _) _ HG.out fun k hk => (HOE.out.lt k hk).1
    refine ⟨w2.heap.size, rfl, ⟨⟨a', c', heap_alloc_new w2 _, HR'.out.keep ((Below.refl _ _).alloc (Nat.le_refl _) _), H0'.out, HC.out, ?_⟩, Nat.zero_le _, by have := HL.out; show l.length ≤ _; omega⟩, hb.size, hb.alloc hb.size _⟩
    intro b off e
    exact (HO2.out.lt b (by rw [e]; rfl)).2
  · rw [if_neg (by have := HL.out; omega)]
    go_enter Tryz.func22, Tryz.ntmps22
    go_wp2
    go_ret
    exact ⟨w.heap.size, rfl, ⟨⟨none, 0, heap_alloc_new w _, ⟨rfl, by decide, (fun d hd => by cases hd), .inl rfl⟩, (fun _ => rfl), Nat.le_refl _, (fun b off e => by cases e)⟩, Nat.zero_le _, Nat.zero_le _⟩, Nat.le_refl _, (Below.refl _ _).alloc (Nat.le_refl _) _⟩

theorem went_any (q : Nat) (s : K.RS) (t e : Nat) (ht : t ≤ s.data.length) (w : World) (h : Qr w q s) :
    Calls Tryz.prog 69 #[.pointer (some ⟨q, 0, none⟩), .int .i64 (t : Nat), .int .i64 (e : Nat)] w fun en w' => en = .returned (.tuple #[]) ∧ Qr w' q { s with taken := t, fault := e } ∧ Keep (fun k => k = q) w w' := by
  obtain ⟨a, c, h0, h1, h2, hf⟩ := h.see
  have hf1 := hf 1
  have hf2 := hf 2
  have HH := hide h
  clear h hf
  go_enter Tryz.func69, Tryz.ntmps69
  go_wp2
  go_end0
  exact ⟨rfl, (HH.out.set1 t ht).set2 e, (Keep.setCell (S := fun k => k = q) w (p := ⟨q, 1, none⟩) rfl _).more (Keep.setCell (S := fun k => k = q) _ (p := ⟨q, 2, none⟩) rfl _)⟩

theorem Qr.byt {w : World} {q : Nat} {s : K.RS} (h : Qr w q s) : ∀ d ∈ rest s, d < 256 := by
  obtain ⟨a, c, hb, hr, _⟩ := h.ex
  exact fun d hd => hr.2.2.1 d (List.mem_of_mem_drop hd)

theorem tn_num {w : World} {q : Nat} {s : K.RS} {least most : Int} (h : Qr w q s) (hz : s.fault = 0) :
    numR least most s = { s with taken := (tn least most s.data s.taken).2.1, fault := (tn least most s.data s.taken).2.2 } ∧ ((numR least most s).fault = 0 → (tn least most s.data s.taken).1 = numV s) ∧ (tn least most s.data s.taken).2.1 ≤ s.data.length := by
  have hb := h.byt
  have ht := h.tak
  have hl := rest_len s
  unfold numR numV tn
  change _ ∧ _ ∧ _
  have hrw : s.data.drop s.taken = rest s := rfl
  rw [hrw]
  cases hp : K.pk (rest s) with
  | error e =>
    have he := pk_err hp
    refine ⟨?_, ?_, ht⟩
    · show s.fail e = _
      unfold K.RS.fail
      rw [if_pos hz]
    · intro h0
      exact absurd h0 (fail_ne hz (by omega))
  | ok r =>
    obtain ⟨n, z⟩ := r
    obtain ⟨k1, k2, k3, _, _⟩ := K.pk_ok hb hp
    by_cases hbd : (n : Int) < least ∨ most < (n : Int)
    · simp only [if_pos hbd]
      refine ⟨?_, ?_, ht⟩
      · unfold K.RS.fail
        rw [if_pos hz]
      · intro h0
        exact absurd h0 (fail_ne hz (by decide))
    · simp only [if_neg hbd]
      refine ⟨?_, fun _ => trivial, by omega⟩
      unfold K.RS.go
      rw [← hz]

end Go.Proofs.YtoelgcagahmndaaGreat

/- The document's writer: Number. -/
namespace Go.Proofs.YtoelgcagahmndaaGreat
open Go.RowKit

theorem RNumber_any (S : Nat → Prop) (w0 : World) (p : Nat) (least most x : Int) (hx : x ≤ 9223372036854775807) (s : K.WS) (w : World) (h : VAt S w0 p s w) :
    Calls Tryz.prog 63 #[.pointer (some ⟨p, 0, none⟩), .int .i64 least, .int .i64 most, .int .i64 x] w fun en w' => en = .returned (.tuple #[]) ∧ VAt S w0 p (putW (numW least most x) s) w' := by
  have HH := hide h
  clear h
  generalize hs' : putW (numW least most x) s = s'
  have HS := hide hs'
  clear hs'
  by_cases hb : x < least ∨ x < 0 ∨ most < x
  · have HE : Hid (s.fail 22 = s') := by
      show _ = _
      rw [← HS.out]
      unfold putW numW K.WS.fail
      rw [if_pos hb]
      by_cases hz : s.fault = 0 <;> simp [hz]
    by_cases h1 : x < 0
    · go_enter Tryz.func63, Tryz.ntmps63
      go_wp2_with fail
      refine (wrong_any S w0 p s 22 _ HH.out).mono ?_
      rintro e w1 ⟨rfl, h1⟩
      rw [HE.out] at h1
      go_wp2
      first | go_end0 | refine bodyPost_ret (results_none rfl _ _ _) rfl ?_
      exact ⟨rfl, h1⟩
    · by_cases h2 : x < least
      · clear hb
        go_enter Tryz.func63, Tryz.ntmps63
        go_wp2_with fail
        refine (wrong_any S w0 p s 22 _ HH.out).mono ?_
        rintro e w1 ⟨rfl, h1⟩
        rw [HE.out] at h1
        go_wp2
        first | go_end0 | refine bodyPost_ret (results_none rfl _ _ _) rfl ?_
        exact ⟨rfl, h1⟩
      · have h3 : most < x := by omega
        clear hb
        go_enter Tryz.func63, Tryz.ntmps63
        go_wp2_with fail
        refine (wrong_any S w0 p s 22 _ HH.out).mono ?_
        rintro e w1 ⟨rfl, h1⟩
        rw [HE.out] at h1
        go_wp2
        first | go_end0 | refine bodyPost_ret (results_none rfl _ _ _) rfl ?_
        exact ⟨rfl, h1⟩
  · have h1 : ¬ x < 0 := by omega
    have h2 : ¬ x < least := by omega
    have h3 : ¬ most < x := by omega
    clear hb
    obtain ⟨n, rfl⟩ := Int.eq_ofNat_of_zero_le (show 0 ≤ x by omega)
    have HE : Hid (putW (fun s => s.lay (K.num n)) s = s') := by
      show _ = _
      rw [← HS.out]
      unfold putW numW
      rw [if_neg (by omega : ¬ ((n : Int) < least ∨ (n : Int) < 0 ∨ most < (n : Int))), Int.toNat_natCast]
    have HK := hide (K.num_len9 (n := n) (by omega))
    go_enter Tryz.func63, Tryz.ntmps63
    go_wp2_with fail
    refine (LayNumber_any n (by omega) _).mono ?_
    rintro e w1 ⟨a, c, rfl, hr, h0, hb⟩
    have HR := hide hr
    have H0 := hide h0
    have HH1 := hide (HH.out.below hb)
    clear hr h0 hb
    go_wp2_with fail
    refine (Lay_any S w0 p s a _ c _ _ HH1.out HR.out H0.out (by have := HK.out; omega)).mono ?_
    rintro e w2 ⟨rfl, h2⟩
    rw [HE.out] at h2
    go_wp2
    go_end0
    exact ⟨rfl, h2⟩

end Go.Proofs.YtoelgcagahmndaaGreat

/- The document's reader: Number. -/
namespace Go.Proofs.YtoelgcagahmndaaGreat
open Go.RowKit

theorem RTake_any (q : Nat) (least most : Int) (s : K.RS) (w : World) (h : Qr w q s) :
    Calls Tryz.prog 70 #[.pointer (some ⟨q, 0, none⟩), .int .i64 least, .int .i64 most] w fun en w' => ∃ x : Nat, en = .returned (.int .i64 (x : Nat)) ∧ Qr w' q (takeR (numR least most) s) ∧ Keep (fun k => k = q) w w' ∧ ((takeR (numR least most) s).fault = 0 → x = numV s) := by
  obtain ⟨a, c, hb, hr, h0, hc, _⟩ := h.ex
  have c0 := cell0 hb
  have c1 := cell1 hb
  have c2 := cell2 hb
  have HH := hide h
  have HR := hide hr
  have htk := h.tak
  have htp := h.top
  have HTK := hide htk
  clear h hb hr h0
  by_cases hz : s.fault = 0
  · have c2' : w.cell? ⟨q, 2, none⟩ = some (.int .i64 0) := by rw [c2, hz]; rfl
    have HZ := hide hz
    have HTN : Hid (∀ k, Calls Tryz.prog 127 #[.slice a s.data.length c, .int .i64 (s.taken : Nat), .int .i64 least, .int .i64 most] (w.drewN k) fun en w' => en = .returned (.tuple #[.int .i64 ((tn least most s.data s.taken).1 : Nat), .int .i64 ((tn least most s.data s.taken).2.1 : Nat), .int .i64 ((tn least most s.data s.taken).2.2 : Nat)]) ∧ w' = w.drewN k) :=
      fun k => TakeNumber_any a s.data.length c s.data s.taken least most (w.drewN k) (HR.out.keep ⟨rfl, rfl, rfl, Nat.le_refl _, fun _ _ => rfl⟩) htk htp
    obtain ⟨ts, tv, tl⟩ := tn_num (least := least) (most := most) HH.out hz
    have HTS : Hid (takeR (numR least most) s = { s with taken := (tn least most s.data s.taken).2.1, fault := (tn least most s.data s.taken).2.2 }) := by show _ = _; unfold takeR; rw [if_pos hz]; exact ts
    have HTV : Hid ((takeR (numR least most) s).fault = 0 → (tn least most s.data s.taken).1 = numV s) := by show _ → _; unfold takeR; rw [if_pos hz]; exact tv
    have HTL := hide tl
    clear hz c2 ts tv tl
    go_enter Tryz.func70, Tryz.ntmps70
    go_wp2
    go_quiet ((go_at_call 127; exact (HTN.out _).mono (fun _ _ h => ⟨h.1, ⟨_, h.2⟩⟩)))
    generalize tn least most s.data s.taken = t at *
    go_wp2_with fail
    refine (went_any q s t.2.1 t.2.2 HTL.out (w.drewN nq) (HH.out.below ⟨rfl, rfl, rfl, Nat.le_refl _, fun _ _ => rfl⟩)).mono ?_
    rintro e w1 ⟨rfl, hq, hk⟩
    have HQ := hide hq
    have HK := hide hk
    clear hq hk
    go_wp2
    go_ret
    refine ⟨t.1, rfl, ?_, ?_, ?_⟩
    · rw [HTS.out]; exact HQ.out
    · exact (Keep.ofBelow (S := fun k => k = q) (a := w) (b := w.drewN nq) (B := w.heap.size) ⟨rfl, rfl, rfl, Nat.le_refl _, fun _ _ => rfl⟩ (Nat.le_refl _)).more HK.out
    · exact HTV.out
  · have hzz : (((s.fault : Nat) : Int) == 0) = false := by simpa using hz
    have HZ := hide hz
    clear hz
    go_enter Tryz.func70, Tryz.ntmps70
    go_wp2
    go_ret
    refine ⟨0, rfl, ?_, Keep.refl _ _, ?_⟩
    · unfold takeR; rw [if_neg HZ.out]; exact HH.out
    · unfold takeR; rw [if_neg HZ.out]; exact fun h => absurd h HZ.out

end Go.Proofs.YtoelgcagahmndaaGreat

/- The document's reader: flags and words. -/
namespace Go.Proofs.YtoelgcagahmndaaGreat
open Go.RowKit

/-- what TakeFlag answers -/
def tf (l : List Nat) (at_ : Nat) : Bool × Nat × Nat := if l.length ≤ at_ then (false, at_, 21) else if 1 < l.getD at_ 0 then (false, at_, 22) else (l.getD at_ 0 == 1, at_ + 1, 0)

theorem TakeFlag_any (a : Option Addr) (n c : Nat) (l : List Nat) (at_ : Nat) (w : World) (h : Rd w a n l) (ha : at_ ≤ n) (hn : n ≤ 16777216) :
    Calls Tryz.prog 171 #[.slice a n c, .int .i64 (at_ : Nat)] w fun en w' => en = .returned (.tuple #[.bool (tf l at_).1, .int .i64 ((tf l at_).2.1 : Nat), .int .i64 ((tf l at_).2.2 : Nat)]) ∧ w' = w := by
  have hl := h.1
  by_cases hlt : at_ < n
  · obtain ⟨b, off, rfl, hc⟩ : ∃ b off, a = some ⟨b, off, none⟩ ∧ w.cell? ⟨b, off + at_, none⟩ = some (.int .u8 ((l.getD at_ 0 : Nat) : Int)) := by
      rcases h.2.2.2 with h0 | ⟨b, off, rfl, hc⟩
      · omega
      · exact ⟨b, off, rfl, hc at_ hlt⟩
    have hT : Hid (tf l at_ = if 1 < l.getD at_ 0 then (false, at_, 22) else (l.getD at_ 0 == 1, at_ + 1, 0)) := by show _ = _; unfold tf; rw [if_neg (by omega)]
    generalize tf l at_ = r at *
    generalize l.getD at_ 0 = d at *
    clear hl h
    by_cases hd : 1 < d
    · have e := hT.out
      rw [if_pos hd] at e
      subst e
      clear hT
      go_enter Tryz.func171, Tryz.ntmps171
      go_wp2
      go_ret3
      exact ⟨rfl, rfl⟩
    · have e := hT.out
      rw [if_neg hd] at e
      subst e
      clear hT
      go_enter Tryz.func171, Tryz.ntmps171
      go_wp2
      go_ret3
      refine ⟨?_, rfl⟩
      have hb : ((d : Int) == 1) = (d == 1) := by
        by_cases h1 : d = 1
        · subst h1; rfl
        · rw [beq_eq_false_iff_ne.2 h1, beq_eq_false_iff_ne]; omega
      simp [hb]
  · have e : tf l at_ = (false, at_, 21) := by unfold tf; rw [if_pos (by omega)]
    rw [e]
    clear e hl h
    go_enter Tryz.func171, Tryz.ntmps171
    go_wp2
    go_ret3
    exact ⟨rfl, rfl⟩

/-- what TakeWord answers -/
def tw (l : List Nat) (at_ : Nat) : Nat × Nat × Nat := if l.length < at_ + 8 then (0, at_, 21) else (wval (l.drop at_) 8, at_ + 8, 0)


theorem wval_digit {l : List Nat} (hd : ∀ i, l.getD i 0 < 256) (j : Nat) : ∀ m, j < m → wval l m / 256 ^ j % 256 = l.getD j 0
  | 0, h => by omega
  | m + 1, h => by
    show (wval l m + l.getD m 0 * 256 ^ m) / 256 ^ j % 256 = _
    have hp : 0 < 256 ^ j := Nat.pow_pos (by decide)
    rcases Nat.lt_or_ge j m with hj | hj
    · have e : l.getD m 0 * 256 ^ m = l.getD m 0 * 256 ^ (m - j - 1) * 256 * 256 ^ j := by
        rw [Nat.mul_assoc (l.getD m 0 * 256 ^ (m - j - 1)), ← Nat.pow_succ', Nat.mul_assoc, ← Nat.pow_add]
        congr 2
        omega
      rw [e, Nat.add_mul_div_right _ _ hp, Nat.add_mul_mod_self_right]
      exact wval_digit hd j m hj
    · obtain rfl : j = m := by omega
      rw [Nat.add_mul_div_right _ _ hp, Nat.div_eq_of_lt (wval_lt hd j), Nat.zero_add, Nat.mod_eq_of_lt (hd j)]

theorem wval_step {l : List Nat} (hd : ∀ i, l.getD i 0 < 256) (k : Nat) (hk : k < 8) : wval l 8 / 256 ^ (k + 1) * 256 + l.getD k 0 = wval l 8 / 256 ^ k := by
  have h1 := wval_digit hd k 8 hk
  have h2 : wval l 8 / 256 ^ (k + 1) = wval l 8 / 256 ^ k / 256 := by rw [Nat.div_div_eq_div_mul, Nat.pow_succ]
  rw [h2]
  omega

set_option maxRecDepth 10000 in
theorem TakeWord_any (a : Option Addr) (n c : Nat) (l : List Nat) (at_ : Nat) (w : World) (h : Rd w a n l) (ha : at_ ≤ n) (hn : n ≤ 16777216) :
    Calls Tryz.prog 170 #[.slice a n c, .int .i64 (at_ : Nat)] w fun en w' => en = .returned (.tuple #[.int .u64 ((tw l at_).1 : Nat), .int .i64 ((tw l at_).2.1 : Nat), .int .i64 ((tw l at_).2.2 : Nat)]) ∧ w' = w := by
  have hl := h.1
  by_cases hlt : n < at_ + 8
  · have e : tw l at_ = (0, at_, 21) := by unfold tw; rw [if_pos (by omega)]
    rw [e]
    clear e hl h
    go_enter Tryz.func170, Tryz.ntmps170
    go_wp2
    go_ret3
    exact ⟨rfl, rfl⟩
  · have e : tw l at_ = (wval (l.drop at_) 8, at_ + 8, 0) := by unfold tw; rw [if_neg (by omega)]
    rw [e]
    obtain ⟨b, off, rfl, hc⟩ : ∃ b off, a = some ⟨b, off, none⟩ ∧ ∀ i, i < 8 → w.cell? ⟨b, off + (at_ + i), none⟩ = some (.int .u8 (((l.drop at_).getD i 0 : Nat) : Int)) := by
      rcases h.2.2.2 with h0 | ⟨b, off, rfl, hc⟩
      · omega
      · refine ⟨b, off, rfl, fun i hi => ?_⟩
        rw [hc (at_ + i) (by omega)]
        simp [List.getD_eq_getElem?_getD, List.getElem?_drop]
    have hd : ∀ i, (l.drop at_).getD i 0 < 256 := by
      intro i
      rw [List.getD_eq_getElem?_getD]
      cases hx : (l.drop at_)[i]? with
      | none => simp
      | some x => exact h.2.2.1 x (List.mem_of_mem_drop (List.mem_of_getElem? hx))
    have HV : Hid (wval (l.drop at_) 8 < 18446744073709551616) := by show _ < _; have := wval_lt hd 8; exact Nat.lt_of_lt_of_eq this (by decide)
    have HD := hide hd
    have HC := hide hc
    clear e hl h hc hd
    generalize l.drop at_ = m at *
    go_enter Tryz.func170, Tryz.ntmps170
    go_wp2
    go_loop [7, 8] (fun x i => ∃ k : Nat, k ≤ 8 ∧ x = .int .u64 ((wval m 8 / 256 ^ k : Nat) : Int) ∧ ((k = 0 ∧ i = .int .i64 (-1)) ∨ ∃ j : Nat, k = j + 1 ∧ i = .int .i64 (j : Nat))) (fun _ i => (intOf i + 1).toNat)
    case atStart =>
      refine ⟨8, by omega, ?_, .inr ⟨7, rfl, rfl⟩⟩
      rw [Nat.div_eq_of_lt (Nat.lt_of_lt_of_eq HV.out (by decide))]
      rfl
    case round =>
      obtain ⟨k, hk, rfl, hi⟩ := hrel
      rcases hi with ⟨rfl, rfl⟩ | ⟨j, rfl, rfl⟩
      · go_wp2
        go_ret3
        exact ⟨rfl, rfl⟩
      · cases j with
        | zero =>
          have hs := wval_step HD.out 0 (by omega)
          have hv := HV.out
          have hle : wval m 8 / 256 ^ 0 ≤ wval m 8 := Nat.div_le_self _ _
          have hdl := HD.out 0
          have hcell := HC.out 0 (by omega)
          rw [Nat.add_zero] at hcell
          have HS : Hid (wval m 8 / 256 ^ (0 + 1) * 256 + m.getD 0 0 = wval m 8 / 256 ^ 0) := hs
          rw [← hs] at hle
          clear hs
          generalize hy : wval m 8 / 256 ^ (0 + 1) = y at *
          generalize hdd : m.getD 0 0 = d at *
          have hb : y * 256 + d < 18446744073709551616 := by omega
          clear hle hv hy hdd
          go_wp2
          have e := HS.out
          exact ⟨⟨0, by omega, by rw [← e]; simp, .inl ⟨rfl, rfl⟩⟩, by simp [intOf]⟩
        | succ j =>
          have hs := wval_step HD.out (j + 1) (by omega)
          have hv := HV.out
          have hle : wval m 8 / 256 ^ (j + 1) ≤ wval m 8 := Nat.div_le_self _ _
          have hdl := HD.out (j + 1)
          have hcell := HC.out (j + 1) (by omega)
          have HS : Hid (wval m 8 / 256 ^ ((j + 1) + 1) * 256 + m.getD (j + 1) 0 = wval m 8 / 256 ^ (j + 1)) := hs
          rw [← hs] at hle
          clear hs
          generalize hy : wval m 8 / 256 ^ ((j + 1) + 1) = y at *
          generalize hdd : m.getD (j + 1) 0 = d at *
          have hb : y * 256 + d < 18446744073709551616 := by omega
          clear hle hv hy hdd
          go_wp2
          have e := HS.out
          exact ⟨⟨j + 1, by omega, by rw [← e]; simp, .inr ⟨j, rfl, rfl⟩⟩, by simp [intOf]; omega⟩
end Go.Proofs.YtoelgcagahmndaaGreat

/- The document's reader: Word and Flag. -/
namespace Go.Proofs.YtoelgcagahmndaaGreat
open Go.RowKit

theorem wval_take (l : List Nat) : ∀ k, k ≤ 8 → wval (l.take 8) k = wval l k
  | 0, _ => rfl
  | k + 1, h => by
    show wval (l.take 8) k + (l.take 8).getD k 0 * 256 ^ k = wval l k + l.getD k 0 * 256 ^ k
    rw [wval_take l k (by omega), List.getD_eq_getElem?_getD, List.getD_eq_getElem?_getD, List.getElem?_take, if_pos (by omega)]

theorem tw_word {w : World} {q : Nat} {s : K.RS} (h : Qr w q s) (hz : s.fault = 0) :
    wordR s = { s with taken := (tw s.data s.taken).2.1, fault := (tw s.data s.taken).2.2 } ∧ ((wordR s).fault = 0 → (tw s.data s.taken).1 = wordV s) ∧ (tw s.data s.taken).2.1 ≤ s.data.length := by
  have ht := h.tak
  have hl := rest_len s
  unfold wordR tw
  by_cases hp : 8 ≤ (rest s).length
  · rw [if_pos hp, if_neg (show ¬ s.data.length < s.taken + 8 by omega)]
    refine ⟨?_, fun _ => ?_, by show s.taken + 8 ≤ _; omega⟩
    · unfold K.RS.go
      rw [← hz]
    · unfold wordV
      rw [wval_take _ 8 (Nat.le_refl _)]
      rfl
  · rw [if_neg hp, if_pos (show s.data.length < s.taken + 8 by omega)]
    refine ⟨?_, fun h0 => absurd h0 (fail_ne hz (by decide)), ht⟩
    unfold K.RS.fail
    rw [if_pos hz]

theorem tf_flag {w : World} {q : Nat} {s : K.RS} (h : Qr w q s) (hz : s.fault = 0) :
    flagR s = { s with taken := (tf s.data s.taken).2.1, fault := (tf s.data s.taken).2.2 } ∧ ((flagR s).fault = 0 → (tf s.data s.taken).1 = flagV s) ∧ (tf s.data s.taken).2.1 ≤ s.data.length := by
  have ht := h.tak
  have hl := rest_len s
  have hg : s.data.getD s.taken 0 = (rest s).getD 0 0 := by simp [rest, List.getD_eq_getElem?_getD, List.getElem?_drop]
  unfold flagR flagV tf
  rw [hg]
  cases hr : rest s with
  | nil =>
    rw [hr] at hl
    simp only [List.length_nil] at hl
    rw [if_pos (show s.data.length ≤ s.taken by omega)]
    refine ⟨?_, fun h0 => absurd h0 (fail_ne hz (by decide)), ht⟩
    show s.fail 21 = _
    unfold K.RS.fail
    rw [if_pos hz]
  | cons b r =>
    rw [hr] at hl
    simp only [List.length_cons] at hl
    rw [if_neg (show ¬ s.data.length ≤ s.taken by omega)]
    simp only [List.getD_cons_zero]
    by_cases hb : 1 < b
    · rw [if_pos hb, if_pos hb]
      refine ⟨?_, fun h0 => absurd h0 (fail_ne hz (by decide)), ht⟩
      unfold K.RS.fail
      rw [if_pos hz]
    · rw [if_neg hb, if_neg hb]
      refine ⟨?_, fun _ => rfl, by show s.taken + 1 ≤ _; omega⟩
      unfold K.RS.go
      rw [← hz]

theorem RTakeWord_any (q : Nat) (s : K.RS) (w : World) (h : Qr w q s) :
    Calls Tryz.prog 97 #[.pointer (some ⟨q, 0, none⟩)] w fun en w' => ∃ x : Nat, en = .returned (.int .u64 (x : Nat)) ∧ Qr w' q (takeR wordR s) ∧ Keep (fun k => k = q) w w' ∧ ((takeR wordR s).fault = 0 → x = wordV s) := by
  obtain ⟨a, c, hb, hr, h0, hc, _⟩ := h.ex
  have c0 := cell0 hb
  have c1 := cell1 hb
  have c2 := cell2 hb
  have HH := hide h
  have HR := hide hr
  have htk := h.tak
  have htp := h.top
  have HTK := hide htk
  clear h hb hr h0
  by_cases hz : s.fault = 0
  · have c2' : w.cell? ⟨q, 2, none⟩ = some (.int .i64 0) := by rw [c2, hz]; rfl
    have HZ := hide hz
    have HTN : Hid (∀ k, Calls Tryz.prog 170 #[.slice a s.data.length c, .int .i64 (s.taken : Nat)] (w.drewN k) fun en w' => en = .returned (.tuple #[.int .u64 ((tw s.data s.taken).1 : Nat), .int .i64 ((tw s.data s.taken).2.1 : Nat), .int .i64 ((tw s.data s.taken).2.2 : Nat)]) ∧ w' = w.drewN k) :=
      fun k => TakeWord_any a s.data.length c s.data s.taken (w.drewN k) (HR.out.keep ⟨rfl, rfl, rfl, Nat.le_refl _, fun _ _ => rfl⟩) htk htp
    obtain ⟨ts, tv, tl⟩ := tw_word HH.out hz
    have HTS : Hid (takeR wordR s = { s with taken := (tw s.data s.taken).2.1, fault := (tw s.data s.taken).2.2 }) := by show _ = _; unfold takeR; rw [if_pos hz]; exact ts
    have HTV : Hid ((takeR wordR s).fault = 0 → (tw s.data s.taken).1 = wordV s) := by show _ → _; unfold takeR; rw [if_pos hz]; exact tv
    have HTL := hide tl
    clear hz c2 ts tv tl
    go_enter Tryz.func97, Tryz.ntmps97
    go_wp2
    go_quiet ((go_at_call 170; exact (HTN.out _).mono (fun _ _ h => ⟨h.1, ⟨_, h.2⟩⟩)))
    generalize tw s.data s.taken = t at *
    go_wp2_with fail
    refine (went_any q s t.2.1 t.2.2 HTL.out (w.drewN nq) (HH.out.below ⟨rfl, rfl, rfl, Nat.le_refl _, fun _ _ => rfl⟩)).mono ?_
    rintro e w1 ⟨rfl, hq, hk⟩
    have HQ := hide hq
    have HK := hide hk
    clear hq hk
    go_wp2
    go_ret
    refine ⟨t.1, rfl, ?_, ?_, ?_⟩
    · rw [HTS.out]; exact HQ.out
    · exact (Keep.ofBelow (S := fun k => k = q) (a := w) (b := w.drewN nq) (B := w.heap.size) ⟨rfl, rfl, rfl, Nat.le_refl _, fun _ _ => rfl⟩ (Nat.le_refl _)).more HK.out
    · exact HTV.out
  · have hzz : (((s.fault : Nat) : Int) == 0) = false := by simpa using hz
    have HZ := hide hz
    clear hz
    go_enter Tryz.func97, Tryz.ntmps97
    go_wp2
    go_ret
    refine ⟨0, rfl, ?_, Keep.refl _ _, ?_⟩
    · unfold takeR; rw [if_neg HZ.out]; exact HH.out
    · unfold takeR; rw [if_neg HZ.out]; exact fun h => absurd h HZ.out

theorem RTakeFlag_any (q : Nat) (s : K.RS) (w : World) (h : Qr w q s) :
    Calls Tryz.prog 98 #[.pointer (some ⟨q, 0, none⟩)] w fun en w' => ∃ x : Bool, en = .returned (.bool x) ∧ Qr w' q (takeR flagR s) ∧ Keep (fun k => k = q) w w' ∧ ((takeR flagR s).fault = 0 → x = flagV s) := by
  obtain ⟨a, c, hb, hr, h0, hc, _⟩ := h.ex
  have c0 := cell0 hb
  have c1 := cell1 hb
  have c2 := cell2 hb
  have HH := hide h
  have HR := hide hr
  have htk := h.tak
  have htp := h.top
  have HTK := hide htk
  clear h hb hr h0
  by_cases hz : s.fault = 0
  · have c2' : w.cell? ⟨q, 2, none⟩ = some (.int .i64 0) := by rw [c2, hz]; rfl
    have HZ := hide hz
    have HTN : Hid (∀ k, Calls Tryz.prog 171 #[.slice a s.data.length c, .int .i64 (s.taken : Nat)] (w.drewN k) fun en w' => en = .returned (.tuple #[.bool (tf s.data s.taken).1, .int .i64 ((tf s.data s.taken).2.1 : Nat), .int .i64 ((tf s.data s.taken).2.2 : Nat)]) ∧ w' = w.drewN k) :=
      fun k => TakeFlag_any a s.data.length c s.data s.taken (w.drewN k) (HR.out.keep ⟨rfl, rfl, rfl, Nat.le_refl _, fun _ _ => rfl⟩) htk htp
    obtain ⟨ts, tv, tl⟩ := tf_flag HH.out hz
    have HTS : Hid (takeR flagR s = { s with taken := (tf s.data s.taken).2.1, fault := (tf s.data s.taken).2.2 }) := by show _ = _; unfold takeR; rw [if_pos hz]; exact ts
    have HTV : Hid ((takeR flagR s).fault = 0 → (tf s.data s.taken).1 = flagV s) := by show _ → _; unfold takeR; rw [if_pos hz]; exact tv
    have HTL := hide tl
    clear hz c2 ts tv tl
    go_enter Tryz.func98, Tryz.ntmps98
    go_wp2
    go_quiet ((go_at_call 171; exact (HTN.out _).mono (fun _ _ h => ⟨h.1, ⟨_, h.2⟩⟩)))
    generalize tf s.data s.taken = t at *
    go_wp2_with fail
    refine (went_any q s t.2.1 t.2.2 HTL.out (w.drewN nq) (HH.out.below ⟨rfl, rfl, rfl, Nat.le_refl _, fun _ _ => rfl⟩)).mono ?_
    rintro e w1 ⟨rfl, hq, hk⟩
    have HQ := hide hq
    have HK := hide hk
    clear hq hk
    go_wp2
    go_ret
    refine ⟨t.1, rfl, ?_, ?_, ?_⟩
    · rw [HTS.out]; exact HQ.out
    · exact (Keep.ofBelow (S := fun k => k = q) (a := w) (b := w.drewN nq) (B := w.heap.size) ⟨rfl, rfl, rfl, Nat.le_refl _, fun _ _ => rfl⟩ (Nat.le_refl _)).more HK.out
    · exact HTV.out
  · have hzz : (((s.fault : Nat) : Int) == 0) = false := by simpa using hz
    have HZ := hide hz
    clear hz
    go_enter Tryz.func98, Tryz.ntmps98
    go_wp2
    go_ret
    refine ⟨false, rfl, ?_, Keep.refl _ _, ?_⟩
    · unfold takeR; rw [if_neg HZ.out]; exact HH.out
    · unfold takeR; rw [if_neg HZ.out]; exact fun h => absurd h HZ.out

end Go.Proofs.YtoelgcagahmndaaGreat

/- The document's reader: blobs and texts. -/
namespace Go.Proofs.YtoelgcagahmndaaGreat
open Go.RowKit

theorem pslice_run (a : Option Addr) (n c lo hi : Nat) (h1 : lo ≤ hi) (h2 : hi ≤ c) (w : World) :
    (Instr.slice 23 (.slice a n c) (some (.int .i64 (lo : Int))) (some (.int .i64 (hi : Int))) none).run Tryz.prog w = .ok (.slice (if c = lo then a else a.map (·.add lo)) (hi - lo) (c - lo)) w := by
  go_simp
/-- a part of a slice, its address by a name -/
theorem pslice_rd {w : World} {a : Option Addr} {n : Nat} {l : List Nat} (h : Rd w a n l) (c lo hi : Nat) (h0 : a = none → c = 0) (hc : n ≤ c) (h1 : lo ≤ hi) (h2 : hi ≤ n) :
    ∃ a', (∀ wx, (Instr.slice 23 (.slice a n c) (some (.int .i64 (lo : Int))) (some (.int .i64 (hi : Int))) none).run Tryz.prog wx = .ok (.slice a' (hi - lo) (c - lo)) wx) ∧ Rd w a' (hi - lo) ((l.take hi).drop lo) ∧ (a' = none → c - lo = 0) := by
  refine ⟨_, pslice_run a n c lo hi h1 (by omega), (h.front hi h2).tail c lo (by omega) h1, ?_⟩
  intro e
  split at e
  · omega
  · cases a with
    | none => have := h0 rfl; omega
    | some ad => cases e
/-- what TakeBlob answers -/
def tb (most : Int) (l : List Nat) (at_ : Nat) : List Nat × Nat × Nat := match cnt most (l.drop at_) with
  | .error e => ([], at_, e)
  | .ok (n, z) => (((l.drop at_).take (z + n)).drop z, at_ + (z + n), 0)
theorem cut_drop (l : List Nat) (a z n : Nat) : (l.take (a + z + n)).drop (a + z) = ((l.drop a).take (z + n)).drop z := by
  rw [List.take_drop, List.drop_drop, ← Nat.add_assoc]
set_option maxRecDepth 10000 in
set_option maxHeartbeats 1000000 in
theorem TakeBlob_any (a : Option Addr) (n c : Nat) (l : List Nat) (at_ : Nat) (most : Int) (w : World) (h : Rd w a n l) (h0 : a = none → c = 0) (hc : n ≤ c) (ha : at_ ≤ n) (hn : n ≤ 16777216) :
    Calls Tryz.prog 172 #[.slice a n c, .int .i64 (at_ : Nat), .int .i64 most] w fun en w' => ∃ a' c', en = .returned (.tuple #[.slice a' (tb most l at_).1.length c', .int .i64 ((tb most l at_).2.1 : Nat), .int .i64 ((tb most l at_).2.2 : Nat)]) ∧ Rd w' a' (tb most l at_).1.length (tb most l at_).1 ∧ (∀ b off, a' = some ⟨b, off, none⟩ → w.heap.size ≤ b) ∧ Below w.heap.size w w' := by
  have hl := h.1
  have TN := hide (TakeNumber_any a n c l at_ 0 9223372036854775807 w h ha hn)
  have HB : Hid (tb most l at_ = match cnt most (l.drop at_) with | .error e => ([], at_, e) | .ok (n, z) => (((l.drop at_).take (z + n)).drop z, at_ + (z + n), 0)) := rfl
  have rd0 : ∀ W : World, Rd W none 0 [] := fun W => ⟨rfl, by decide, fun d hd => (by cases hd), .inl rfl⟩
  have HR0 := hide rd0
  clear rd0
  cases hp : K.pk (l.drop at_) with
  | error e =>
    have he := pk_err hp
    have hT : tn 0 9223372036854775807 l at_ = (0, at_, e) := by unfold tn; rw [hp]
    have hb := HB.out
    unfold cnt at hb
    rw [hp] at hb
    simp only at hb
    rw [hb]
    rw [hT] at TN
    have hne : ((e : Int) != 0) = true := by simp; omega
    clear hp hT hb HB h he hl
    go_enter Tryz.func172, Tryz.ntmps172
    go_wp2_with (go_at_call 127; refine TN.out.mono ?_; rintro en w1 ⟨rfl, rfl⟩)
    go_ret3
    exact ⟨none, 0, rfl, HR0.out _, (fun b off e => by cases e), Below.refl _ _⟩
  | ok r =>
    obtain ⟨k, z⟩ := r
    obtain ⟨z1, z2, z3, _, k5⟩ := K.pk_ok (fun d hd => h.2.2.1 d (List.mem_of_mem_drop hd)) hp
    rw [List.length_drop] at z3
    have hT : tn 0 9223372036854775807 l at_ = (k, at_ + z, 0) := by unfold tn; rw [hp]; simp only; rw [if_neg (by omega)]
    have hb := HB.out
    unfold cnt at hb
    rw [hp] at hb
    simp only at hb
    rw [hT] at TN
    simp only at TN
    have HH := hide h
    obtain ⟨t, ht⟩ : ∃ t, at_ + z = t := ⟨_, rfl⟩
    rw [ht] at TN
    have htn : t ≤ n := by omega
    clear hp hT HB h
    by_cases c1 : most < (k : Int)
    · rw [if_pos c1] at hb
      simp only at hb
      rw [hb]
      clear hb hl z1 z2 z3 ht k5
      go_enter Tryz.func172, Tryz.ntmps172
      go_wp2_with (go_at_call 127; refine TN.out.mono ?_; rintro en w1 ⟨rfl, rfl⟩)
      go_ret3
      exact ⟨none, 0, rfl, HR0.out _, (fun b off e => by cases e), Below.refl _ _⟩
    · rw [if_neg c1] at hb
      by_cases c2 : (l.drop at_).length < z + k
      · rw [if_pos c2] at hb
        simp only at hb
        rw [hb]
        have c2' : (n : Int) - t < k := by rw [List.length_drop] at c2; omega
        clear hb c2 hl z1 z2 z3 ht k5
        go_enter Tryz.func172, Tryz.ntmps172
        go_wp2_with (go_at_call 127; refine TN.out.mono ?_; rintro en w1 ⟨rfl, rfl⟩)
        go_ret3
        exact ⟨none, 0, rfl, HR0.out _, (fun b off e => by cases e), Below.refl _ _⟩
      · rw [if_neg c2] at hb
        simp only at hb
        have hkn : t + k ≤ n := by rw [List.length_drop] at c2; omega
        have c2' : ¬ (n : Int) - t < k := by omega
        obtain ⟨u, hu⟩ : ∃ u, t + k = u := ⟨_, rfl⟩
        have hui : (t : Int) + k = u := by omega
        have hbe := (Below.refl w.heap.size w).alloc (Nat.le_refl _) (.cells #[] 5)
        obtain ⟨a', hsl, hr', h0'⟩ := pslice_rd HH.out c t u h0 hc (by omega) (by omega)
        have hx : (l.take u).drop t = ((l.drop at_).take (z + k)).drop z := by rw [← hu, ← ht]; exact cut_drop l at_ z k
        have hlk : (((l.drop at_).take (z + k)).drop z).length = u - t := by rw [← hx]; exact hr'.1.symm
        rw [hb]
        simp only
        rw [hlk, ← Nat.add_assoc, ht, hu]
        rw [hx] at hr'
        generalize ((l.drop at_).take (z + k)).drop z = x at *
        have HRX := hide (hr'.keep hbe)
        have HOE := hide (ownsRow_empty w)
        have HX0 := hide h0'
        have HXL := hide hlk
        have HBY := hide hr'.2.2.1
        clear hb c2 hr' hx hlk hbe h0' hl z1 z2 z3 ht k5 hu
        go_enter Tryz.func172, Tryz.ntmps172
        go_wp2_with (first
          | (go_at_call 127; refine TN.out.mono ?_; rintro en w1 ⟨rfl, rfl⟩)
          | (at_builtin; refine wpList_append_rd rfl _ _ rfl _ [] w1.heap.size rfl HOE.out a' (u - t) (c - t) x rfl HRX.out HX0.out (by show 0 + _ ≤ _; omega) (by simp) ?_; intro v' w2 ho2 hg hnb; rw [List.nil_append] at ho2; obtain ⟨a2, c2, hv', hr, h02, hc2, _⟩ := ownsRow_rd ho2 HBY.out (by have := HXL.out; omega); subst hv'; have HO2 := hide ho2; have HG := hide hg; have HR2 := hide hr; clear ho2 hg hnb hr h02 hc2))
        go_ret3
        refine ⟨a2, c2, ?_, ?_, (fun b off e => (HO2.out.lt b (by rw [e]; rfl)).1), below_grown (Below.refl _ _) _ HG.out fun k hk => (HOE.out.lt k hk).1⟩
        · rw [← HXL.out]; rfl
        · rw [← HXL.out]; exact HR2.out
theorem tb_row {w : World} {q : Nat} {s : K.RS} (most : Int) (h : Qr w q s) (hz : s.fault = 0) :
    rowR most s = { s with taken := (tb most s.data s.taken).2.1, fault := (tb most s.data s.taken).2.2 } ∧ ((rowR most s).fault = 0 → (tb most s.data s.taken).1 = rowV most s) ∧ (tb most s.data s.taken).2.1 ≤ s.data.length := by
  have ht := h.tak
  have hl := rest_len s
  unfold rowR rowV tb
  have hrw : s.data.drop s.taken = rest s := rfl
  rw [hrw]
  cases hp : cnt most (rest s) with
  | error e =>
    refine ⟨?_, fun h0 => absurd h0 (fail_ne hz (cnt_err hp)), ht⟩
    show s.fail e = _
    unfold K.RS.fail
    rw [if_pos hz]
  | ok r =>
    obtain ⟨n, z⟩ := r
    obtain ⟨_, _, h3⟩ := cnt_ok hp
    refine ⟨?_, fun _ => rfl, by show s.taken + (z + n) ≤ _; omega⟩
    show s.go (z + n) = _
    unfold K.RS.go
    rw [← hz]
set_option maxRecDepth 10000 in
set_option maxHeartbeats 1000000 in
theorem RBlobR_any (q : Nat) (most : Int) (s : K.RS) (w : World) (h : Qr w q s) :
    Calls Tryz.prog 99 #[.pointer (some ⟨q, 0, none⟩), .int .i64 most] w fun en w' => ∃ (a : Option Addr) (n c : Nat) (x : List Nat), en = .returned (.slice a n c) ∧ Rd w' a n x ∧ Qr w' q (takeR (rowR most) s) ∧ Keep (fun k => k = q) w w' ∧ ((takeR (rowR most) s).fault = 0 → x = rowV most s) := by
  obtain ⟨a, c, hb, hr, h0, hc, _⟩ := h.ex
  have c0 := cell0 hb
  have c1 := cell1 hb
  have c2 := cell2 hb
  have HH := hide h
  have HR := hide hr
  have htk := h.tak
  have htp := h.top
  have H0 := hide h0
  have HC := hide hc
  clear h hb hr h0 hc
  by_cases hz : s.fault = 0
  · have c2' : w.cell? ⟨q, 2, none⟩ = some (.int .i64 0) := by rw [c2, hz]; rfl
    have TB : Hid (∀ W, Below w.heap.size w W → Calls Tryz.prog 172 #[.slice a s.data.length c, .int .i64 (s.taken : Nat), .int .i64 most] W fun en w' => ∃ a' c', en = .returned (.tuple #[.slice a' (tb most s.data s.taken).1.length c', .int .i64 ((tb most s.data s.taken).2.1 : Nat), .int .i64 ((tb most s.data s.taken).2.2 : Nat)]) ∧ Rd w' a' (tb most s.data s.taken).1.length (tb most s.data s.taken).1 ∧ (∀ b off, a' = some ⟨b, off, none⟩ → W.heap.size ≤ b) ∧ Below W.heap.size W w') :=
      fun W k => TakeBlob_any a s.data.length c s.data s.taken most W (HR.out.keep k) H0.out HC.out htk htp
    obtain ⟨ts, tv, tl⟩ := tb_row most HH.out hz
    have HTS : Hid (takeR (rowR most) s = { s with taken := (tb most s.data s.taken).2.1, fault := (tb most s.data s.taken).2.2 }) := by show _ = _; unfold takeR; rw [if_pos hz]; exact ts
    have HTV : Hid ((takeR (rowR most) s).fault = 0 → (tb most s.data s.taken).1 = rowV most s) := by show _ → _; unfold takeR; rw [if_pos hz]; exact tv
    have HTL := hide tl
    have HS : Hid (∀ W, Below w.heap.size w W → W.cell? ⟨q, 0, none⟩ = some (.slice a s.data.length c) ∧ W.cell? ⟨q, 1, none⟩ = some (.int .i64 (s.taken : Nat)) ∧ Below w.heap.size w W) := fun W k => ⟨(k.cell (p := ⟨q, 0, none⟩) (World.block_lt_of_cell? _ _ c0)).trans c0, (k.cell (p := ⟨q, 1, none⟩) (World.block_lt_of_cell? _ _ c1)).trans c1, k⟩
    clear hz c2 ts tv tl
    generalize tb most s.data s.taken = t at *
    obtain ⟨t1, t2, t3⟩ := t
    simp only at TB HTS HTV HTL
    generalize hn1 : t1.length = n1 at *
    go_enter Tryz.func99, Tryz.ntmps99
    go_wp2_with fail
    go_region_held3 (fun W => W.cell? ⟨q, 0, none⟩ = some (.slice a s.data.length c) ∧ W.cell? ⟨q, 1, none⟩ = some (.int .i64 (s.taken : Nat)) ∧ Below w.heap.size w W) (first | (exact HS.out _ (Below.refl _ _)) | (exact HS.out _ (Below.refl _ _).drew) | (exact HS.out _ HK9.out) | go_keep) (first
      | (go_at_call 172; have hh8 := (‹_ ∧ _ ∧ Below w.heap.size w _›).2.2; refine (TB.out _ hh8).mono ?_; rintro e w9 ⟨a', c', rfl, r9, n9, b9⟩; have HK9 : Hid (Below w.heap.size w w9) := hh8.trans (b9.mono hh8.size); have HR9 := hide r9; have HN9 : Hid (∀ b off, a' = some ⟨b, off, none⟩ → w.heap.size ≤ b) := (fun b off e => Nat.le_trans hh8.size (n9 b off e)); clear hh8 b9 r9 n9))
    have HK := hide HK9.out
    clear HK9 c0 c1 c2' HS TB
    go_wp2_with fail
    refine (went_any q s t2 t3 HTL.out _ (HH.out.below HK.out)).mono ?_
    rintro e w1 ⟨rfl, hq, hk⟩
    have HQ := hide hq
    have HK1 := hide hk
    clear hq hk
    go_wp2
    go_ret
    refine ⟨a', n1, c', t1, rfl, ?_, ?_, (Keep.ofBelow (S := fun k => k = q) HK.out (Nat.le_refl _)).more HK1.out, HTV.out⟩
    · exact HR9.out.stay HK1.out (fun b off e hb => by have h1 := HN9.out b off e; have h2 := HH.out.lt; omega)
    · rw [HTS.out]; exact HQ.out
  · have hzz : (((s.fault : Nat) : Int) == 0) = false := by simpa using hz
    have hzn : (((s.fault : Nat) : Int) != 0) = true := by simpa using hz
    have HZ := hide hz
    clear hz
    go_enter Tryz.func99, Tryz.ntmps99
    go_wp2
    go_ret
    refine ⟨none, 0, 0, [], rfl, ⟨rfl, by decide, (fun d hd => by cases hd), .inl rfl⟩, ?_, Keep.refl _ _, ?_⟩
    · unfold takeR; rw [if_neg HZ.out]; exact HH.out
    · unfold takeR; rw [if_neg HZ.out]; exact fun h => absurd h HZ.out
theorem RTextR_any (q : Nat) (most : Int) (s : K.RS) (w : World) (h : Qr w q s) :
    Calls Tryz.prog 71 #[.pointer (some ⟨q, 0, none⟩), .int .i64 most] w fun en w' => ∃ x : List Nat, en = .returned (.string (str x)) ∧ Qr w' q (takeR (rowR most) s) ∧ Keep (fun k => k = q) w w' ∧ ((takeR (rowR most) s).fault = 0 → x = rowV most s) := by
  have RB := hide (RBlobR_any q most s w h)
  clear h
  go_enter Tryz.func71, Tryz.ntmps71
  go_wp2_with fail
  refine RB.out.mono ?_
  rintro e w1 ⟨a, n, c, x, rfl, hr, hq, hk, hx⟩
  have kc := conv_rd hr c
  have HQ := hide hq
  have HK := hide hk
  have HX := hide hx
  clear hr hq hk hx
  generalize hst : str x = st at *
  have HST := hide hst
  clear hst
  go_wp2
  go_ret
  exact ⟨x, by rw [HST.out]; rfl, HQ.out, HK.out, HX.out⟩
end Go.Proofs.YtoelgcagahmndaaGreat
