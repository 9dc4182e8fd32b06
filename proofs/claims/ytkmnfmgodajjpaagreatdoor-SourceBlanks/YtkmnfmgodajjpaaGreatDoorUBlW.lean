/- SourceBlanks: the walk. -/
import Derived.Test.YtkmnfmgodajjpaaGreatDoorUOwn
import Derived.Test.YtkmnfmgodajjpaaGreatDoorUBlE
import Derived.Deep.Cut
namespace Go.Proofs.YtkmnfmgodajjpaaGreatDoor
namespace U.Bl
open Go.RowKit

def pkI (c n : Int) : Int := (if c < 0 then -(c + 1) else c) % n
theorem pick_val (c : Int) (n : Int) (h1 : -9223372036854775808 ≤ c) (h2 : c ≤ 9223372036854775807) (hn : 1 ≤ n) (hn2 : n ≤ 1048576) (w : World) :
    Calls Tryz.prog 6 #[.int .i64 c, .int .i64 n] w fun e w' => e = .returned (.int .i64 (pkI c n)) ∧ w' = w := by
  by_cases hc : c < 0
  · go_enter Tryz.func6, Tryz.ntmps6
    go_wp2_with fail
    go_ret
    have e : -(c + 1).tmod n = pkI c n := by unfold pkI; rw [if_pos hc, ← Int.neg_tmod, Int.tmod_eq_emod_of_nonneg (by omega)]
    exact ⟨by rw [← e]; rfl, rfl⟩
  · go_enter Tryz.func6, Tryz.ntmps6
    go_wp2_with fail
    go_ret
    have e : c % n = pkI c n := by unfold pkI; rw [if_neg (by omega)]
    exact ⟨by rw [← e]; rfl, rfl⟩
/-- one of so many is picked -/
theorem pick_nat (c : Int) (n : Nat) (h1 : -9223372036854775808 ≤ c) (h2 : c ≤ 9223372036854775807) (hn : 1 ≤ n) (hn2 : n ≤ 1048576) : ∃ j : Nat, j < n ∧ ∀ w, Calls Tryz.prog 6 #[.int .i64 c, .int .i64 (n : Int)] w fun e w' => e = .returned (.int .i64 (j : Int)) ∧ w' = w := by
  have a1 : 0 ≤ pkI c n := Int.emod_nonneg _ (by omega)
  have a2 : pkI c n < n := Int.emod_lt_of_pos _ (by omega)
  refine ⟨(pkI c n).toNat, by omega, fun w => ?_⟩
  rw [Int.toNat_of_nonneg a1]
  exact pick_val c n h1 h2 (by omega) (by omega) w
def shN (j mr p : Nat) : Nat := if j < p then p + mr else p
theorem shN_zero (j mr : Nat) : shN j mr 0 = 0 := by unfold shN; rw [if_neg (by omega)]
theorem shN_none (j p : Nat) : shN j 0 p = p := by unfold shN; split <;> rfl
/-- two texts that are read alike, but for the numbers of lines -/
def Pair (E : World → Prop) (s t : List UInt8) (j mr : Nat) : Prop := ∃ (NM : ByteArray) (dl : Int) (m p c : Nat) (R : World → Option Addr → Nat → Prop),
    (∀ w, E w → Calls Tryz.prog 7 #[.string (ba s)] w fun e w' => ∃ va vc, e = .returned (.tuple #[.agg #[.string NM, .int .i64 dl, .slice va m vc], .int .i64 (p : Int), .int .i64 (c : Int)]) ∧ Below w.heap.size w w' ∧ R w' va vc) ∧
    (∀ w, E w → Calls Tryz.prog 7 #[.string (ba t)] w fun e w' => ∃ va vc, e = .returned (.tuple #[.agg #[.string NM, .int .i64 dl, .slice va m vc], .int .i64 ((shN j mr p : Nat) : Int), .int .i64 (c : Int)]) ∧ Below w.heap.size w w' ∧ R w' va vc) ∧
    (∀ w w' va vc, R w va vc → Below w.heap.size w w' → R w' va vc) ∧ p ≤ 1048577 ∧
    ∀ w va vb vc vd, R w va vc → R w vb vd → Calls Tryz.prog 8 #[.agg #[.string NM, .int .i64 dl, .slice va m vc], .agg #[.string NM, .int .i64 dl, .slice vb m vd]] w fun e w' => e = .returned (.bool true) ∧ Keep (fun _ => False) w w'
/-- a line of a text, and what is said of the texts out of it -/
structure Set_ (E : World → Prop) (s : List UInt8) (R : List Nat) (j e : Nat) (A B C : List UInt8) : Prop where
  txt : s = A ++ (B ++ C)
  no : 10 ∉ B
  fin : (C = [] ∧ B ≠ [] ∧ e = A.length + B.length) ∨ ((∃ C', C = 10 :: C') ∧ e = A.length + B.length + 1)
  zero : j = 0 → A = []
  prev : j ≠ 0 → R[j - 1]? = some A.length
  p0 : Pair E s (A ++ ([] ++ 10 :: (B ++ C))) j 1
  p1 : Pair E s (A ++ ([32, 35, 120] ++ 10 :: (B ++ C))) j 1
  p2 : Pair E s (A ++ ([9, 32] ++ (B ++ C))) j 0
  p3 : Pair E s (A ++ (B ++ ([32, 32] ++ C))) j 0
  p4 : Pair E s (A ++ (B ++ ([9, 35, 32] ++ C))) j 0
theorem own_at {w : World} {b : Nat} {e : TypeId} {a : Option Addr} {n c : Nat} {xs : List Value} (h : w.ownsRow b e 1 (.slice a n c) n xs) {j : Nat} {v : Value} (hv : xs[j]? = some v) : ∃ g, a = some ⟨g, 0, none⟩ ∧ w.cell? ⟨g, j, none⟩ = some v := by
  rcases h.2 with ⟨e1, e2⟩ | ⟨g, cap, cur, e1, e2, e3, e4, e5, e6, e7⟩
  · have := h.1
    have hj := (List.getElem?_eq_some_iff.1 hv).1
    omega
  · injection e1 with e1 e1' e1''
    refine ⟨g, e1, ?_⟩
    rw [← e7, List.getElem?_take] at hv
    split at hv
    · exact cell_blk e3 _ (by simpa using hv)
    · cases hv
theorem ba_app (a b : List UInt8) : ba a ++ ba b = ba (a ++ b) := by
  apply ByteArray.ext
  simp [ba]
theorem ba_cut (s : List UInt8) (i k : Nat) : (ba s).extract i k = ba ((s.drop i).take (k - i)) := by
  apply ByteArray.ext
  rw [ByteArray.data_extract]
  apply Array.toList_inj.1
  simp [ba]
def SZ (a b c d : Nat) : Prop := a ≤ 65536 ∧ b ≤ 65536 ∧ c ≤ 65536 ∧ d ≤ 65536
theorem fin_of {E : World → Prop} {s : List UInt8} {R : List Nat} {j e : Nat} {A B C : List UInt8} (h : Set_ E s R j e A B C) : ∃ e' x, e = e' + 1 ∧ s[e']? = some x ∧ ((x ≠ 10 ∧ e' + 1 = A.length + B.length) ∨ (x = 10 ∧ e' = A.length + B.length)) := by
  have hno := h.no
  rcases h.fin with ⟨hC, hB, he⟩ | ⟨⟨C', hC⟩, he⟩
  · obtain ⟨B', x, rfl⟩ : ∃ B' x, B = B' ++ [x] := ⟨B.dropLast, B.getLast hB, (List.dropLast_concat_getLast hB).symm⟩
    refine ⟨A.length + B'.length, x, by rw [he]; simp; omega, ?_, .inl ⟨fun ex => hno (by simp [ex]), by simp; omega⟩⟩
    rw [h.txt, hC, List.append_nil, List.getElem?_append_right (by omega), List.getElem?_append_right (by omega)]
    simp
  · refine ⟨A.length + B.length, 10, he, ?_, .inr ⟨rfl, rfl⟩⟩
    rw [h.txt, hC, List.getElem?_append_right (by omega), List.getElem?_append_right (by omega)]
    simp
theorem cuts_of {s A B C : List UInt8} (h : s = A ++ (B ++ C)) : (ba s).extract 0 A.length = ba A ∧ (ba s).extract A.length s.length = ba (B ++ C) ∧ (ba s).extract A.length (A.length + B.length) = ba B ∧ (ba s).extract (A.length + B.length) s.length = ba C := by
  subst h
  refine ⟨?_, ?_, ?_, ?_⟩
  · rw [ba_cut]; simp
  · rw [ba_cut, List.drop_left, List.take_of_length_le (by simp <;> omega)]
  · rw [ba_cut, List.drop_left, show A.length + B.length - A.length = B.length by omega, List.take_left]
  · rw [ba_cut, ← List.append_assoc, show A.length + B.length = (A ++ B).length by simp, List.drop_left, List.take_of_length_le (by simp <;> omega)]
theorem put_of (A P D : List UInt8) : ba A ++ ba P ++ ba D = ba (A ++ (P ++ D)) := by rw [ba_app, ba_app, List.append_assoc]
theorem put_of2 (A B P D : List UInt8) : ba A ++ ba B ++ ba P ++ ba D = ba (A ++ (B ++ (P ++ D))) := by rw [ba_app, ba_app, ba_app, List.append_assoc, List.append_assoc]


set_option maxRecDepth 100000 in
set_option maxHeartbeats 4000000 in
theorem blanks_core (E : World → Prop) (hEb : ∀ w w', E w → Below w.heap.size w w' → E w') (KN0 : ∀ w, E w → Calls Tryz.prog 4 #[] w fun e w' => e = .returned (.bool true) ∧ Below w.heap.size w w')
    (s : List UInt8) (R : List Nat) (EN0 : ∀ w, Calls Tryz.prog 5 #[.string (ba s)] w fun e w' => ∃ a c, e = .returned (.slice a R.length c) ∧ w'.ownsRow w.heap.size 3 1 (.slice a R.length c) R.length (ivs R) ∧ Below w.heap.size w w')
    (ST0 : s.length + 4 ≤ 65536 → ∀ j e, R[j]? = some e → ∃ A B C, Set_ E s R j e A B C) (hR : R.length ≤ 1048576) (ln how : Int) (w : World) (hE : E w) (hl : s.length ≤ 1048576) (b1 : -9223372036854775808 ≤ ln) (b2 : ln ≤ 9223372036854775807) (b3 : -9223372036854775808 ≤ how) (b4 : how ≤ 9223372036854775807) :
    Calls Tryz.prog 3 #[.string (ba s), .agg #[.int .i64 ln, .int .i64 how]] w fun e w' => e = .returned (.bool true) ∧ Below w.heap.size w w' := by
  have KN := hide KN0
  have HEB := hide hEb
  have EN := hide EN0
  have ST := hide ST0
  have HB0 := hide ((Below.refl w.heap.size w).alloc (Nat.le_refl _) (.cells #[.int .i64 ln, .int .i64 how] 23))
  have HE0 := hide (hEb _ _ hE HB0.out)
  have HH0 := hide (heap_alloc_new w (.cells #[.int .i64 ln, .int .i64 how] 23))
  have HS0 : Hid ((w.alloc (.cells #[.int .i64 ln, .int .i64 how] 23)).heap.size = w.heap.size + 1) := by show _ = _; simp
  have hsz : (ba s).size = s.length := ba_size s
  generalize hn : s.length = n at *
  have HN := hide hn
  generalize hS : ba s = S at *
  have HS := hide hS
  generalize hrl : R.length = rl at *
  have HRL := hide hrl
  clear hEb KN0 EN0 ST0 hE hS hn hrl
  go_enter Tryz.func3, Tryz.ntmps3
  go_upto_region 1 with fail
  generalize w.alloc (.cells #[.int .i64 ln, .int .i64 how] 23) = w0 at *
  go_wp2_with fail
  go_at_call 4
  refine (KN.out w0 HE0.out).mono ?_
  rintro e w1 ⟨rfl, k1⟩
  have HB1 := hide (HB0.out.trans (k1.mono HB0.out.size))
  have HE1 := hide (HEB.out _ _ HE0.out k1)
  have HH1 := hide ((k1.block w.heap.size (by rw [HS0.out]; omega)).trans HH0.out)
  clear k1 KN HB0 HE0 HH0
  go_wp2_with fail
  go_at_call 5
  refine (EN.out w1).mono ?_
  rintro e w2 ⟨ea, ec, rfl, own2, k2⟩
  have HB2 := hide (HB1.out.trans (k2.mono HB1.out.size))
  have HE2 := hide (HEB.out _ _ HE1.out k2)
  have hh2 := (k2.block w.heap.size (Array.getElem?_eq_some_iff.1 HH1.out).1).trans HH1.out
  have HO2 := hide own2
  have cl : w2.cell? ⟨w.heap.size, 0, none⟩ = some (.int .i64 ln) := cell_blk hh2 0 rfl
  have ch : w2.cell? ⟨w.heap.size, 1, none⟩ = some (.int .i64 how) := cell_blk hh2 1 rfl
  clear k2 own2 hh2 EN HB1 HE1 HH1 HS0
  by_cases h4 : n + 4 ≤ 65536
  · have h4' : ¬ (65536 : Int) < (n : Int) + 4 := by omega
    by_cases h0 : rl = 0
    · subst h0
      go_wp2_with fail
      go_ret
      exact ⟨rfl, HB2.out⟩
    · have h0' : ((rl : Int) == 0) = false := by simp; omega
      obtain ⟨j, hj, pk1⟩ := pick_nat ln rl b1 b2 (by omega) hR
      have PK1 := hide pk1
      obtain ⟨u, hu, pk2⟩ := pick_nat how 5 b3 b4 (by omega) (by omega)
      have PK2 := hide pk2
      obtain ⟨e, he⟩ : ∃ e, R[j]? = some e := ⟨_, List.getElem?_eq_getElem (by have := HRL.out; omega)⟩
      obtain ⟨A, B, C, hset⟩ := ST.out h4 j e he
      have HSet := hide hset
      obtain ⟨g, hg1, hg2⟩ := own_at HO2.out (j := j) (v := .int .i64 (e : Int)) (by simp [ivs, he])
      subst hg1
      have HPv : Hid (j ≠ 0 → w2.cell? ⟨g, j - 1, none⟩ = some (.int .i64 (A.length : Int))) := fun hj0 => by
        obtain ⟨g', hg3, hg4⟩ := own_at HO2.out (j := j - 1) (v := .int .i64 (A.length : Int)) (by simp [ivs, HSet.out.prev hj0])
        injection hg3 with hg3
        injection hg3 with hg3
        subst hg3
        exact hg4
      have HZ : Hid (j = 0 → A.length = 0) := fun h => by rw [HSet.out.zero h]; rfl
      have hnl : n = A.length + (B.length + C.length) := by rw [← HN.out, HSet.out.txt]; simp
      obtain ⟨e', x, rfl, hx, hfin⟩ := fin_of hset
      have hen : e' < S.size := by have := (List.getElem?_eq_some_iff.1 hx).1; have := HN.out; omega
      have hgx : (S[e']'hen).toNat = x.toNat := by
        obtain ⟨_, h2⟩ := List.getElem?_eq_some_iff.1 hx
        subst h2
        have := HS.out
        subst this
        rfl
      obtain ⟨hx0, hxr, hxm, hxc⟩ := cuts_of hset.txt
      rw [HS.out] at hx0 hxr hxm hxc
      rw [HN.out] at hxr hxc
      have Q0 := hide hset.p0
      have Q1 := hide hset.p1
      have Q2 := hide hset.p2
      have Q3 := hide hset.p3
      have Q4 := hide hset.p4
      have HX0 : Hid (ba A ++ ⟨#[10]⟩ ++ ba (B ++ C) = ba (A ++ ([] ++ 10 :: (B ++ C)))) := put_of A [10] (B ++ C)
      have HX1 : Hid (ba A ++ ⟨#[32, 35, 120, 10]⟩ ++ ba (B ++ C) = ba (A ++ ([32, 35, 120] ++ 10 :: (B ++ C)))) := put_of A [32, 35, 120, 10] (B ++ C)
      have HX2 : Hid (ba A ++ ⟨#[9, 32]⟩ ++ ba (B ++ C) = ba (A ++ ([9, 32] ++ (B ++ C)))) := put_of A [9, 32] (B ++ C)
      have HX3 : Hid (ba A ++ ba B ++ ⟨#[32, 32]⟩ ++ ba C = ba (A ++ (B ++ ([32, 32] ++ C)))) := put_of2 A B [32, 32] C
      have HX4 : Hid (ba A ++ ba B ++ ⟨#[9, 35, 32]⟩ ++ ba C = ba (A ++ (B ++ ([9, 35, 32] ++ C)))) := put_of2 A B [9, 35, 32] C
      generalize A ++ ([] ++ 10 :: (B ++ C)) = T0 at *
      generalize A ++ ([32, 35, 120] ++ 10 :: (B ++ C)) = T1 at *
      generalize A ++ ([9, 32] ++ (B ++ C)) = T2 at *
      generalize A ++ (B ++ ([32, 32] ++ C)) = T3 at *
      generalize A ++ (B ++ ([9, 35, 32] ++ C)) = T4 at *
      clear hset HSet ST he hx pk1 pk2
      have zA : (ba A).size = A.length := ba_size A
      have zR : (ba (B ++ C)).size = B.length + C.length := by rw [ba_size, List.length_append]
      have zB : (ba B).size = B.length := ba_size B
      have zC : (ba C).size = C.length := ba_size C
      generalize A.length = a at *
      generalize hb : a + B.length = to_ at *
      generalize hBC : B.length + C.length = bc at *
      generalize B.length = bl at *
      generalize C.length = cc at *
      have HZZ : Hid (SZ a bl cc bc) := ⟨by omega, by omega, by omega, by omega⟩
      have hto : to_ ≤ n := by omega
      have hato : a ≤ to_ := by omega
      generalize ba A = SA at *
      generalize ba (B ++ C) = SR at *
      generalize ba B = SB at *
      generalize ba C = SC at *
      have HXX := hide (⟨hx0, hxr, hxm, hxc⟩ : _ ∧ _ ∧ _ ∧ _)
      have HGX : Hid (∃ h : e' < S.size, (S[e']'h).toNat = x.toNat) := ⟨hen, hgx⟩
      have HFI := hide hfin
      have hdec : decide ((65536 : Int) < (n : Int) + 4) = false := decide_eq_false (by omega)
      have HD := hide hdec
      have hn4 : n ≤ 65532 := by omega
      have HZS := hide (⟨zA, zR, zB, zC⟩ : _ ∧ _ ∧ _ ∧ _)
      clear zA zR zB zC hBC hb hnl hx0 hxr hxm hxc hgx hen hfin h4 hdec
      go_upto_if 31 with fail
      rw [HD.out]
      clear h4'
      go_wp2_with fail
      go_at_call 6
      refine (PK1.out w2).mono ?_
      rintro e w3 ⟨rfl, hw3⟩
      obtain rfl := hw3.symm
      clear hw3 cl PK1
      go_upto_if 39 with fail
      go_cut [8] from 40 (fun v wx => v = .int .i64 (a : Int) ∧ wx = w2)
      case first =>
        by_cases hj0 : j = 0
        · subst hj0
          have ha := HZ.out rfl
          subst ha
          go_wp2_with fail
          go_meet
          exact ⟨rfl, rfl⟩
        · obtain ⟨j', rfl⟩ : ∃ j', j = j' + 1 := ⟨j - 1, by omega⟩
          have c1 := HPv.out hj0
          rw [show j' + 1 - 1 = j' by omega] at c1
          have hj3 : (0 : Int) < (j' : Int) + 1 := by omega
          clear HPv HZ hj0 hg2
          go_wp2_with fail
          go_meet
          exact ⟨rfl, rfl⟩
      case rest =>
      obtain ⟨rfl, hwc⟩ := hcut
      obtain rfl := hwc.symm
      clear hwc
      clear HPv HZ
      obtain ⟨hen, hgx⟩ := HGX.out
      have HFJ : Hid ((x.toNat ≠ 10 ∧ e' + 1 = to_) ∨ (x.toNat = 10 ∧ e' = to_)) := by
        rcases HFI.out with ⟨h1, h2⟩ | ⟨h1, h2⟩
        · exact .inl ⟨fun h => h1 (UInt8.toNat_inj.1 h), h2⟩
        · exact .inr ⟨by rw [h1]; rfl, h2⟩
      generalize x.toNat = c at *
      clear HFI HGX
      go_upto_if 53 with fail
      go_cut [9] from 54 (fun v wx => v = .int .i64 (to_ : Int) ∧ wx = w2)
      case first =>
        rcases HFJ.out with ⟨h1, h2⟩ | ⟨h1, h2⟩
        · have h10 : ((c : Int) == 10) = false := by simp; omega
          clear HFJ
          go_wp2_with fail
          go_meet
          exact ⟨by rw [← h2]; rfl, rfl⟩
        · subst h1
          subst h2
          clear HFJ
          go_wp2_with fail
          go_meet
          exact ⟨by simp, rfl⟩
      case rest =>
      obtain ⟨rfl, hwc⟩ := hcut
      obtain rfl := hwc.symm
      clear hwc hgx hen hg2 HFJ
      obtain ⟨hx0, hxr, hxm, hxc⟩ := HXX.out
      obtain ⟨zA, zR, zB, zC⟩ := HZS.out
      obtain ⟨y1, y2, y3, y4⟩ := HZZ.out
      clear HXX HZS HZZ
      go_wp2_with fail
      go_at_call 6
      refine (PK2.out w2).mono ?_
      rintro e w3 ⟨rfl, hw3⟩
      obtain rfl := hw3.symm
      clear hw3 ch PK2
      have hu5 : u = 0 ∨ u = 1 ∨ u = 2 ∨ u = 3 ∨ u = 4 := by omega
      rcases hu5 with rfl | rfl | rfl | rfl | rfl
--<WAYS
      · go_upto_region 28 with fail
        rw [HX0.out]
        obtain ⟨NM, dl, m, p, er, RR, R1, R2, R3, R5, R4⟩ := Q0.out
        have P1 := hide R1
        have P2 := hide R2
        have RB := hide R3
        have PL := hide R4
        rw [HS.out] at P1
        generalize ba T0 = TT at *
        have HQ : Hid (shN j 1 p = if j < p then p + 1 else p) := rfl
        generalize shN j 1 p = q at *
        clear R1 R2 R3 R4 Q0 Q1 Q2 Q3 Q4 HX0 HX1 HX2 HX3 HX4 hx0 hxr hxm hxc zA zR zB zC y1 y2 y3 y4
        go_wp2_with fail
        go_at_call 7
        refine (P1.out w2 HE2.out).mono ?_
        rintro e w3 ⟨xa, xc, rfl, k3, r3⟩
        have HB3 := hide (HB2.out.trans (k3.mono HB2.out.size))
        have HE3 := hide (HEB.out _ _ HE2.out k3)
        have HR3 := hide r3
        clear k3 r3 P1 HB2 HE2
        go_upto_region 29 with fail
        have BL4 := hide ((Below.refl w3.heap.size w3).alloc (Nat.le_refl _) (.cells #[.string NM, .int .i64 dl, .slice xa m xc] 30))
        have HB4 := hide (HB3.out.trans (BL4.out.mono HB3.out.size))
        have HE4 := hide (HEB.out _ _ HE3.out BL4.out)
        have HR4 := hide (RB.out _ _ _ _ HR3.out BL4.out)
        have hb4 := heap_alloc_new w3 (.cells #[.string NM, .int .i64 dl, .slice xa m xc] 30)
        have hs4 : (w3.alloc (.cells #[.string NM, .int .i64 dl, .slice xa m xc] 30)).heap.size = w3.heap.size + 1 := by simp
        generalize w3.alloc (.cells #[.string NM, .int .i64 dl, .slice xa m xc] 30) = w4 at *
        generalize hP1 : w3.heap.size = D at *
        have HH4 := hide hb4
        have HS4 := hide hs4
        clear hb4 hs4 BL4 HB3 HR3 HE3
        go_wp2_with fail
        go_at_call 7
        refine (P2.out w4 HE4.out).mono ?_
        rintro e w5 ⟨ya, yc, rfl, k5, r5⟩
        have HB5 := hide (HB4.out.trans (k5.mono HB4.out.size))
        have HR5 := hide (RB.out _ _ _ _ HR4.out k5)
        have HQ5 := hide r5
        have HH5 := hide ((k5.block D (by rw [HS4.out]; omega)).trans HH4.out)
        have HS5 : Hid (D + 1 ≤ w5.heap.size) := by have := k5.size; have := HS4.out; show _ ≤ _; omega
        clear k5 r5 HB4 HR4 HH4 HS4 HE4 P2
        go_upto_region 30 with fail
        have BL6 := hide ((Below.refl w5.heap.size w5).alloc (Nat.le_refl _) (.cells #[.string NM, .int .i64 dl, .slice ya m yc] 30))
        have HB6 := hide (HB5.out.trans (BL6.out.mono HB5.out.size))
        have HR6 := hide (RB.out _ _ _ _ HR5.out BL6.out)
        have HQ6 := hide (RB.out _ _ _ _ HQ5.out BL6.out)
        have hh6 := (BL6.out.block D (by have := HS5.out; omega)).trans HH5.out
        have hg6 := heap_alloc_new w5 (.cells #[.string NM, .int .i64 dl, .slice ya m yc] 30)
        generalize w5.alloc (.cells #[.string NM, .int .i64 dl, .slice ya m yc] 30) = w6 at *
        generalize hP2 : w5.heap.size = F at *
        have c0 : w6.cell? ⟨D, 0, none⟩ = some (.string NM) := cell_blk hh6 0 rfl
        have c1 : w6.cell? ⟨D, 1, none⟩ = some (.int .i64 dl) := cell_blk hh6 1 rfl
        have c2 : w6.cell? ⟨D, 2, none⟩ = some (.slice xa m xc) := cell_blk hh6 2 rfl
        have e0 : w6.cell? ⟨F, 0, none⟩ = some (.string NM) := cell_blk hg6 0 rfl
        have e1 : w6.cell? ⟨F, 1, none⟩ = some (.int .i64 dl) := cell_blk hg6 1 rfl
        have e2 : w6.cell? ⟨F, 2, none⟩ = some (.slice ya m yc) := cell_blk hg6 2 rfl
        clear hh6 hg6 HR5 HQ5 HH5 HS5 BL6 HB5
        go_wp2_with fail
        go_at_call 8
        refine (PL.out w6 xa ya xc yc HR6.out HQ6.out).mono ?_
        rintro e w8 ⟨rfl, k8⟩
        have K8 := hide (HB6.out.trans (k8.below HB6.out.size fun _ h => h.elim))
        clear k8 c0 c1 c2 e0 e1 e2 HR6 HQ6 HB6 PL
        by_cases hpj : j < p
        · have hq : q = p + 1 := by rw [HQ.out, if_pos hpj]
          subst hq
          clear HQ
          go_wp2_with fail
          go_ret
          exact ⟨by simp, K8.out⟩
        · have hq : q = p := by rw [HQ.out, if_neg hpj]
          subst hq
          clear HQ
          go_wp2_with fail
          go_ret
          exact ⟨by simp, K8.out⟩
      · go_upto_region 28 with fail
        rw [HX1.out]
        obtain ⟨NM, dl, m, p, er, RR, R1, R2, R3, R5, R4⟩ := Q1.out
        have P1 := hide R1
        have P2 := hide R2
        have RB := hide R3
        have PL := hide R4
        rw [HS.out] at P1
        generalize ba T1 = TT at *
        have HQ : Hid (shN j 1 p = if j < p then p + 1 else p) := rfl
        generalize shN j 1 p = q at *
        clear R1 R2 R3 R4 Q0 Q1 Q2 Q3 Q4 HX0 HX1 HX2 HX3 HX4 hx0 hxr hxm hxc zA zR zB zC y1 y2 y3 y4
        go_wp2_with fail
        go_at_call 7
        refine (P1.out w2 HE2.out).mono ?_
        rintro e w3 ⟨xa, xc, rfl, k3, r3⟩
        have HB3 := hide (HB2.out.trans (k3.mono HB2.out.size))
        have HE3 := hide (HEB.out _ _ HE2.out k3)
        have HR3 := hide r3
        clear k3 r3 P1 HB2 HE2
        go_upto_region 29 with fail
        have BL4 := hide ((Below.refl w3.heap.size w3).alloc (Nat.le_refl _) (.cells #[.string NM, .int .i64 dl, .slice xa m xc] 30))
        have HB4 := hide (HB3.out.trans (BL4.out.mono HB3.out.size))
        have HE4 := hide (HEB.out _ _ HE3.out BL4.out)
        have HR4 := hide (RB.out _ _ _ _ HR3.out BL4.out)
        have hb4 := heap_alloc_new w3 (.cells #[.string NM, .int .i64 dl, .slice xa m xc] 30)
        have hs4 : (w3.alloc (.cells #[.string NM, .int .i64 dl, .slice xa m xc] 30)).heap.size = w3.heap.size + 1 := by simp
        generalize w3.alloc (.cells #[.string NM, .int .i64 dl, .slice xa m xc] 30) = w4 at *
        generalize hP1 : w3.heap.size = D at *
        have HH4 := hide hb4
        have HS4 := hide hs4
        clear hb4 hs4 BL4 HB3 HR3 HE3
        go_wp2_with fail
        go_at_call 7
        refine (P2.out w4 HE4.out).mono ?_
        rintro e w5 ⟨ya, yc, rfl, k5, r5⟩
        have HB5 := hide (HB4.out.trans (k5.mono HB4.out.size))
        have HR5 := hide (RB.out _ _ _ _ HR4.out k5)
        have HQ5 := hide r5
        have HH5 := hide ((k5.block D (by rw [HS4.out]; omega)).trans HH4.out)
        have HS5 : Hid (D + 1 ≤ w5.heap.size) := by have := k5.size; have := HS4.out; show _ ≤ _; omega
        clear k5 r5 HB4 HR4 HH4 HS4 HE4 P2
        go_upto_region 30 with fail
        have BL6 := hide ((Below.refl w5.heap.size w5).alloc (Nat.le_refl _) (.cells #[.string NM, .int .i64 dl, .slice ya m yc] 30))
        have HB6 := hide (HB5.out.trans (BL6.out.mono HB5.out.size))
        have HR6 := hide (RB.out _ _ _ _ HR5.out BL6.out)
        have HQ6 := hide (RB.out _ _ _ _ HQ5.out BL6.out)
        have hh6 := (BL6.out.block D (by have := HS5.out; omega)).trans HH5.out
        have hg6 := heap_alloc_new w5 (.cells #[.string NM, .int .i64 dl, .slice ya m yc] 30)
        generalize w5.alloc (.cells #[.string NM, .int .i64 dl, .slice ya m yc] 30) = w6 at *
        generalize hP2 : w5.heap.size = F at *
        have c0 : w6.cell? ⟨D, 0, none⟩ = some (.string NM) := cell_blk hh6 0 rfl
        have c1 : w6.cell? ⟨D, 1, none⟩ = some (.int .i64 dl) := cell_blk hh6 1 rfl
        have c2 : w6.cell? ⟨D, 2, none⟩ = some (.slice xa m xc) := cell_blk hh6 2 rfl
        have e0 : w6.cell? ⟨F, 0, none⟩ = some (.string NM) := cell_blk hg6 0 rfl
        have e1 : w6.cell? ⟨F, 1, none⟩ = some (.int .i64 dl) := cell_blk hg6 1 rfl
        have e2 : w6.cell? ⟨F, 2, none⟩ = some (.slice ya m yc) := cell_blk hg6 2 rfl
        clear hh6 hg6 HR5 HQ5 HH5 HS5 BL6 HB5
        go_wp2_with fail
        go_at_call 8
        refine (PL.out w6 xa ya xc yc HR6.out HQ6.out).mono ?_
        rintro e w8 ⟨rfl, k8⟩
        have K8 := hide (HB6.out.trans (k8.below HB6.out.size fun _ h => h.elim))
        clear k8 c0 c1 c2 e0 e1 e2 HR6 HQ6 HB6 PL
        by_cases hpj : j < p
        · have hq : q = p + 1 := by rw [HQ.out, if_pos hpj]
          subst hq
          clear HQ
          go_wp2_with fail
          go_ret
          exact ⟨by simp, K8.out⟩
        · have hq : q = p := by rw [HQ.out, if_neg hpj]
          subst hq
          clear HQ
          go_wp2_with fail
          go_ret
          exact ⟨by simp, K8.out⟩
      · go_upto_region 28 with fail
        rw [HX2.out]
        obtain ⟨NM, dl, m, p, er, RR, R1, R2, R3, R5, R4⟩ := Q2.out
        have P1 := hide R1
        have P2 := hide R2
        have RB := hide R3
        have PL := hide R4
        rw [HS.out] at P1
        generalize ba T2 = TT at *
        have HQ : Hid (shN j 0 p = if j < p then p + 0 else p) := rfl
        generalize shN j 0 p = q at *
        clear R1 R2 R3 R4 Q0 Q1 Q2 Q3 Q4 HX0 HX1 HX2 HX3 HX4 hx0 hxr hxm hxc zA zR zB zC y1 y2 y3 y4
        go_wp2_with fail
        go_at_call 7
        refine (P1.out w2 HE2.out).mono ?_
        rintro e w3 ⟨xa, xc, rfl, k3, r3⟩
        have HB3 := hide (HB2.out.trans (k3.mono HB2.out.size))
        have HE3 := hide (HEB.out _ _ HE2.out k3)
        have HR3 := hide r3
        clear k3 r3 P1 HB2 HE2
        go_upto_region 29 with fail
        have BL4 := hide ((Below.refl w3.heap.size w3).alloc (Nat.le_refl _) (.cells #[.string NM, .int .i64 dl, .slice xa m xc] 30))
        have HB4 := hide (HB3.out.trans (BL4.out.mono HB3.out.size))
        have HE4 := hide (HEB.out _ _ HE3.out BL4.out)
        have HR4 := hide (RB.out _ _ _ _ HR3.out BL4.out)
        have hb4 := heap_alloc_new w3 (.cells #[.string NM, .int .i64 dl, .slice xa m xc] 30)
        have hs4 : (w3.alloc (.cells #[.string NM, .int .i64 dl, .slice xa m xc] 30)).heap.size = w3.heap.size + 1 := by simp
        generalize w3.alloc (.cells #[.string NM, .int .i64 dl, .slice xa m xc] 30) = w4 at *
        generalize hP1 : w3.heap.size = D at *
        have HH4 := hide hb4
        have HS4 := hide hs4
        clear hb4 hs4 BL4 HB3 HR3 HE3
        go_wp2_with fail
        go_at_call 7
        refine (P2.out w4 HE4.out).mono ?_
        rintro e w5 ⟨ya, yc, rfl, k5, r5⟩
        have HB5 := hide (HB4.out.trans (k5.mono HB4.out.size))
        have HR5 := hide (RB.out _ _ _ _ HR4.out k5)
        have HQ5 := hide r5
        have HH5 := hide ((k5.block D (by rw [HS4.out]; omega)).trans HH4.out)
        have HS5 : Hid (D + 1 ≤ w5.heap.size) := by have := k5.size; have := HS4.out; show _ ≤ _; omega
        clear k5 r5 HB4 HR4 HH4 HS4 HE4 P2
        go_upto_region 30 with fail
        have BL6 := hide ((Below.refl w5.heap.size w5).alloc (Nat.le_refl _) (.cells #[.string NM, .int .i64 dl, .slice ya m yc] 30))
        have HB6 := hide (HB5.out.trans (BL6.out.mono HB5.out.size))
        have HR6 := hide (RB.out _ _ _ _ HR5.out BL6.out)
        have HQ6 := hide (RB.out _ _ _ _ HQ5.out BL6.out)
        have hh6 := (BL6.out.block D (by have := HS5.out; omega)).trans HH5.out
        have hg6 := heap_alloc_new w5 (.cells #[.string NM, .int .i64 dl, .slice ya m yc] 30)
        generalize w5.alloc (.cells #[.string NM, .int .i64 dl, .slice ya m yc] 30) = w6 at *
        generalize hP2 : w5.heap.size = F at *
        have c0 : w6.cell? ⟨D, 0, none⟩ = some (.string NM) := cell_blk hh6 0 rfl
        have c1 : w6.cell? ⟨D, 1, none⟩ = some (.int .i64 dl) := cell_blk hh6 1 rfl
        have c2 : w6.cell? ⟨D, 2, none⟩ = some (.slice xa m xc) := cell_blk hh6 2 rfl
        have e0 : w6.cell? ⟨F, 0, none⟩ = some (.string NM) := cell_blk hg6 0 rfl
        have e1 : w6.cell? ⟨F, 1, none⟩ = some (.int .i64 dl) := cell_blk hg6 1 rfl
        have e2 : w6.cell? ⟨F, 2, none⟩ = some (.slice ya m yc) := cell_blk hg6 2 rfl
        clear hh6 hg6 HR5 HQ5 HH5 HS5 BL6 HB5
        go_wp2_with fail
        go_at_call 8
        refine (PL.out w6 xa ya xc yc HR6.out HQ6.out).mono ?_
        rintro e w8 ⟨rfl, k8⟩
        have K8 := hide (HB6.out.trans (k8.below HB6.out.size fun _ h => h.elim))
        clear k8 c0 c1 c2 e0 e1 e2 HR6 HQ6 HB6 PL
        by_cases hpj : j < p
        · have hq : q = p + 0 := by rw [HQ.out, if_pos hpj]
          subst hq
          clear HQ
          go_wp2_with fail
          go_ret
          exact ⟨by simp, K8.out⟩
        · have hq : q = p := by rw [HQ.out, if_neg hpj]
          subst hq
          clear HQ
          go_wp2_with fail
          go_ret
          exact ⟨by simp, K8.out⟩
      · go_upto_region 27 with fail
        go_region
        go_upto_region 28 with fail
        have HBD := hide (HB2.out.trans ((Keep.drew (fun _ => False) w2).below HB2.out.size fun _ h => h.elim))
        have HED := hide (HEB.out _ _ HE2.out ((Keep.drew (fun _ => False) w2).below (Nat.le_refl _) fun _ h => h.elim))
        clear HB2 HE2 HO2
        generalize w2.drew = wd at *
        rw [HX3.out]
        obtain ⟨NM, dl, m, p, er, RR, R1, R2, R3, R5, R4⟩ := Q3.out
        have P1 := hide R1
        have P2 := hide R2
        have RB := hide R3
        have PL := hide R4
        rw [HS.out] at P1
        generalize ba T3 = TT at *
        have HQ : Hid (shN j 0 p = if j < p then p + 0 else p) := rfl
        generalize shN j 0 p = q at *
        clear R1 R2 R3 R4 Q0 Q1 Q2 Q3 Q4 HX0 HX1 HX2 HX3 HX4 hx0 hxr hxm hxc zA zR zB zC y1 y2 y3 y4
        go_wp2_with fail
        go_at_call 7
        refine (P1.out wd HED.out).mono ?_
        rintro e w3 ⟨xa, xc, rfl, k3, r3⟩
        have HB3 := hide (HBD.out.trans (k3.mono HBD.out.size))
        have HE3 := hide (HEB.out _ _ HED.out k3)
        have HR3 := hide r3
        clear k3 r3 P1 HBD HED
        go_upto_region 29 with fail
        have BL4 := hide ((Below.refl w3.heap.size w3).alloc (Nat.le_refl _) (.cells #[.string NM, .int .i64 dl, .slice xa m xc] 30))
        have HB4 := hide (HB3.out.trans (BL4.out.mono HB3.out.size))
        have HE4 := hide (HEB.out _ _ HE3.out BL4.out)
        have HR4 := hide (RB.out _ _ _ _ HR3.out BL4.out)
        have hb4 := heap_alloc_new w3 (.cells #[.string NM, .int .i64 dl, .slice xa m xc] 30)
        have hs4 : (w3.alloc (.cells #[.string NM, .int .i64 dl, .slice xa m xc] 30)).heap.size = w3.heap.size + 1 := by simp
        generalize w3.alloc (.cells #[.string NM, .int .i64 dl, .slice xa m xc] 30) = w4 at *
        generalize hP1 : w3.heap.size = D at *
        have HH4 := hide hb4
        have HS4 := hide hs4
        clear hb4 hs4 BL4 HB3 HR3 HE3
        go_wp2_with fail
        go_at_call 7
        refine (P2.out w4 HE4.out).mono ?_
        rintro e w5 ⟨ya, yc, rfl, k5, r5⟩
        have HB5 := hide (HB4.out.trans (k5.mono HB4.out.size))
        have HR5 := hide (RB.out _ _ _ _ HR4.out k5)
        have HQ5 := hide r5
        have HH5 := hide ((k5.block D (by rw [HS4.out]; omega)).trans HH4.out)
        have HS5 : Hid (D + 1 ≤ w5.heap.size) := by have := k5.size; have := HS4.out; show _ ≤ _; omega
        clear k5 r5 HB4 HR4 HH4 HS4 HE4 P2
        go_upto_region 30 with fail
        have BL6 := hide ((Below.refl w5.heap.size w5).alloc (Nat.le_refl _) (.cells #[.string NM, .int .i64 dl, .slice ya m yc] 30))
        have HB6 := hide (HB5.out.trans (BL6.out.mono HB5.out.size))
        have HR6 := hide (RB.out _ _ _ _ HR5.out BL6.out)
        have HQ6 := hide (RB.out _ _ _ _ HQ5.out BL6.out)
        have hh6 := (BL6.out.block D (by have := HS5.out; omega)).trans HH5.out
        have hg6 := heap_alloc_new w5 (.cells #[.string NM, .int .i64 dl, .slice ya m yc] 30)
        generalize w5.alloc (.cells #[.string NM, .int .i64 dl, .slice ya m yc] 30) = w6 at *
        generalize hP2 : w5.heap.size = F at *
        have c0 : w6.cell? ⟨D, 0, none⟩ = some (.string NM) := cell_blk hh6 0 rfl
        have c1 : w6.cell? ⟨D, 1, none⟩ = some (.int .i64 dl) := cell_blk hh6 1 rfl
        have c2 : w6.cell? ⟨D, 2, none⟩ = some (.slice xa m xc) := cell_blk hh6 2 rfl
        have e0 : w6.cell? ⟨F, 0, none⟩ = some (.string NM) := cell_blk hg6 0 rfl
        have e1 : w6.cell? ⟨F, 1, none⟩ = some (.int .i64 dl) := cell_blk hg6 1 rfl
        have e2 : w6.cell? ⟨F, 2, none⟩ = some (.slice ya m yc) := cell_blk hg6 2 rfl
        clear hh6 hg6 HR5 HQ5 HH5 HS5 BL6 HB5
        go_wp2_with fail
        go_at_call 8
        refine (PL.out w6 xa ya xc yc HR6.out HQ6.out).mono ?_
        rintro e w8 ⟨rfl, k8⟩
        have K8 := hide (HB6.out.trans (k8.below HB6.out.size fun _ h => h.elim))
        clear k8 c0 c1 c2 e0 e1 e2 HR6 HQ6 HB6 PL
        by_cases hpj : j < p
        · have hq : q = p + 0 := by rw [HQ.out, if_pos hpj]
          subst hq
          clear HQ
          go_wp2_with fail
          go_ret
          exact ⟨by simp, K8.out⟩
        · have hq : q = p := by rw [HQ.out, if_neg hpj]
          subst hq
          clear HQ
          go_wp2_with fail
          go_ret
          exact ⟨by simp, K8.out⟩
      · go_upto_region 17 with fail
        go_region
        go_upto_region 28 with fail
        have HBD := hide (HB2.out.trans ((Keep.drew (fun _ => False) w2).below HB2.out.size fun _ h => h.elim))
        have HED := hide (HEB.out _ _ HE2.out ((Keep.drew (fun _ => False) w2).below (Nat.le_refl _) fun _ h => h.elim))
        clear HB2 HE2 HO2
        generalize w2.drew = wd at *
        rw [HX4.out]
        obtain ⟨NM, dl, m, p, er, RR, R1, R2, R3, R5, R4⟩ := Q4.out
        have P1 := hide R1
        have P2 := hide R2
        have RB := hide R3
        have PL := hide R4
        rw [HS.out] at P1
        generalize ba T4 = TT at *
        have HQ : Hid (shN j 0 p = if j < p then p + 0 else p) := rfl
        generalize shN j 0 p = q at *
        clear R1 R2 R3 R4 Q0 Q1 Q2 Q3 Q4 HX0 HX1 HX2 HX3 HX4 hx0 hxr hxm hxc zA zR zB zC y1 y2 y3 y4
        go_wp2_with fail
        go_at_call 7
        refine (P1.out wd HED.out).mono ?_
        rintro e w3 ⟨xa, xc, rfl, k3, r3⟩
        have HB3 := hide (HBD.out.trans (k3.mono HBD.out.size))
        have HE3 := hide (HEB.out _ _ HED.out k3)
        have HR3 := hide r3
        clear k3 r3 P1 HBD HED
        go_upto_region 29 with fail
        have BL4 := hide ((Below.refl w3.heap.size w3).alloc (Nat.le_refl _) (.cells #[.string NM, .int .i64 dl, .slice xa m xc] 30))
        have HB4 := hide (HB3.out.trans (BL4.out.mono HB3.out.size))
        have HE4 := hide (HEB.out _ _ HE3.out BL4.out)
        have HR4 := hide (RB.out _ _ _ _ HR3.out BL4.out)
        have hb4 := heap_alloc_new w3 (.cells #[.string NM, .int .i64 dl, .slice xa m xc] 30)
        have hs4 : (w3.alloc (.cells #[.string NM, .int .i64 dl, .slice xa m xc] 30)).heap.size = w3.heap.size + 1 := by simp
        generalize w3.alloc (.cells #[.string NM, .int .i64 dl, .slice xa m xc] 30) = w4 at *
        generalize hP1 : w3.heap.size = D at *
        have HH4 := hide hb4
        have HS4 := hide hs4
        clear hb4 hs4 BL4 HB3 HR3 HE3
        go_wp2_with fail
        go_at_call 7
        refine (P2.out w4 HE4.out).mono ?_
        rintro e w5 ⟨ya, yc, rfl, k5, r5⟩
        have HB5 := hide (HB4.out.trans (k5.mono HB4.out.size))
        have HR5 := hide (RB.out _ _ _ _ HR4.out k5)
        have HQ5 := hide r5
        have HH5 := hide ((k5.block D (by rw [HS4.out]; omega)).trans HH4.out)
        have HS5 : Hid (D + 1 ≤ w5.heap.size) := by have := k5.size; have := HS4.out; show _ ≤ _; omega
        clear k5 r5 HB4 HR4 HH4 HS4 HE4 P2
        go_upto_region 30 with fail
        have BL6 := hide ((Below.refl w5.heap.size w5).alloc (Nat.le_refl _) (.cells #[.string NM, .int .i64 dl, .slice ya m yc] 30))
        have HB6 := hide (HB5.out.trans (BL6.out.mono HB5.out.size))
        have HR6 := hide (RB.out _ _ _ _ HR5.out BL6.out)
        have HQ6 := hide (RB.out _ _ _ _ HQ5.out BL6.out)
        have hh6 := (BL6.out.block D (by have := HS5.out; omega)).trans HH5.out
        have hg6 := heap_alloc_new w5 (.cells #[.string NM, .int .i64 dl, .slice ya m yc] 30)
        generalize w5.alloc (.cells #[.string NM, .int .i64 dl, .slice ya m yc] 30) = w6 at *
        generalize hP2 : w5.heap.size = F at *
        have c0 : w6.cell? ⟨D, 0, none⟩ = some (.string NM) := cell_blk hh6 0 rfl
        have c1 : w6.cell? ⟨D, 1, none⟩ = some (.int .i64 dl) := cell_blk hh6 1 rfl
        have c2 : w6.cell? ⟨D, 2, none⟩ = some (.slice xa m xc) := cell_blk hh6 2 rfl
        have e0 : w6.cell? ⟨F, 0, none⟩ = some (.string NM) := cell_blk hg6 0 rfl
        have e1 : w6.cell? ⟨F, 1, none⟩ = some (.int .i64 dl) := cell_blk hg6 1 rfl
        have e2 : w6.cell? ⟨F, 2, none⟩ = some (.slice ya m yc) := cell_blk hg6 2 rfl
        clear hh6 hg6 HR5 HQ5 HH5 HS5 BL6 HB5
        go_wp2_with fail
        go_at_call 8
        refine (PL.out w6 xa ya xc yc HR6.out HQ6.out).mono ?_
        rintro e w8 ⟨rfl, k8⟩
        have K8 := hide (HB6.out.trans (k8.below HB6.out.size fun _ h => h.elim))
        clear k8 c0 c1 c2 e0 e1 e2 HR6 HQ6 HB6 PL
        by_cases hpj : j < p
        · have hq : q = p + 0 := by rw [HQ.out, if_pos hpj]
          subst hq
          clear HQ
          go_wp2_with fail
          go_ret
          exact ⟨by simp, K8.out⟩
        · have hq : q = p := by rw [HQ.out, if_neg hpj]
          subst hq
          clear HQ
          go_wp2_with fail
          go_ret
          exact ⟨by simp, K8.out⟩
-->WAYS
  · have h4' : (65536 : Int) < (n : Int) + 4 := by omega
    go_wp2_with fail
    go_ret
    exact ⟨rfl, HB2.out⟩
end U.Bl
end Go.Proofs.YtkmnfmgodajjpaaGreatDoor
