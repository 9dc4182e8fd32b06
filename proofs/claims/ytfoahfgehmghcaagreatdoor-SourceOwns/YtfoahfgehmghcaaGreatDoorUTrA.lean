import Derived.Test.YtfoahfgehmghcaaGreatDoorGRfD
import Derived.Deep.CutRange
import Derived.Test.YtfoahfgehmghcaaGreatDoorUTrN
/- The document's Check (escapementref10), whole. -/
namespace Go.Proofs.YtfoahfgehmghcaaGreatDoor
namespace Gr
open Go.RowKit

theorem wrR {x : Int} (h1 : -9223372036854775808 ≤ x) (h2 : x ≤ 9223372036854775807) : IntKind.i64.wrap x = x := by
  rw [IntKind.wrap_i64]; omega
/-- cN, from a node on, by what the document's node says -/
theorem cN_step {xs : List No} {i : Nat} {x : No} (hx : xs[i]? = some x) (seen : List ByteArray) (hs : ∀ t, t ∈ seen ↔ ∃ y ∈ xs.take i, y.q.nm = t) :
    cN xs.length i seen (xs.drop i) = if nCode xs i x ≠ 0 then (i + 1, nCode xs i x) else cN xs.length (i + 1) (x.q.nm :: seen) (xs.drop (i + 1)) := by
  obtain ⟨hl, hx'⟩ := List.getElem?_eq_some_iff.1 hx
  rw [List.drop_eq_getElem_cons hl, hx', cN]
  have e : seen.any (fun t => decide (t = x.q.nm)) = (xs.take i).any (fun t => decide (t.q.nm = x.q.nm)) := by
    rw [Bool.eq_iff_iff]
    simp only [List.any_eq_true, decide_eq_true_eq]
    constructor
    · rintro ⟨t, ht, rfl⟩; exact (hs _).1 ht
    · rintro ⟨y, hy, e⟩; exact ⟨_, (hs _).2 ⟨y, hy, rfl⟩, e⟩
  rw [e]
  unfold nCode
  split
  · simp
  · split
    · simp
    · split <;> simp
theorem seen_step {xs : List No} {i : Nat} {x : No} (hx : xs[i]? = some x) {seen : List ByteArray} (hs : ∀ t, t ∈ seen ↔ ∃ y ∈ xs.take i, y.q.nm = t) : ∀ t, t ∈ x.q.nm :: seen ↔ ∃ y ∈ xs.take (i + 1), y.q.nm = t := by
  intro t
  rw [take_snoc xs i x hx, List.mem_cons, hs t]
  constructor
  · rintro (rfl | ⟨y, hy, e⟩)
    · exact ⟨x, by simp, rfl⟩
    · exact ⟨y, List.mem_append_left _ hy, e⟩
  · rintro ⟨y, hy, e⟩
    rcases List.mem_append.1 hy with h | h
    · exact .inr ⟨y, h, e⟩
    · exact .inl (by rw [List.mem_singleton.1 h] at e; exact e.symm)
theorem no_waits {xs : List No} {x b : Nat} (h : xs.length ≤ x) : ¬ Waits (eg xs) x b := by
  have he : eg xs x = [] := by unfold eg; rw [List.getElem?_eq_none h]
  intro k
  rcases k.cases with h | ⟨y, h, _⟩
  · rw [he] at h; cases h
  · rw [he] at h; cases h

set_option maxRecDepth 100000 in
set_option maxHeartbeats 20000000 in
theorem refCheck_any (nm : ByteArray) (dl : Int) (s : Option Addr × Nat × Nat) (xs : List No) (B : Nat) (w : World) (hP : RdP B w s xs) (hB : B ≤ w.heap.size) (hsz : Sz nm xs) :
    Calls Tryz.prog 16 #[.agg #[.string nm, .int .i64 dl, .slice s.1 s.2.1 s.2.2]] w fun e w' => e = .returned (.tuple #[.int .i64 ((chk nm dl xs).1 : Nat), .int .i64 ((chk nm dl xs).2 : Nat)]) ∧ Keep (fun _ => False) w w' := by
  obtain ⟨a, n, c⟩ := s
  have hn : n = xs.length := hP.1
  have hnb : n ≤ 1172812402926 := hP.2.1
  have HR : Hid (chk nm dl xs = if cW nm dl xs ≠ 0 then (0, cW nm dl xs) else if (cN xs.length 0 [] xs).2 ≠ 0 then cN xs.length 0 [] xs else if cyc xs ≠ 0 then (cyc xs, 106) else (0, 0)) := rfl
  have HCW : Hid (cW nm dl xs = if !isNm nm then 100 else if !wI dl 1 1099511627776 then 101 else if !wI n 1 64 || decide (256 < edges xs) then 102 else 0) := by show _ = _; unfold cW; rw [hn]
  generalize hres : chk nm dl xs = r at *
  have IS := hide (fun W => refIsName_any nm W hsz.1)
  have ND := hide (fun i x hx W h => refNode_any nm dl (a, n, c) xs B W h i x hx hsz.2)
  have WA := hide (fun hv i hi W h hb => refWaits_any nm dl (a, n, c) xs B W h hb hv i hi)
  have HN := hide hn
  have K1 := Keep.alloc (fun _ => False) w (.cells #[.string nm, .int .i64 dl, .slice a n c] 24)
  have hb1 := heap_alloc_new w (.cells #[.string nm, .int .i64 dl, .slice a n c] 24)
  have HB1 := hide hb1
  have HP := hide hP
  have KW := hide K1
  have HBB := hide hB
  clear hP hsz K1 hb1 hres hn hB
  go_enter Tryz.func16, Tryz.ntmps16
  go_upto_region 1 with fail
  generalize w.alloc (.cells #[.string nm, .int .i64 dl, .slice a n c] 24) = w2 at *
  generalize hN : w.heap.size = N at *
  have HM : Hid (∀ W, Keep (fun _ => False) w2 W → (W.cell? ⟨N, 0, none⟩ = some (.string nm) ∧ W.cell? ⟨N, 1, none⟩ = some (.int .i64 dl) ∧ W.cell? ⟨N, 2, none⟩ = some (.slice a n c)) ∧ RdP B W (a, n, c) xs ∧ B ≤ W.heap.size ∧ Keep (fun _ => False) w W) := fun W k =>
    ⟨⟨cell_blk (k.blk HB1.out (fun h => h)) 0 rfl, cell_blk (k.blk HB1.out (fun h => h)) 1 rfl, cell_blk (k.blk HB1.out (fun h => h)) 2 rfl⟩, HP.out.new (KW.out.more k), by have := HBB.out; have := (KW.out.more k).size; omega, KW.out.more k⟩
  clear HP KW HB1 HBB
  obtain ⟨⟨c0, c1, c2⟩, _⟩ := HM.out w2 (Keep.refl _ _)
  have KF := hide (HM.out w2 (Keep.refl _ _)).2.2.2
  go_wp2_with fail
  go_at_call 35
  refine (IS.out _).mono ?_
  rintro e w3 ⟨rfl, rfl⟩
  clear IS
  generalize isNm nm = q0 at *
  cases q0
  · obtain rfl : r = (0, 100) := by rw [HR.out, HCW.out]; rfl
    clear HR HCW
    go_wp2_with fail
    go_ret2
    exact ⟨rfl, KF.out⟩
  by_cases d1 : dl < 1
  · obtain rfl : r = (0, 101) := by
      have : wI dl 1 1099511627776 = false := by unfold wI; simp; omega
      rw [HR.out, HCW.out, this]; rfl
    clear HR HCW
    go_wp2_with fail
    go_ret2
    exact ⟨rfl, KF.out⟩
  by_cases d2 : 1099511627776 < dl
  · obtain rfl : r = (0, 101) := by
      have : wI dl 1 1099511627776 = false := by unfold wI; simp; omega
      rw [HR.out, HCW.out, this]; rfl
    clear HR HCW
    go_wp2_with fail
    go_ret2
    exact ⟨rfl, KF.out⟩
  have HD : Hid (wI dl 1 1099511627776 = true) := by show _ = _; unfold wI; simp; omega
  by_cases d3 : n < 1
  · obtain rfl : r = (0, 102) := by
      have : wI n 1 64 = false := by unfold wI; simp; omega
      rw [HR.out, HCW.out, HD.out, this]; rfl
    have d3' : (n : Int) < 1 := by omega
    clear HR HCW
    go_wp2_with fail
    go_ret2
    exact ⟨rfl, KF.out⟩
  have d3' : ¬ (n : Int) < 1 := by omega
  by_cases d4 : 64 < n
  · obtain rfl : r = (0, 102) := by
      have : wI n 1 64 = false := by unfold wI; simp; omega
      rw [HR.out, HCW.out, HD.out, this]; rfl
    have d4' : (64 : Int) < (n : Int) := by omega
    clear HR HCW
    go_wp2_with fail
    go_ret2
    exact ⟨rfl, KF.out⟩
  have d4' : ¬ (64 : Int) < (n : Int) := by omega
  have HCW2 : Hid (cW nm dl xs = if 256 < edges xs then 102 else 0) := by
    have h1 : wI n 1 64 = true := by unfold wI; simp; omega
    show cW nm dl xs = if 256 < edges xs then 102 else 0
    have := HCW.out
    rw [HD.out, h1] at this
    simpa using this
  clear HCW HD KF
  have hn64 : n ≤ 64 := by omega
  have hn1 : 1 ≤ n := by omega
  go_wp2_with fail
  clear d1 d2 d3 d4 d3' d4'
  go_loopw [4, 5] (fun cv iv wr => ∃ (m i : Nat), cv = .int .i64 (m : Nat) ∧ iv = .int .i64 (i : Nat) ∧ i ≤ n ∧ m ≤ i * 35184372088832 ∧ Hid (m = edges (xs.take i) ∧ Keep (fun _ => False) w3 wr)) (fun _ iv _ => n - (intOf iv).toNat)
  case atStart => exact ⟨0, 0, rfl, rfl, Nat.zero_le _, by omega, rfl, Keep.refl _ _⟩
  case round =>
    clear c0 c1 c2
    obtain ⟨m, i, rfl, rfl, hi, hm, HD⟩ := hrel
    obtain ⟨⟨c0, c1, c2⟩, hp, _⟩ := HM.out wr HD.out.2
    by_cases hlt : i < n
    · obtain ⟨g, off, x, ha, hg, hx, hNN, hz1, hz2⟩ := hp.at (i := i) hlt
      have ha : a = some ⟨g, off, none⟩ := ha
      subst ha
      have HX := hide hx
      have L1 : Hid (x.q.ne.2.1 = x.nl.length) := hz1.1
      have L2 : Hid (x.q.af.2.1 = x.al.length) := hz2.1
      have l1 : x.q.ne.2.1 ≤ 17592186044416 := hz1.2.1
      have l2 : x.q.af.2.1 ≤ 17592186044416 := hz2.2.1
      obtain ⟨⟨nmx, la, bu, cl, be, ba, ca, ji, ⟨ne1, ne2, ne3⟩, ⟨af1, af2, af3⟩⟩, nl, al⟩ := x
      obtain ⟨_, _, _, _, _, _, _, _, n8, n9⟩ := hNN.all
      clear hx hNN hz1 hz2 hp
      simp only at n8 n9 L1 L2 l1 l2
      have HLT := hide hlt
      have w1 : IntKind.i64.wrap ((m : Int) + (ne2 : Int)) = (m : Int) + (ne2 : Int) := wrR (by omega) (by omega)
      have w2' : IntKind.i64.wrap ((m : Int) + (ne2 : Int) + (af2 : Int)) = (m : Int) + (ne2 : Int) + (af2 : Int) := wrR (by omega) (by omega)
      haveI := behindNE wr
      have e2 := fun u : Behind wr => u.cell c2
      have e8 := fun u : Behind wr => u.cell n8
      have e9 := fun u : Behind wr => u.cell n9
      go_upto_region 11 with fail
      refine quiet_behind (by kernel_rfl) (by kernel_rfl) ?_
      repeat (go_big_quiet_step (fail))
      refine wpQuiet_nil ?_
      intro _ hw'
      obtain ⟨u, hw''⟩ := hw'
      subst hw''
      have KU := hide (HD.out.2.more u.keep)
      clear e2 e8 e9
      go_wp2
      go_roundw
      · refine ⟨m + (ne2 + af2), i + 1, by go_num, rfl, by omega, by omega, ?_, KU.out⟩
        rw [take_snoc _ _ _ HX.out, HD.out.1, L1.out, L2.out]
        simp [edges]
      · show n - ((i : Int) + 1).toNat < n - (i : Int).toNat
        omega
    · obtain rfl : i = n := by omega
      have HKR := hide HD.out.2
      have HME : Hid (m = edges xs) := by
        have := HD.out.1
        rw [HN.out, List.take_length] at this
        exact this
      clear HD hp hlt
      by_cases d5 : 256 < m
      · obtain rfl : r = (0, 102) := by
          rw [HR.out, HCW2.out, ← HME.out, if_pos d5]; rfl
        have d5' : (256 : Int) < (m : Int) := by omega
        have KF := hide (HM.out wr HKR.out).2.2.2
        clear HR HCW2
        go_wp2_with fail
        go_ret2
        exact ⟨rfl, KF.out⟩
      have d5' : ¬ (256 : Int) < (m : Int) := by omega
      have HR2 : Hid (r = if (cN xs.length 0 [] xs).2 ≠ 0 then cN xs.length 0 [] xs else if cyc xs ≠ 0 then (cyc xs, 106) else (0, 0)) := by
        have h0 : cW nm dl xs = 0 := by rw [HCW2.out, ← HME.out, if_neg d5]
        have := HR.out
        rw [h0, if_neg (by simp)] at this
        exact this
      clear HR HCW2 HME hm
      go_wp2_with fail
      go_loopw [6] (fun iv wr => ∃ (j : Nat), iv = .int .i64 (j : Nat) ∧ j ≤ i ∧ Hid (Keep (fun _ => False) w3 wr ∧ ∃ seen, (∀ t, t ∈ seen ↔ ∃ y ∈ xs.take j, y.q.nm = t) ∧ cN xs.length j seen (xs.drop j) = cN xs.length 0 [] xs)) (fun iv _ => i - (intOf iv).toNat)
      case atStart => exact ⟨0, rfl, Nat.zero_le _, HKR.out, [], fun t => by simp, rfl⟩
      case round =>
        clear c0 c1 c2 HKR
        obtain ⟨j, rfl, hj, HD⟩ := hrel
        obtain ⟨hK, seen, hs1, hs2⟩ := HD.out
        have HKR := hide hK
        have HS1 := hide hs1
        have HS2 := hide hs2
        clear HD hK hs1 hs2
        obtain ⟨⟨c0, c1, c2⟩, hp, hb, kf⟩ := HM.out wr HKR.out
        by_cases hlt : j < i
        · obtain ⟨g, off, x, ha, hg, hx, hNN, hz1, hz2⟩ := hp.at (i := j) hlt
          have ND1 := hide (ND.out j x hx wr hp)
          have HX := hide hx
          have HST := hide (cN_step hx seen HS1.out)
          clear hx hNN hz1 hz2 hp ha
          have HLT := hide hlt
          generalize nCode xs j x = nc at *
          go_wp2_with fail
          go_at_call 36
          refine ND1.out.mono ?_
          rintro e w4 ⟨rfl, k4⟩
          have K4 := hide (HKR.out.more k4)
          clear k4 ND1
          by_cases h0 : nc = 0
          · subst h0
            have HS3 : Hid (cN xs.length (j + 1) (x.q.nm :: seen) (xs.drop (j + 1)) = cN xs.length 0 [] xs) := by
              have := HST.out
              rw [if_neg (by simp)] at this
              exact this.symm.trans HS2.out
            have HS4 := hide (seen_step HX.out HS1.out)
            clear HST HS1 HS2
            go_wp2_with fail
            go_roundw
            · exact ⟨j + 1, rfl, by omega, K4.out, _, HS4.out, HS3.out⟩
            · show i - ((j : Int) + 1).toNat < i - (j : Int).toNat
              omega
          · obtain rfl : r = (j + 1, nc) := by
              have h1 := HST.out
              rw [if_pos h0] at h1
              have h2 := HS2.out
              rw [h1] at h2
              rw [HR2.out, ← h2, if_pos h0]
            have KF := hide (HM.out w4 K4.out).2.2.2
            have h0' : ((nc : Int) != 0) = true := by simp; omega
            clear HST HS1 HS2 HR2 h0
            go_wp2_with fail
            go_ret2
            exact ⟨by go_num, KF.out⟩
        · obtain rfl : j = i := by omega
          have HZ : Hid ((cN xs.length 0 [] xs).2 = 0) := by
            have := HS2.out
            rw [List.drop_eq_nil_of_le (by have := HN.out; omega)] at this
            rw [← this]; rfl
          have HV : Hid (Val xs) := cN_val (by have := HN.out; omega) HZ.out
          have HR3 : Hid (r = if cyc xs ≠ 0 then (cyc xs, 106) else (0, 0)) := by
            have := HR2.out
            rw [if_neg (by rw [HZ.out]; simp)] at this
            exact this
          clear HR2 HZ HS1 HS2 hp hlt ND
          go_wp2_with fail
          go_loopw [8] (fun iv wr => ∃ (k : Nat), iv = .int .i64 (k : Nat) ∧ k ≤ j ∧ Hid (Keep (fun _ => False) w3 wr ∧ ∀ t, t < k → ¬ Waits (eg xs) t t)) (fun iv _ => j - (intOf iv).toNat)
          case atStart => exact ⟨0, rfl, Nat.zero_le _, HKR.out, fun t h => absurd h (Nat.not_lt_zero _)⟩
          case round =>
            clear c0 c1 c2 HKR kf hb
            obtain ⟨k, rfl, hk, HD⟩ := hrel
            have HKR := hide HD.out.1
            have HNW := hide HD.out.2
            clear HD
            obtain ⟨⟨c0, c1, c2⟩, hp, hb, kf⟩ := HM.out wr HKR.out
            by_cases hlt : k < j
            · have WA1 := hide (WA.out HV.out k (by have := HN.out; omega) wr hp hb)
              have HLT := hide hlt
              clear hp
              go_wp2_with fail
              go_at_call 37
              refine WA1.out.mono ?_
              rintro e w4 ⟨M, rfl, f, hsn, hfw, k4⟩
              have K4 := hide (HKR.out.more k4)
              have hck := (hsn.at (j := k) (by have := HN.out; have := HLT.out; omega)).1
              have HFW := hide (hfw k (by have := HN.out; have := HLT.out; omega))
              have hxl : xs.length = j := HN.out.symm
              rw [hxl]
              clear WA1 k4 hsn hfw hxl
              cases hfk : f k with
              | true =>
                rw [hfk] at hck
                obtain rfl : r = (k + 1, 106) := by
                  have hw := HFW.out.1 hfk
                  have hcy : IsCyc (eg xs) (k + 1) := .inr ⟨k, rfl, hw, fun x hx => Nat.le_of_not_lt fun hl => HNW.out x hl hx⟩
                  rw [HR3.out, cyc_eq hcy, if_pos (by omega)]
                have KF := hide (HM.out w4 K4.out).2.2.2
                clear HR3 HFW HNW
                go_wp2_with fail
                go_ret2
                exact ⟨by go_num, KF.out⟩
              | false =>
                rw [hfk] at hck
                have HN2 : Hid (∀ t, t < k + 1 → ¬ Waits (eg xs) t t) := fun t ht hw => by
                  by_cases e : t = k
                  · subst e; rw [HFW.out.2 hw] at hfk; cases hfk
                  · exact HNW.out t (by omega) hw
                clear HFW HNW hfk
                go_wp2_with fail
                go_roundw
                · exact ⟨k + 1, rfl, by omega, K4.out, HN2.out⟩
                · show j - ((k : Int) + 1).toNat < j - (k : Int).toNat
                  omega
            · obtain rfl : k = j := by omega
              obtain rfl : r = (0, 0) := by
                have hcy : IsCyc (eg xs) 0 := .inl ⟨rfl, fun x hx => by
                  by_cases hl : x < k
                  · exact HNW.out x hl hx
                  · exact no_waits (by have := HN.out; omega) hx⟩
                rw [HR3.out, cyc_eq hcy, if_neg (by simp)]
              have KF := hide kf
              clear HR3 HNW hp kf
              go_wp2_with fail
              go_ret2
              exact ⟨rfl, KF.out⟩
end Gr
end Go.Proofs.YtfoahfgehmghcaaGreatDoor

/- The document's Text: the pieces of its walk. -/
namespace Go.Proofs.YtfoahfgehmghcaaGreatDoor
namespace U
namespace Tr
open Go.RowKit

/-- a number that decimal writes -/
def d64 (n : Int) : Prop := 0 ≤ n ∧ n ≤ 9223372036854775807
theorem num_of {nm : List UInt8} {dl : Int} {xs : List Gr.No} (h : (Gr.chk (ba nm) dl xs).2 = 0) : d64 dl ∧ ∀ x ∈ xs, d64 x.q.la ∧ d64 x.q.bu ∧ d64 x.q.cl ∧ d64 x.q.be ∧ d64 x.q.ba ∧ d64 x.q.ca ∧ d64 x.q.ji := by
  obtain ⟨h1, h2, h3, h4, h5⟩ := Gr.chk_ok h
  have hn := cN_each _ _ _ _ h2
  unfold Gr.cW at h1
  split at h1
  · simp at h1
  · rename_i c1
    split at h1
    · simp at h1
    · rename_i c2
      split at h1
      · simp at h1
      · rename_i c3
        simp only [Bool.not_eq_true', Bool.not_eq_false, Bool.or_eq_true, not_or, decide_eq_true_eq] at c1 c2 c3
        refine ⟨?_, fun x hx => ?_⟩
        · simp [Gr.wI] at c2
          exact ⟨by omega, by omega⟩
        · obtain ⟨g1, g2⟩ := hn x hx
          unfold Gr.fOk at g2
          simp [Gr.wI] at g2
          refine ⟨⟨?_, ?_⟩, ⟨?_, ?_⟩, ⟨?_, ?_⟩, ⟨?_, ?_⟩, ⟨?_, ?_⟩, ⟨?_, ?_⟩, ⟨?_, ?_⟩⟩ <;> omega
theorem calls_b {f : FuncId} {args : Array Value} {W : World} (u : Gr.Behind W) {v : Value}
    (h : Calls Tryz.prog f args u.1 fun e w' => e = .returned v ∧ Below u.1.heap.size u.1 w') : Calls Tryz.prog f args u.1 fun e w'' => e = .returned v ∧ ∃ u' : Gr.Behind W, w'' = u'.1 :=
  h.mono fun _ w'' ⟨he, hb⟩ => ⟨he, ⟨w'', u.2.trans (hb.mono u.2.size)⟩, rfl⟩
theorem dec_lit {n : Int} (h : d64 n) (w : World) : Calls Tryz.prog 17 #[.int .i64 n] w fun e w' => e = .returned (.string (ba (Lib.itoa n))) ∧ Below w.heap.size w w' := decimal_any n h.1 h.2 w
theorem dec_sz {n : Int} (h : d64 n) : (ba (Lib.itoa n)).size ≤ 20 := itoa_len n h.1 h.2
/-- a number and its text -/
structure Dc (n : Int) (s : ByteArray) : Prop where
  h : d64 n
  e : s = ba (Lib.itoa n)
theorem dcall {n : Int} {s : ByteArray} (h : Dc n s) (w : World) : Calls Tryz.prog 17 #[.int .i64 n] w fun e w' => e = .returned (.string s) ∧ Below w.heap.size w w' := by rw [h.e]; exact dec_lit h.h w
theorem Dc.mk1 {n : Int} (h : d64 n) : Dc n (ba (Lib.itoa n)) := ⟨h, rfl⟩
/-- a call of names, wherever memory stands behind a world -/
structure Nc (l p : Value) (wd t : ByteArray) (W0 : World) : Prop where
  c : ∀ u : Gr.Behind W0, Calls Tryz.prog 18 #[p, .string wd, l] u.1 fun e w' => e = .returned (.string t) ∧ Below u.1.heap.size u.1 w'
theorem ncall {l p : Value} {wd t : ByteArray} {W0 : World} (h : Nc l p wd t W0) (u : Gr.Behind W0) : Calls Tryz.prog 18 #[p, .string wd, l] u.1 fun e w' => e = .returned (.string t) ∧ Below u.1.heap.size u.1 w' := h.c u
theorem planE (nm : List UInt8) (dl : Int) (xs : List Gr.No) : ((((⟨#[112, 108, 97, 110, 32]⟩ : ByteArray) ++ ba nm) ++ ⟨#[32, 100, 101, 97, 100, 108, 105, 110, 101, 32]⟩) ++ ba (Lib.itoa dl)) ++ ⟨#[10]⟩ = ba (upto nm dl xs 0) := by
  rw [upto_zero, ← planS_eq]
  unfold planS
  rw [← ba_cat, ← ba_cat, ← ba_cat, ← ba_cat]
  rfl
theorem nodeE (L nm : List UInt8) (la bu cl : Int) : (((((((ba L ++ (⟨#[110, 111, 100, 101, 32]⟩ : ByteArray)) ++ ba nm) ++ ⟨#[32, 108, 97, 110, 101, 32]⟩) ++ ba (Lib.itoa la)) ++ ⟨#[32, 98, 117, 100, 103, 101, 116, 32]⟩) ++ ba (Lib.itoa bu)) ++ ⟨#[32, 99, 108, 111, 115, 101, 32]⟩) ++ ba (Lib.itoa cl) = ba (L ++ nodeS nm la bu cl) := by
  unfold nodeS
  rw [show (⟨#[110, 111, 100, 101, 32]⟩ : ByteArray) = ba [110, 111, 100, 101, 32] from rfl, show (⟨#[32, 108, 97, 110, 101, 32]⟩ : ByteArray) = ba [32, 108, 97, 110, 101, 32] from rfl, show (⟨#[32, 98, 117, 100, 103, 101, 116, 32]⟩ : ByteArray) = ba [32, 98, 117, 100, 103, 101, 116, 32] from rfl, show (⟨#[32, 99, 108, 111, 115, 101, 32]⟩ : ByteArray) = ba [32, 99, 108, 111, 115, 101, 32] from rfl]
  simp only [ba_cat, List.append_assoc]
theorem beatE (L : List UInt8) (be : Int) (h : be ≠ 0) : (ba L ++ (⟨#[32, 98, 101, 97, 116, 32]⟩ : ByteArray)) ++ ba (Lib.itoa be) = ba (L ++ beatS be) := by
  unfold beatS
  rw [if_neg h, show (⟨#[32, 98, 101, 97, 116, 32]⟩ : ByteArray) = ba [32, 98, 101, 97, 116, 32] from rfl]
  simp only [ba_cat, List.append_assoc]
theorem backE (L : List UInt8) (bs ca : Int) (h : ¬ (bs = 1 ∧ ca = 1)) : (((ba L ++ (⟨#[32, 98, 97, 99, 107, 111, 102, 102, 32]⟩ : ByteArray)) ++ ba (Lib.itoa bs)) ++ ⟨#[32, 116, 111, 32]⟩) ++ ba (Lib.itoa ca) = ba (L ++ backS bs ca) := by
  unfold backS
  rw [if_neg h, show (⟨#[32, 98, 97, 99, 107, 111, 102, 102, 32]⟩ : ByteArray) = ba [32, 98, 97, 99, 107, 111, 102, 102, 32] from rfl, show (⟨#[32, 116, 111, 32]⟩ : ByteArray) = ba [32, 116, 111, 32] from rfl]
  simp only [ba_cat, List.append_assoc]
theorem jitE (L : List UInt8) (ji : Int) (h : ji ≠ 0) : (ba L ++ (⟨#[32, 106, 105, 116, 116, 101, 114, 32]⟩ : ByteArray)) ++ ba (Lib.itoa ji) = ba (L ++ jitS ji) := by
  unfold jitS
  rw [if_neg h, show (⟨#[32, 106, 105, 116, 116, 101, 114, 32]⟩ : ByteArray) = ba [32, 106, 105, 116, 116, 101, 114, 32] from rfl]
  simp only [ba_cat, List.append_assoc]
theorem lastE (nm : List UInt8) (dl : Int) (xs : List Gr.No) (i : Nat) (x : Gr.No) (hx : xs[i]? = some x) : ((ba (upto nm dl xs i ++ nodeS x.q.nm.data.toList x.q.la x.q.bu x.q.cl ++ beatS x.q.be ++ backS x.q.ba x.q.ca ++ jitS x.q.ji) ++ (⟨#[10]⟩ : ByteArray)) ++ ba (edgeT kwNeeds2 x.nl xs)) ++ ba (edgeT kwAfter2 x.al xs) = ba (upto nm dl xs (i + 1)) := by
  rw [upto_step nm dl xs i x hx]
  unfold nodeT noW
  rw [← nodeS_eq, show (⟨#[10]⟩ : ByteArray) = ba [10] from rfl]
  simp only [ba_cat, List.append_assoc]
theorem node_len {nm : List UInt8} {la bu cl : Int} (h : nm.length ≤ 40) (h1 : d64 la) (h2 : d64 bu) (h3 : d64 cl) : (nodeS nm la bu cl).length ≤ 140 := by
  have a1 := dec_sz h1; have a2 := dec_sz h2; have a3 := dec_sz h3
  rw [ba_size] at a1 a2 a3
  unfold nodeS
  simp only [List.length_append, List.length_cons, List.length_nil]
  omega
theorem beat_len {be : Int} (h1 : d64 be) : (beatS be).length ≤ 40 := by
  have a1 := dec_sz h1
  rw [ba_size] at a1
  unfold beatS
  split
  · simp
  · simp only [List.length_append, List.length_cons, List.length_nil]
    omega
theorem back_len {bs ca : Int} (h1 : d64 bs) (h2 : d64 ca) : (backS bs ca).length ≤ 60 := by
  have a1 := dec_sz h1; have a2 := dec_sz h2
  rw [ba_size] at a1 a2
  unfold backS
  split
  · simp
  · simp only [List.length_append, List.length_cons, List.length_nil]
    omega
theorem jit_len {ji : Int} (h1 : d64 ji) : (jitS ji).length ≤ 40 := by
  have a1 := dec_sz h1
  rw [ba_size] at a1
  unfold jitS
  split
  · simp
  · simp only [List.length_append, List.length_cons, List.length_nil]
    omega
end Tr
end U
end Go.Proofs.YtfoahfgehmghcaaGreatDoor
