/- The document's Check (escapementref10): Waits, the walk. -/
import Derived.Test.YtfoahfgehmghcaaGreatDoorGRfC
import Derived.Deep.CutRange
namespace Go.Proofs.YtfoahfgehmghcaaGreatDoor
namespace Gr
open Go.RowKit

theorem Keep.mix {S : Nat → Prop} {a b c : World} (h : Keep (fun _ => False) a b) (k : Keep S b c) (hS : ∀ i, S i → a.heap.size ≤ i) : Keep (fun _ => False) a c :=
  ⟨k.os.trans h.os, k.tape.trans h.tape, k.output.trans h.output, Nat.le_trans h.size k.size, fun i hi _ => (k.block i (by have := h.size; omega) (fun hs => by have := hS i hs; omega)).trans (h.block i hi (fun f => f))⟩
set_option maxRecDepth 100000 in
set_option maxHeartbeats 40000000 in
theorem refWaits_any (nm : ByteArray) (dl : Int) (s : Option Addr × Nat × Nat) (xs : List No) (B : Nat) (w : World) (hP : RdP B w s xs) (hB : B ≤ w.heap.size) (hv : Val xs) (i0 : Nat) (hi0 : i0 < xs.length) :
    Calls Tryz.prog 37 #[.agg #[.string nm, .int .i64 dl, .slice s.1 s.2.1 s.2.2], .int .i64 (i0 : Nat)] w fun e w' => ∃ M, e = .returned (.slice (some ⟨M, 0, none⟩) xs.length xs.length) ∧ ∃ f, SnAt w' M xs.length f ∧ (∀ j, j < xs.length → (f j = true ↔ Waits (eg xs) i0 j)) ∧ Keep (fun _ => False) w w' := by
  obtain ⟨a, n, c⟩ := s
  have hn : n = xs.length := hP.1
  rw [← hn] at hi0 ⊢
  have hn64 : n ≤ 64 := by have := hv.1; omega
  have HSW : (w.alloc (.cells #[.string nm, .int .i64 dl, .slice a n c] 24)).heap.size = w.heap.size + 1 := by simp
  have hmk := made_boolsR (w.alloc (.cells #[.string nm, .int .i64 dl, .slice a n c] 24)) n (by omega)
  rw [HSW] at hmk
  have K1 := Keep.alloc (fun _ => False) w (.cells #[.string nm, .int .i64 dl, .slice a n c] 24)
  have K2 := Keep.alloc (fun _ => False) (w.alloc (.cells #[.string nm, .int .i64 dl, .slice a n c] 24)) (.cells (madeCells #[.bool false] n) 4)
  have hb1 := heap_alloc_new w (.cells #[.string nm, .int .i64 dl, .slice a n c] 24)
  have hc1 := cell_blk hb1 2 (v := .slice a n c) rfl
  have HB1 := hide (K2.blk hb1 (fun h => h))
  have sn := sn_new (w.alloc (.cells #[.string nm, .int .i64 dl, .slice a n c] 24)) n
  rw [HSW] at sn
  have SN := hide sn
  have KW := hide (K1.more K2)
  have HP := hide hP
  have HV : Hid (∀ i x, xs[i]? = some x → ∀ k, k ∈ eg xs i ↔ (x.nl.contains (k : Int) || x.al.contains (k : Int)) = true) := fun i x hx k => eg_mem hx (fun e he => (hv.2 x (List.mem_of_getElem? hx) e he).1) k
  have HE : Hid (∀ i k, k ∈ eg xs i → i < n ∧ k < n) := fun i k hk => by
    unfold eg at hk
    cases hx : xs[i]? with
    | none => rw [hx] at hk; cases hk
    | some x =>
      rw [hx] at hk
      obtain ⟨e, he, rfl⟩ := List.mem_map.1 hk
      have := hv.2 x (List.mem_of_getElem? hx) e he
      exact ⟨by rw [hn]; exact (List.getElem?_eq_some_iff.1 hx).1, by omega⟩
  generalize eg xs = E at *
  clear K1 K2 hb1 sn hP hv hn HSW
  go_enter Tryz.func37, Tryz.ntmps37
  go_upto_region 2 with fail
  generalize (w.alloc (.cells #[.string nm, .int .i64 dl, .slice a n c] 24)).alloc (.cells (madeCells #[.bool false] n) 4) = w2 at *
  clear hmk hc1
  generalize hN : w.heap.size = N at *
  have HM : Hid (∀ W, Keep (fun k => k = N + 1) w2 W → W.cell? ⟨N, 2, none⟩ = some (.slice a n c) ∧ RdP B W (a, n, c) xs ∧ Keep (fun _ => False) w W) := fun W k =>
    ⟨cell_blk (k.blk HB1.out (fun h => by simp at h)) 2 rfl, (HP.out.new KW.out).keep k (fun i hi => by omega), Keep.mix KW.out k (fun i hi => by omega)⟩
  clear HB1 HP KW
  go_wp2_with fail
  go_loopw [6] (fun mv wr => ∃ (m : Bool), mv = .bool m ∧ Hid (∃ f, SnAt wr (N + 1) n f ∧ Keep (fun k => k = N + 1) w2 wr ∧ (∀ j, f j = true → Waits E i0 j) ∧ (m = false → ∀ i, i < n → (i = i0 ∨ f i = true) → ∀ k ∈ E i, f k = true))) (fun mv wr => 2 * lowW wr (N + 1) n + (if isUp (some mv) then 1 else 0))
  case atStart => exact ⟨true, rfl, _, SN.out, Keep.refl _ _, (fun j h => by cases h), (fun h => by cases h)⟩
  case round =>
    clear SN
    obtain ⟨m0, rfl, HD⟩ := hrel
    obtain ⟨f0, hs0, hk0, hw0, hc0⟩ := HD.out
    have HS0 := hide hs0
    have HK0 := hide hk0
    have HW0 := hide hw0
    have HC0 := hide hc0
    have HL0 := hide hs0.low
    clear HD hs0 hk0 hw0 hc0
    cases m0
    · have KF := hide (HM.out wr HK0.out).2.2
      have HCC := hide (HC0.out rfl)
      clear HC0 HL0
      go_wp2_with fail
      go_ret
      exact ⟨N + 1, rfl, f0, HS0.out, fun j hj => ⟨HW0.out j, closed_waits HE.out HCC.out j⟩, KF.out⟩
    · clear HC0
      have HLW : Hid (lowW wr (N + 1) n = low f0 n) := HL0.out
      clear HL0
      generalize lowW wr (N + 1) n = lw at *
      go_wp2_with fail
      go_loopw [6, 7] (fun mv iv wr => ∃ (m : Bool) (i : Nat), mv = .bool m ∧ iv = .int .i64 (i : Nat) ∧ i ≤ n ∧ Hid (∃ f, SnAt wr (N + 1) n f ∧ Keep (fun k => k = N + 1) w2 wr ∧ (∀ j, f j = true → Waits E i0 j) ∧ low f n ≤ low f0 n ∧ (m = true → low f n < low f0 n) ∧ (m = false → ∀ i', i' < i → (i' = i0 ∨ f i' = true) → ∀ k ∈ E i', f k = true))) (fun _ iv _ => n - (intOf iv).toNat)
      case atStart => exact ⟨false, 0, rfl, rfl, Nat.zero_le _, f0, HS0.out, HK0.out, HW0.out, Nat.le_refl _, (fun h => by cases h), fun _ i' h => absurd h (Nat.not_lt_zero _)⟩
      case round =>
        obtain ⟨m, i, rfl, rfl, hi, HD⟩ := hrel
        clear HS0 HK0 HW0
        obtain ⟨f, hs, hk, hw, hl, hm, hc⟩ := HD.out
        have HF := hide hs
        have HK := hide hk
        have HW := hide hw
        have HL := hide hl
        have HMM := hide hm
        have HC := hide hc
        clear HD hs hk hw hl hm hc
        obtain ⟨c2, hp, _⟩ := HM.out wr HK.out
        have HPQ := hide hp
        clear hp
        by_cases hlt : i < n
        · have ci := (HF.out.at hlt).1
          have HLT := hide hlt
          go_upto_region 8 with fail
          go_cut [31] from 15 to 67 (fun v wx => v = .bool (!(decide (i = i0)) && !f i) ∧ wx = wr)
          case first =>
            by_cases hii : i = i0
            · have g3 : ((i : Int) != (i0 : Int)) = false := by simp; omega
              have HII := hide hii
              clear hii
              go_wp2_with fail
              go_meet
              case rel =>
                rw [decide_eq_true HII.out]
                exact ⟨rfl, rfl⟩
            · have g3 : ((i : Int) != (i0 : Int)) = true := by simp; omega
              have HII := hide hii
              clear hii
              generalize f i = fi at *
              go_wp2_with fail
              go_meet
              case rel =>
                rw [decide_eq_false HII.out]
                cases fi <;> exact ⟨rfl, rfl⟩
          case rest =>
            obtain ⟨rfl, rfl⟩ := hcut
            cases hb : (!(decide (i = i0)) && !f i) with
            | false =>
              have hgo : i = i0 ∨ f i = true := by
                by_cases e : i = i0
                · exact .inl e
                · refine .inr ?_
                  rw [decide_eq_false e] at hb
                  simpa using hb
              have HGO := hide hgo
              clear hgo hb ci
              go_wp2_with fail
              go_loopw [6, 8] (fun mv kv wr => ∃ (m : Bool) (k : Nat), mv = .bool m ∧ kv = .int .i64 (k : Nat) ∧ k ≤ n ∧ Hid (∃ f, SnAt wr (N + 1) n f ∧ Keep (fun k => k = N + 1) w2 wr ∧ (∀ j, f j = true → Waits E i0 j) ∧ low f n ≤ low f0 n ∧ (m = true → low f n < low f0 n) ∧ (i = i0 ∨ f i = true) ∧ (m = false → (∀ i', i' < i → (i' = i0 ∨ f i' = true) → ∀ k ∈ E i', f k = true) ∧ ∀ k', k' < k → k' ∈ E i → f k' = true))) (fun _ kv _ => n - (intOf kv).toNat)
              case atStart => exact ⟨m, 0, rfl, rfl, Nat.zero_le _, f, HF.out, HK.out, HW.out, HL.out, HMM.out, HGO.out, fun h => ⟨HC.out h, fun k' hk' => absurd hk' (Nat.not_lt_zero _)⟩⟩
              case round =>
                clear HF HK HW HL HMM HC HGO c2 HPQ
                obtain ⟨m, k, rfl, rfl, hkn, HD⟩ := hrel
                obtain ⟨f, hs, hk, hw, hl, hm, hg, hc⟩ := HD.out
                have HF := hide hs
                have HK := hide hk
                have HW := hide hw
                have HL := hide hl
                have HMM := hide hm
                have HG := hide hg
                have HC := hide hc
                clear HD hs hk hw hl hm hg hc
                obtain ⟨c2, hp, _⟩ := HM.out wr HK.out
                by_cases hlk : k < n
                · obtain ⟨g, off, x, ha, _, hx, hnd, hz1, hz2⟩ := hp.at (i := i) hlt
                  have ha : a = some ⟨g, off, none⟩ := ha
                  subst ha
                  have HX := hide (HV.out i x hx k)
                  obtain ⟨⟨nmx, la, bu, cl, be, ba, ca, ji, ⟨ne1, ne2, ne3⟩, ⟨af1, af2, af3⟩⟩, nl, al⟩ := x
                  obtain ⟨_, _, _, _, _, _, _, _, n8, n9⟩ := hnd.all
                  simp only at n8 n9 hz1 hz2 HX
                  have ck := (HF.out.at hlk).1
                  have cf := (HF.out.at hlk).2
                  have I1 := hide (refIn_any (ne1, ne2, ne3) nl (k : Int) B wr hz1)
                  have I2 := hide (refIn_any (af1, af2, af3) al (k : Int) B wr hz2)
                  clear hp hx hnd hz1 hz2
                  generalize nl.contains (k : Int) = q1 at *
                  generalize al.contains (k : Int) = q2 at *
                  have HNO : Hid ((q1 || q2) = false → ∀ k', k' < k + 1 → k' ∈ E i → (∀ k', k' < k → k' ∈ E i → f k' = true) → f k' = true) := fun h k' hk' he hh => by
                    by_cases e : k' = k
                    · subst e
                      have := HX.out.1 he
                      rw [h] at this
                      cases this
                    · exact hh k' (by omega) he
                  have HUP : Hid (f k = true → ∀ k', k' < k + 1 → k' ∈ E i → (∀ k', k' < k → k' ∈ E i → f k' = true) → f k' = true) := fun h k' hk' he hh => by
                    by_cases e : k' = k
                    · subst e; exact h
                    · exact hh k' (by omega) he
                  have HST : Hid ((q1 || q2) = true → f k = false → (∀ j, setF f k j = true → Waits E i0 j) ∧ low (setF f k) n < low f0 n ∧ (i = i0 ∨ setF f k i = true)) := fun h hfk => by
                    have he := HX.out.2 h
                    have hwk : Waits E i0 k := by
                      rcases HG.out with e | e
                      · subst e; exact Waits.edge he
                      · exact (HW.out i e).trans (Waits.edge he)
                    refine ⟨fun j hj => ?_, by have := low_set hlk hfk; have := HL.out; omega, ?_⟩
                    · unfold setF at hj
                      by_cases e : j = k
                      · subst e; exact hwk
                      · rw [if_neg e] at hj; exact HW.out j hj
                    · rcases HG.out with e | e
                      · exact .inl e
                      · refine .inr ?_
                        unfold setF
                        split
                        · rfl
                        · exact e
                  have HLK := hide hlk
                  clear hlk
                  go_upto_region 12 with fail
                  go_cut [9] from 32 to 67 (fun v wx => v = .bool (q1 || q2) ∧ wx = wr)
                  case first =>
                    clear HNO HUP HST HX HG HC HMM HL HW
                    cases q1
                    · go_wp2_with (go_at_call 63; first | (refine I1.out.mono ?_; rintro e w9 ⟨rfl, rfl⟩; clear I1) | (refine I2.out.mono ?_; rintro e w9 ⟨rfl, rfl⟩; clear I2))
                      go_meet
                      case rel => exact ⟨rfl, rfl⟩
                    · go_wp2_with (go_at_call 63; (refine I1.out.mono ?_; rintro e w9 ⟨rfl, rfl⟩; clear I1))
                      go_meet
                      case rel => exact ⟨rfl, rfl⟩
                  case rest =>
                    obtain ⟨rfl, rfl⟩ := hcut
                    clear I1 I2
                    cases hq : (q1 || q2) with
                    | false =>
                      clear HST HUP
                      have HNN := hide (HNO.out hq)
                      clear HNO hq
                      go_wp2_with fail
                      go_roundw
                      case rel =>
                        exact ⟨m, k + 1, rfl, rfl, by have := HLK.out; omega, f, HF.out, HK.out, HW.out, HL.out, HMM.out, HG.out, fun h => ⟨(HC.out h).1, fun k' hk' he => HNN.out k' hk' he (HC.out h).2⟩⟩
                      case measure =>
                        show n - ((k : Int) + 1).toNat < n - (k : Int).toNat
                        have := HLK.out; omega
                    | true =>
                      clear HNO
                      cases hfk : f k with
                      | true =>
                        rw [hfk] at ck
                        have HNN := hide (HUP.out hfk)
                        clear HST hq HUP hfk
                        go_wp2_with fail
                        go_roundw
                        case rel =>
                          exact ⟨m, k + 1, rfl, rfl, by have := HLK.out; omega, f, HF.out, HK.out, HW.out, HL.out, HMM.out, HG.out, fun h => ⟨(HC.out h).1, fun k' hk' he => HNN.out k' hk' he (HC.out h).2⟩⟩
                        case measure =>
                          show n - ((k : Int) + 1).toNat < n - (k : Int).toNat
                          have := HLK.out; omega
                      | false =>
                        rw [hfk] at ck
                        obtain ⟨t1, t2, t3⟩ := HST.out hq hfk
                        have T1 := hide t1
                        have T2 := hide t2
                        have T3 := hide t3
                        have S1 := hide (HF.out.set k)
                        have S2 := hide (HK.out.more (keep_cell _ (N + 1) k (.bool true)))
                        clear HST HUP t1 t2 t3 hq hfk
                        go_wp2_with fail
                        go_roundw
                        case rel =>
                          exact ⟨true, k + 1, rfl, rfl, by have := HLK.out; omega, setF f k, S1.out, S2.out, T1.out, Nat.le_of_lt T2.out, fun _ => T2.out, T3.out, fun h => by cases h⟩
                        case measure =>
                          show n - ((k : Int) + 1).toNat < n - (k : Int).toNat
                          have := HLK.out; omega
                · obtain rfl : k = n := by omega
                  clear hp
                  go_wp2_with fail
                  go_roundw
                  case rel =>
                    refine ⟨m, i + 1, rfl, rfl, by have := HLT.out; omega, f, HF.out, HK.out, HW.out, HL.out, HMM.out, fun h i' hi' hg k' hk' => ?_⟩
                    by_cases e : i' = i
                    · subst e; exact (HC.out h).2 k' (HE.out i' k' hk').2 hk'
                    · exact (HC.out h).1 i' (by omega) hg k' hk'
                  case measure =>
                    show k - ((i : Int) + 1).toNat < k - (i : Int).toNat
                    have := HLT.out; omega
            | true =>
              have hgo : ¬ (i = i0 ∨ f i = true) := by
                intro h
                rcases h with h | h
                · rw [decide_eq_true h] at hb; simp at hb
                · rw [h] at hb; simp at hb
              have HG := hide hgo
              clear hgo hb
              go_wp2_with fail
              go_roundw
              case rel =>
                refine ⟨m, i + 1, rfl, rfl, by have := HLT.out; omega, f, HF.out, HK.out, HW.out, HL.out, HMM.out, fun h i' hi' hg k hk => ?_⟩
                by_cases e : i' = i
                · subst e; exact absurd hg HG.out
                · exact HC.out h i' (by omega) hg k hk
              case measure =>
                show n - ((i : Int) + 1).toNat < n - (i : Int).toNat
                have := HLT.out; omega
        · obtain rfl : i = n := by omega
          have HFL := hide HF.out.low
          go_wp2_with fail
          go_roundw
          · refine ⟨m, rfl, f, HF.out, HK.out, HW.out, fun h i hi => HC.out h i hi⟩
          · show 2 * lowW wr (N + 1) i + (if isUp (some (.bool m)) then 1 else 0) < 2 * lw + (if isUp (some (.bool true)) then 1 else 0)
            rw [HFL.out, HLW.out]
            have h1 := HL.out
            cases m
            · show 2 * low f i + 0 < 2 * low f0 i + 1
              omega
            · have h2 := HMM.out rfl
              show 2 * low f i + 1 < 2 * low f0 i + 1
              omega
end Gr
end Go.Proofs.YtfoahfgehmghcaaGreatDoor
