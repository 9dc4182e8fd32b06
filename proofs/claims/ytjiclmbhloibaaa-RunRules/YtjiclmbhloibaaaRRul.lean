/- The laws' rule. -/
import Derived.Test.YtjiclmbhloibaaaRFre
import Derived.Deep.CutRange
import Derived.Deep.QuietTactic
namespace Go.Proofs.Ytjiclmbhloibaaa
namespace Rn
open Go.RowKit Gr

/-- what rule asks of a node -/
structure NdOk (stt : Int) (ss : List Int) (x : No) (p : Pt) : Prop where
  st : 1 ≤ p.st ∧ p.st ≤ 7
  a1 : stt = 1 → p.st = 1 → outl ss (nx x) ≠ 1
  a2 : stt = 1 → p.st = 2 ∨ p.st = 3 → outl ss (nx x) = 1
  b : stt ≤ 3 → ∀ e ∈ x.nl, lostS (sAt ss e) = true → p.st = 7
  c : 0 ≤ p.tr ∧ p.tr ≤ x.q.bu
  d : p.st = 6 → stt ≤ 3 → p.tr = x.q.bu
def cD (ps : List Pt) (i : Nat) : Nat := (ps.take i).countP fun p => doneS p.st
def cS (ps : List Pt) (i : Nat) : Nat := (ps.take i).countP fun p => setS p.st
theorem cD_succ {ps : List Pt} {i : Nat} {p : Pt} (h : ps[i]? = some p) : cD ps (i + 1) = cD ps i + (if doneS p.st then 1 else 0) := by
  unfold cD
  rw [Gr.take_snoc _ _ _ h, List.countP_append, List.countP_singleton]
theorem cS_succ {ps : List Pt} {i : Nat} {p : Pt} (h : ps[i]? = some p) : cS ps (i + 1) = cS ps i + (if setS p.st then 1 else 0) := by
  unfold cS
  rw [Gr.take_snoc _ _ _ h, List.countP_append, List.countP_singleton]
theorem cD_le (ps : List Pt) (i : Nat) : cD ps i ≤ i := Nat.le_trans List.countP_le_length (by simp; omega)
theorem cS_le (ps : List Pt) (i : Nat) : cS ps i ≤ i := Nat.le_trans List.countP_le_length (by simp; omega)
theorem count_all {ps : List Pt} {f : Pt → Bool} : (ps.countP f = ps.length) ↔ ps.all f = true := by
  rw [List.countP_eq_length, List.all_eq_true]
theorem seven {P : Int → Prop} {s : Int} (h : 1 ≤ s ∧ s ≤ 7) (h1 : P 1) (h2 : P 2) (h3 : P 3) (h4 : P 4) (h5 : P 5) (h6 : P 6) (h7 : P 7) : P s := by
  have : s = 1 ∨ s = 2 ∨ s = 3 ∨ s = 4 ∨ s = 5 ∨ s = 6 ∨ s = 7 := by omega
  rcases this with rfl | rfl | rfl | rfl | rfl | rfl | rfl <;> assumption
theorem sev {s : Int} (h : 1 ≤ s ∧ s ≤ 7) : s = 1 ∨ s = 2 ∨ s = 3 ∨ s = 4 ∨ s = 5 ∨ s = 6 ∨ s = 7 := by omega

set_option maxRecDepth 100000 in
set_option maxHeartbeats 8000000 in
theorem rule_any (nm : ByteArray) (dl : Int) (s t : Option Addr × Nat × Nat) (xs : List No) (ps : List Pt) (stt : Int) (w : World) (hP : RdP w.heap.size w s xs) (hT : RdT w t ps) (hv : Val xs) (hl : ps.length = xs.length) (hok : ∀ (i : Nat) (x : No) (p : Pt), xs[i]? = some x → ps[i]? = some p → NdOk stt (sts ps) x p) (h5 : 1 ≤ stt ∧ stt ≤ 5) (hD : (stt = 2) ↔ allDone ps = true) (hS : (stt = 1) ↔ allSet ps = false) :
    Calls Try.prog 13 #[.agg #[.string nm, .int .i64 dl, .slice s.1 s.2.1 s.2.2], .int .i64 stt, .slice t.1 t.2.1 t.2.2] w fun e w' => e = .returned (.bool true) ∧ Keep (fun _ => False) w w' := by
  obtain ⟨a, n, c⟩ := s
  obtain ⟨ta, tn, tc⟩ := t
  have hn : n = xs.length := hP.1
  have htn : tn = ps.length := hT.1
  have htx : tn = n := by omega
  subst htx
  have HN := hide hn
  have HTN := hide htn
  have hn64 : tn ≤ 64 := by have := hv.1; omega
  have HV := hide hv
  have HOK := hide hok
  have HL := hide hl
  have HD := hide hD
  have HS := hide hS
  have k1 := Keep.alloc (fun _ => False) w (.cells #[.string nm, .int .i64 dl, .slice a tn c] 24)
  have b1 := heap_alloc_new w (.cells #[.string nm, .int .i64 dl, .slice a tn c] 24)
  have HM : Hid (∀ W, Keep (fun _ => False) (w.alloc (.cells #[.string nm, .int .i64 dl, .slice a tn c] 24)) W → (W.cell? ⟨w.heap.size, 0, none⟩ = some (.string nm) ∧ W.cell? ⟨w.heap.size, 1, none⟩ = some (.int .i64 dl) ∧ W.cell? ⟨w.heap.size, 2, none⟩ = some (.slice a tn c)) ∧ RdP W.heap.size W (a, tn, c) xs ∧ RdT W (ta, tn, tc) ps ∧ Keep (fun _ => False) w W) := fun W k =>
    ⟨⟨cell_blk (k.blk b1 (fun f => f)) 0 rfl, cell_blk (k.blk b1 (fun f => f)) 1 rfl, cell_blk (k.blk b1 (fun f => f)) 2 rfl⟩, (hP.new (k1.more k)).mono (k1.more k).size, hT.new (k1.more k), k1.more k⟩
  clear hP hT hv hl hok hD hS k1 b1 hn htn
  go_enter Try.func13, Try.ntmps13
  go_upto_region 1 with fail
  generalize w.alloc (.cells #[.string nm, .int .i64 dl, .slice a tn c] 24) = w1 at *
  go_wp2_with fail
  go_loopw [7, 8, 9] (fun v7 v8 v9 wr => ∃ i : Nat, v7 = .int .i64 (cD ps i : Int) ∧ v8 = .int .i64 (cS ps i : Int) ∧ v9 = .int .i64 (i : Nat) ∧ i ≤ tn ∧ Hid (Keep (fun _ => False) w1 wr)) (fun _ _ v9 _ => tn - (intOf v9).toNat)
  case atStart => exact ⟨0, by simp [cD], by simp [cS], rfl, Nat.zero_le _, Keep.refl _ _⟩
  case round =>
    obtain ⟨i, rfl, rfl, rfl, hi, HK⟩ := hrel
    obtain ⟨⟨c0, c1, c2⟩, hp, ht, _⟩ := HM.out wr HK.out
    have hcd := cD_le ps i
    have hcs := cS_le ps i
    by_cases hlt : i < tn
    · obtain ⟨g3, off3, p, m, hta, hpi, t0, t1, _, _⟩ := ht.at (i := i) (by rw [← HTN.out]; exact hlt)
      have hta : ta = some ⟨g3, off3, none⟩ := hta
      subst hta
      obtain ⟨g, off, x, ha, _, hx, hnd, hz1, hz2⟩ := hp.at (i := i) hlt
      have ha : a = some ⟨g, off, none⟩ := ha
      subst ha
      have OK := hide (HOK.out i x p hx hpi)
      have FR := hide (free_any nm dl (some ⟨g, off, none⟩, tn, c) (some ⟨g3, off3, none⟩, tn, tc) xs ps wr hp ht HV.out HL.out i x hx)
      have HX := hide hx
      have HPI := hide hpi
      have ED := hide (cD_succ hpi)
      have ES := hide (cS_succ hpi)
      have n2 := hnd.all.2.2.1
      have n8 := hnd.all.2.2.2.2.2.2.2.2.1
      have HZ1 := hide hz1
      have hnn : x.q.ne.2.1 ≤ 17592186044416 := hz1.2.1
      have HTR := hide ht
      clear hp ht hx hpi hnd hz1 hz2
      generalize cD ps i = d0 at *
      generalize cS ps i = s0 at *
      generalize hd1 : cD ps (i + 1) = d1 at *
      generalize hs1 : cS ps (i + 1) = s1 at *
      have HD1 := hide hd1
      have HS1 := hide hs1
      clear hd1 hs1
      -- done
      go_upto_if 26 with fail
      go_cut [7] from 14 to 149 (fun v wx => v = .int .i64 (d1 : Int) ∧ wx = wr)
      case first =>
        by_cases h : p.st = 5
        · have e1 : d1 = d0 + 1 := by rw [ED.out, h]; rfl
          have h' : (p.st == 5) = true := by simpa using h
          subst e1
          clear h
          go_wp2_with fail
          go_meet
          case rel => exact ⟨by go_num, rfl⟩
        · have e1 : d1 = d0 := by rw [ED.out]; unfold doneS; rw [decide_eq_false h]; rfl
          have h' : (p.st == 5) = false := by simpa using h
          subst e1
          clear h
          go_wp2_with fail
          go_meet
          case rel => exact ⟨rfl, rfl⟩
      case rest =>
        obtain ⟨rfl, rfl⟩ := hcut
        clear ED
        go_upto_region 9 with fail
        go_cut [38] from 14 to 149 (fun v wx => v = .bool (setS p.st) ∧ wx = wc)
        case first =>
          by_cases h5 : p.st = 5
          · have h5' : (p.st == 5) = true := by simpa using h5
            have hs : setS p.st = true := by rw [h5]; rfl
            clear h5
            go_wp2_with fail
            go_meet
            case rel => exact ⟨by rw [hs], rfl⟩
          · have h5' : (p.st == 5) = false := by simpa using h5
            by_cases h6 : p.st = 6
            · have h6' : (p.st == 6) = true := by simpa using h6
              have hs : setS p.st = true := by rw [h6]; rfl
              clear h5 h6
              go_wp2_with fail
              go_meet
              case rel => exact ⟨by rw [hs], rfl⟩
            · have h6' : (p.st == 6) = false := by simpa using h6
              have hs : setS p.st = (p.st == 7) := by unfold setS doneS lostS; rw [decide_eq_false h5, decide_eq_false h6, Bool.false_or, Bool.false_or, Bool.eq_iff_iff]; simp
              clear h5 h6
              go_wp2_with fail
              go_meet
              case rel => exact ⟨by rw [hs], rfl⟩
        case rest =>
          obtain ⟨rfl, rfl⟩ := hcut
          go_upto_if 38 with fail
          go_cut [8] from 14 to 149 (fun v wx => v = .int .i64 (s1 : Int) ∧ wx = wc)
          case first =>
            cases hs : setS p.st with
            | true =>
              have e1 : s1 = s0 + 1 := by rw [ES.out, hs]; rfl
              subst e1
              clear hs
              go_wp2_with fail
              go_meet
              case rel => exact ⟨by go_num, rfl⟩
            | false =>
              have e1 : s1 = s0 := by rw [ES.out, hs]; rfl
              subst e1
              clear hs
              go_wp2_with fail
              go_meet
              case rel => exact ⟨rfl, rfl⟩
          case rest =>
            obtain ⟨rfl, rfl⟩ := hcut
            clear ES hcd hcs
            go_wp2_with fail
            go_at_call 22
            refine FR.out.mono ?_
            rintro e w4 ⟨rfl, k4⟩
            have HK4 := hide (HK.out.more k4)
            have t0 := k4.cell t0 (fun f => f)
            have t1 := k4.cell t1 (fun f => f)
            have n2 := k4.cell n2 (fun f => f)
            have n8 := k4.cell n8 (fun f => f)
            obtain ⟨⟨c0, c1, c2⟩, _, _, _⟩ := HM.out w4 HK4.out
            have HTR4 := hide (HTR.out.new k4)
            have HZ4 := hide (HZ1.out.new k4)
            have HB1 : Hid (stt = 1 → p.st = 1 → decide (outl (sts ps) (nx x) = 1) = false) := fun h1 h2 => decide_eq_false (OK.out.a1 h1 h2)
            have HB2 : Hid (stt = 1 → p.st = 2 ∨ p.st = 3 → decide (outl (sts ps) (nx x) = 1) = true) := fun h1 h2 => decide_eq_true (OK.out.a2 h1 h2)
            generalize decide (outl (sts ps) (nx x) = 1) = bg at *
            clear k4 FR HTR HZ1
            go_upto_region 12 with fail
            go_cut [69] from 14 to 149 (fun v wx => v = .bool false ∧ wx = w4)
            case first =>
              by_cases h1 : stt = 1
              · subst h1
                have hs := OK.out.st
                have b1 := HB1.out rfl
                have b2 := HB2.out rfl
                clear HB1 HB2 OK
                generalize p.st = st at *
                rcases sev hs with rfl | rfl | rfl | rfl | rfl | rfl | rfl
                · have hb := b1 rfl
                  subst hb
                  clear b1 b2 hs
                  go_wp2_with fail
                  go_meet
                  case rel => exact ⟨rfl, rfl⟩
                · have hb := b2 (.inl rfl)
                  subst hb
                  clear b1 b2 hs
                  go_wp2_with fail
                  go_meet
                  case rel => exact ⟨rfl, rfl⟩
                · have hb := b2 (.inr rfl)
                  subst hb
                  clear b1 b2 hs
                  go_wp2_with fail
                  go_meet
                  case rel => exact ⟨rfl, rfl⟩
                all_goals (
                  clear b1 b2 hs
                  go_wp2_with fail
                  go_meet
                  exact ⟨rfl, rfl⟩)
              · have h1' : (stt == 1) = false := by simpa using h1
                clear h1 HB1 HB2
                go_wp2_with fail
                go_meet
                case rel => exact ⟨rfl, rfl⟩
            case rest =>
              obtain ⟨rfl, rfl⟩ := hcut
              clear HB1 HB2
              generalize hne : x.q.ne = ne at *
              obtain ⟨ne1, ne2, ne3⟩ := ne
              simp only at n8 hnn
              have HNE := hide hne
              clear hne
              go_wp2_with fail
              go_loopw [12] (fun v12 wx => ∃ j : Nat, v12 = .int .i64 (j : Nat) ∧ j ≤ ne2 ∧ wx = wc) (fun v12 _ => ne2 - (intOf v12).toNat)
              case atStart => exact ⟨0, rfl, Nat.zero_le _, rfl⟩
              case round =>
                obtain ⟨j, rfl, hj, rfl⟩ := hrel
                by_cases hlj : j < ne2
                · obtain ⟨g2, off2, e, he1, _, hge, hce⟩ := HZ4.out.at (i := j) hlj
                  have he1 : ne1 = some ⟨g2, off2, none⟩ := he1
                  subst he1
                  have hem := List.mem_of_getElem? hge
                  have hev := HV.out.2 x (List.mem_of_getElem? HX.out) e (List.mem_append_left _ hem)
                  obtain ⟨q, rfl⟩ : ∃ q : Nat, e = (q : Int) := ⟨e.toNat, by omega⟩
                  obtain ⟨g4, off4, pq, mq, hq1, hq2, hcq, _⟩ := HTR4.out.at (i := q) (by rw [HL.out]; omega)
                  have hq1 : some (⟨g3, off3, none⟩ : Addr) = some ⟨g4, off4, none⟩ := hq1
                  injection hq1 with hq1
                  injection hq1 with hq1 hq3
                  subst hq1 hq3
                  have hqn : q < tn := by have := HN.out; omega
                  have HBB : Hid (stt ≤ 3 → lostS pq.st = true → p.st = 7) := fun h1 h2 => OK.out.b h1 _ hem (by rw [sAt_sts hq2]; exact h2)
                  clear hge hem hq2
                  generalize pq.st = qs at *
                  go_upto_region 18 with fail
                  go_cut [107] from 70 to 107 (fun v wx => v = .bool false ∧ wx = wr)
                  case first =>
                    by_cases h3 : stt ≤ 3
                    · have h3' : decide (stt ≤ 3) = true := decide_eq_true h3
                      by_cases hl6 : qs = 6
                      · have hp7 := HBB.out h3 (by rw [hl6]; rfl)
                        have hp7' : (p.st != 7) = false := by simpa using hp7
                        have hl6' : (qs == 6) = true := by simpa using hl6
                        clear hp7 hl6 HBB
                        go_wp2_with fail
                        go_meet
                        case rel => exact ⟨rfl, rfl⟩
                      · have hl6' : (qs == 6) = false := by simpa using hl6
                        by_cases hl7 : qs = 7
                        · have hp7 := HBB.out h3 (by rw [hl7]; rfl)
                          have hp7' : (p.st != 7) = false := by simpa using hp7
                          have hl7' : (qs == 7) = true := by simpa using hl7
                          clear hp7 hl6 hl7 HBB
                          go_wp2_with fail
                          go_meet
                          case rel => exact ⟨rfl, rfl⟩
                        · have hl7' : (qs == 7) = false := by simpa using hl7
                          clear hl6 hl7 HBB
                          go_wp2_with fail
                          go_meet
                          case rel => exact ⟨rfl, rfl⟩
                    · have h3' : decide (stt ≤ 3) = false := decide_eq_false h3
                      have h3'' : 3 < stt := by omega
                      clear HBB
                      go_wp2_with fail
                      go_meet
                      case rel => exact ⟨rfl, rfl⟩
                  case rest =>
                    obtain ⟨rfl, rfl⟩ := hcut
                    clear HBB
                    go_wp2_with fail
                    go_roundw
                    · exact ⟨j + 1, rfl, by omega, trivial⟩
                    · show ne2 - ((j : Int) + 1).toNat < ne2 - (j : Int).toNat
                      omega
                · obtain rfl : j = ne2 := by omega
                  clear hlj
                  have hc0 := OK.out.c.1
                  have hc1 := OK.out.c.2
                  have HDD := hide OK.out.d
                  go_upto_region 20 with fail
                  go_cut [149] from 14 to 149 (fun v wx => v = .bool false ∧ ∃ k, wx = wr.drewN k)
                  case first =>
                    generalize p.tr = tr at *
                    generalize hbu : x.q.bu = bu at *
                    have g1 : decide (tr < 0) = false := decide_eq_false (by omega)
                    have g2 : decide (bu < tr) = false := decide_eq_false (by omega)
                    by_cases h6 : p.st = 6
                    · have h6' : (p.st == 6) = true := by simpa using h6
                      by_cases h3 : stt ≤ 3
                      · have h3' : decide (stt ≤ 3) = true := decide_eq_true h3
                        have he : tr = bu := HDD.out h6 h3
                        have he' : (tr != bu) = false := by simpa using he
                        clear h6 he HDD hbu
                        go_quiet (fail)
                        go_wp2
                        go_meet
                        case rel => exact ⟨rfl, _, rfl⟩
                      · have h3' : decide (stt ≤ 3) = false := decide_eq_false h3
                        clear h6 HDD hbu
                        go_quiet (fail)
                        go_wp2
                        go_meet
                        case rel => exact ⟨rfl, _, rfl⟩
                    · have h6' : (p.st == 6) = false := by simpa using h6
                      clear h6 HDD hbu
                      go_quiet (fail)
                      go_wp2
                      go_meet
                      case rel => exact ⟨rfl, _, rfl⟩
                  case rest =>
                    obtain ⟨rfl, kk, rfl⟩ := hcut
                    have KD := hide (HK4.out.more (keep_drewN wr kk))
                    go_wp2_with fail
                    go_roundw
                    · exact ⟨i + 1, by rw [HD1.out], by rw [HS1.out], rfl, by omega, KD.out⟩
                    · show tn - ((i : Int) + 1).toNat < tn - (i : Int).toNat
                      omega
    · obtain rfl : i = tn := by omega
      have e1 : (cD ps i = i) ↔ stt = 2 := by
        rw [HD.out]
        have : cD ps i = ps.countP fun p => doneS p.st := by unfold cD; rw [List.take_of_length_le (by rw [HTN.out]; exact Nat.le_refl _)]
        rw [this, HTN.out]
        exact count_all
      have e2 : (cS ps i < i) ↔ stt = 1 := by
        rw [HS.out]
        have h1 : cS ps i = ps.countP fun p => setS p.st := by unfold cS; rw [List.take_of_length_le (by rw [HTN.out]; exact Nat.le_refl _)]
        have h2 := @count_all ps (fun p => setS p.st)
        rw [h1]
        constructor
        · intro h
          cases hq : allSet ps with
          | false => rfl
          | true => have := h2.2 hq; rw [HTN.out] at h; omega
        · intro h
          have h3 : ps.countP (fun p => setS p.st) ≤ ps.length := List.countP_le_length
          have h4 : ps.countP (fun p => setS p.st) ≠ ps.length := fun e => by
            have := h2.1 e
            unfold allSet at h
            rw [this] at h; cases h
          rw [HTN.out]; omega
      have KF := hide (HM.out wr HK.out).2.2.2
      generalize cD ps i = d0 at *
      generalize cS ps i = s0 at *
      have q1 : ((d0 : Int) == (i : Int)) = (stt == 2) := by
        rw [Bool.eq_iff_iff]; simp; omega
      have q2 : (decide ((s0 : Int) < (i : Int))) = (stt == 1) := by
        rw [Bool.eq_iff_iff]; simp; omega
      have Q3 : Hid (decide (s0 < i) = (stt == 1)) := by
        show _ = _
        rw [Bool.eq_iff_iff]; simp; omega
      clear hp ht e1 e2 hlt hcd hcs
      generalize hu2 : (stt == 2) = u2 at *
      generalize hu1 : (stt == 1) = u1 at *
      cases u1 <;> cases u2 <;>
        (go_wp2_with fail
         go_ret
         refine ⟨?_, KF.out⟩
         first
           | (show Ending.returned (.bool (!decide (s0 < i))) = _; rw [Q3.out]; rfl)
           | (show Ending.returned (.bool (decide (s0 < i))) = _; rw [Q3.out]))
end Rn
end Go.Proofs.Ytjiclmbhloibaaa
