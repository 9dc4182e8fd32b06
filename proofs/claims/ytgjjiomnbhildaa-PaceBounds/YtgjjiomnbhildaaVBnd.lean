/- Contract of pace.Bound. -/
import Derived.Test.YtgjjiomnbhildaaVBnM
namespace Go.Proofs.Ytgjjiomnbhildaa
open Go.RowKit

open Classical in
theorem isBounded_iff (q : V.Nd) : ∃ r : Bool, (r = true ↔ V.nOk q) ∧ ∀ w, Calls Try.prog 21 #[.agg q.row.toArray] w fun e w' => e = .returned (.bool r) ∧ Below w.heap.size w w' :=
  ⟨decide (V.nOk q), by simp, fun w => isBounded_any q w⟩
theorem bndI_pos {dl g a : Int} {qs : List V.Nd} (h : V.okB dl g a qs.length) (h2 : ∀ q ∈ qs, V.nOk q) : V.bndI dl qs g a = (min dl (V.sumC qs ((a + 1) * g)), 0) := if_pos ⟨h, h2⟩
theorem bndI_neg {dl g a : Int} {qs : List V.Nd} (h : ¬ V.okB dl g a qs.length) : V.bndI dl qs g a = (0, 90) := if_neg fun x => h x.1
theorem bndI_bad {dl g a : Int} {qs : List V.Nd} {q : V.Nd} (h : q ∈ qs) (h2 : ¬ V.nOk q) : V.bndI dl qs g a = (0, 90) := if_neg fun x => h2 (x.2 q h)

set_option maxHeartbeats 2000000 in
theorem bound_all (nm : ByteArray) (dl : Int) (a : Option Addr) (n c : Nat) (qs : List V.Nd) (g ah : Int) (w : World) (hqs : RdN w a n qs) :
    Calls Try.prog 17 #[.agg #[.string nm, .int .i64 dl, .slice a n c], .int .i64 g, .int .i64 ah] w fun e w' => e = .returned (.tuple #[.int .i64 (V.bndI dl qs g ah).1, .int .i64 (V.bndI dl qs g ah).2]) ∧ Below w.heap.size w w' := by
  have S1 := hide (fun w => isSpan_any g w)
  have S2 := hide (fun w => isSpan_any dl w)
  generalize hr : V.bndI dl qs g ah = R
  have HR := hide hr
  clear hr
  obtain ⟨rt, rc⟩ := R
  obtain ⟨hn, hn2, hin, hq⟩ := hqs.keep ((Below.refl w.heap.size w).alloc (Nat.le_refl _) (.cells #[.string nm, .int .i64 dl, .slice a n c] 37))
  have HN := hide hn
  have HQ := hide hq
  clear hn hq hqs hin
  have KW := hide ((Below.refl w.heap.size w).alloc (Nat.le_refl _) (.cells #[.string nm, .int .i64 dl, .slice a n c] 37))
  obtain ⟨Q, hQ⟩ : ∃ Q, Q = (ah + 1) * g := ⟨_, rfl⟩
  by_cases c1 : 1 ≤ g ∧ g ≤ 1099511627776
  · have e1 := decide_eq_true c1
    rw [e1] at S1
    by_cases c2 : 0 ≤ ah
    · by_cases c3 : ah ≤ 1024
      · by_cases c4 : 1 ≤ dl ∧ dl ≤ 1099511627776
        · have e4 := decide_eq_true c4
          rw [e4] at S2
          by_cases c5 : n ≤ 64
          · have hQ1 : 1 ≤ Q ∧ Q ≤ 1126999418470400 := by
              have a1 := Int.mul_le_mul (show (1 : Int) ≤ ah + 1 by omega) c1.1 (by decide) (show 0 ≤ ah + 1 by omega)
              have a2 := Int.mul_le_mul (show ah + 1 ≤ (1025 : Int) by omega) c1.2 (by omega) (by decide)
              omega
            have hQw : wrap64 ((ah + 1) * g) = Q := by rw [← hQ]; unfold wrap64; omega
            have HQe := hide hQ
            clear hQ
            go_enter Try.func17, Try.ntmps17
            go_wp2_with fail
            go_at_call 20
            refine (S1.out _).mono ?_
            rintro e w1 ⟨rfl, rfl⟩
            go_wp2_with fail
            go_at_call 20
            refine (S2.out _).mono ?_
            rintro e w1 ⟨rfl, rfl⟩
            go_wp2_with fail
            simp only [hQw]
            generalize hw1 : w.alloc (Obj.cells #[.string nm, .int .i64 dl, .slice a n c] 37) = w1 at *
            have HS1 := hide (show w1.heap.size = w.heap.size + 1 by rw [← hw1]; simp)
            have HD1 := hide (show w1.cell? ⟨w.heap.size, 1, none⟩ = some (.int .i64 dl) by rw [← hw1, World.cell?_alloc_mark]; rfl)
            clear hw1
            go_loopw [9, 42] (fun sv iv wr => ∃ (i : Nat) (S : Int), sv = .int .i64 S ∧ iv = .int .i64 (i : Nat) ∧ i ≤ n ∧ 0 ≤ S ∧ S ≤ 7233906901463859200 ∧ Hid (S = V.sumC (qs.take i) Q ∧ (∀ q ∈ qs.take i, V.nOk q) ∧ Below (w.heap.size + 1) w1 wr)) (fun _ iv _ => n - (intOf iv).toNat)
            case atStart => exact ⟨0, 0, rfl, rfl, Nat.zero_le _, by omega, by omega, by simp [V.sumC], by simp, Below.refl _ _⟩
            case round =>
              obtain ⟨i, S, rfl, rfl, hi, hS0, hS1, HI⟩ := hrel
              rcases Nat.lt_or_ge i n with hlt | hlt
              · obtain ⟨b, off, rfl, hbl, hnode⟩ := HQ.out.resolve_left (by omega)
                have hlen := HN.out
                obtain ⟨q, hq⟩ : ∃ q, qs[i]? = some q := ⟨_, List.getElem?_eq_getElem (by omega)⟩
                have hN := (hnode i q hq).keep (HI.out.2.2.mono (by have := HS1.out; omega))
                have HQI := hide hq
                obtain ⟨okb, hokb, hIB⟩ := isBounded_iff q
                have HOB := hide hokb
                have IB := hide hIB
                clear hokb hIB
                have HCI := hide (fun h => V.cost_in (q := q) (Q := Q) h (by omega) (by omega))
                have HCE := hide (show V.cost q Q = q.bu * (q.cl + q.ca + q.ji + Q) from rfl)
                have HLI := hide (show i < qs.length by omega)
                clear hnode hq hlen
                obtain ⟨n0, n1, n2, n3, n4, n5, n6, n7, n8, n9⟩ := hN.all
                have NN := hide (NodeAt.new wr q 24)
                have KA := hide ((HI.out.2.2).alloc (by have := HS1.out; have := HI.out.2.2.size; omega) (Obj.cells q.row.toArray 24))
                obtain ⟨nq, la, bu, cl, be, ba, ca, ji, ⟨ne1, ne2, ne3⟩, ⟨af1, af2, af3⟩⟩ := q
                simp only [V.Nd.row] at *
                go_wp2_with fail
                go_at_call 21
                refine (IB.out _).mono ?_
                rintro e w2 ⟨rfl, hb2⟩
                have K2 := hide (KA.out.trans (hb2.mono (by have := HS1.out; have := HI.out.2.2.size; simp; omega)))
                obtain ⟨m0, m1, m2, m3, m4, m5, m6, m7, m8, m9⟩ := (NN.out.keep hb2).all
                simp only [Nat.zero_add] at m0 m1 m2 m3 m4 m5 m6 m7 m8 m9
                clear hb2 IB NN KA n0 n1 n2 n3 n4 n5 n6 n7 n8 n9 hN
                cases okb
                rotate_left
                · have ok := HOB.out.1 rfl
                  obtain ⟨x1, x2, x3, x4⟩ := HCI.out ok
                  have HOK := hide ok
                  have o1 : 1 ≤ bu ∧ bu ≤ 100 ∧ 1 ≤ cl ∧ cl ≤ 1099511627776 ∧ 1 ≤ ca ∧ ca ≤ 1099511627776 ∧ 0 ≤ ji ∧ ji ≤ 1099511627776 := ok
                  have hCE := HCE.out
                  generalize hC : V.cost ⟨nq, la, bu, cl, be, ba, ca, ji, (ne1, ne2, ne3), (af1, af2, af3)⟩ Q = C at *
                  have hCw : wrap64 (bu * (cl + ca + ji + Q)) = C := by rw [← hCE]; unfold wrap64; omega
                  clear hCE ok HCE HCI
                  have HC := hide hC
                  clear hC
                  go_wp2_with fail
                  have et := V.take_snoc qs i _ HQI.out
                  have es : V.sumC (qs.take (i + 1)) Q = S + C := by rw [et, V.sum_snoc, HC.out, ← HI.out.1]
                  have ea : ∀ q ∈ qs.take (i + 1), V.nOk q := by
                    rw [et]; intro q hq
                    rcases List.mem_append.1 hq with h | h
                    · exact HI.out.2.1 q h
                    · rw [List.mem_singleton.1 h]; exact HOK.out
                  have eb := (V.sum_in ea (by omega) (by omega) : 0 ≤ V.sumC (qs.take (i + 1)) Q ∧ _)
                  have el : (qs.take (i + 1)).length ≤ 64 := by rw [List.length_take]; omega
                  refine ⟨⟨i + 1, S + C, rfl, by go_num, by omega, by omega, by omega, es.symm, ea, K2.out⟩, by simp [intOf]; omega⟩
                · have nok := fun h => Bool.false_ne_true (HOB.out.2 h)
                  have hr := HR.out
                  rw [bndI_bad (List.mem_of_getElem? HQI.out) nok] at hr
                  obtain ⟨rfl, rfl⟩ := Prod.mk.inj hr
                  clear hr nok
                  go_wp2_with fail
                  go_ret2
                  exact ⟨rfl, KW.out.trans (K2.out.mono (by omega))⟩
              · have cd : wr.cell? ⟨w.heap.size, 1, none⟩ = some (.int .i64 dl) := by rw [HI.out.2.2.cell (p := ⟨w.heap.size, 1, none⟩) (by simp)]; exact HD1.out
                have ek : qs.take i = qs := List.take_of_length_le (by have := HN.out; omega)
                have hi1 := HI.out
                rw [ek] at hi1
                have hr := HR.out
                rw [bndI_pos ⟨c1, ⟨c2, c3⟩, c4, by have := HN.out; omega⟩ hi1.2.1, ← HQe.out, ← hi1.1] at hr
                obtain ⟨hr1, rfl⟩ := Prod.mk.inj hr
                have HR1 := hide hr1
                clear hr hr1 hi1 ek
                go_wp2_with fail
                go_ret2
                exact ⟨ret2 (by have := HR1.out; omega), KW.out.trans (HI.out.2.2.mono (by omega))⟩
          · have hr := HR.out
            rw [bndI_neg fun h => c5 (by have := HN.out; have := h.2.2.2; omega)] at hr
            obtain ⟨rfl, rfl⟩ := Prod.mk.inj hr
            clear hr hQ
            go_enter Try.func17, Try.ntmps17
            go_wp2_with fail
            go_at_call 20
            refine (S1.out _).mono ?_
            rintro e w1 ⟨rfl, rfl⟩
            go_wp2_with fail
            go_at_call 20
            refine (S2.out _).mono ?_
            rintro e w1 ⟨rfl, rfl⟩
            go_wp2_with fail
            go_ret2
            exact ⟨rfl, KW.out⟩
        · have hr := HR.out
          rw [bndI_neg fun h => c4 h.2.2.1] at hr
          obtain ⟨rfl, rfl⟩ := Prod.mk.inj hr
          clear hr hQ
          have e4 := decide_eq_false c4
          rw [e4] at S2
          go_enter Try.func17, Try.ntmps17
          go_wp2_with fail
          go_at_call 20
          refine (S1.out _).mono ?_
          rintro e w1 ⟨rfl, rfl⟩
          go_wp2_with fail
          go_at_call 20
          refine (S2.out _).mono ?_
          rintro e w1 ⟨rfl, rfl⟩
          go_wp2_with fail
          go_ret2
          exact ⟨rfl, KW.out⟩
      · have hr := HR.out
        rw [bndI_neg fun h => c3 h.2.1.2] at hr
        obtain ⟨rfl, rfl⟩ := Prod.mk.inj hr
        clear hr hQ
        go_enter Try.func17, Try.ntmps17
        go_wp2_with fail
        go_at_call 20
        refine (S1.out _).mono ?_
        rintro e w1 ⟨rfl, rfl⟩
        go_wp2_with fail
        go_ret2
        exact ⟨rfl, KW.out⟩
    · have hr := HR.out
      rw [bndI_neg fun h => c2 h.2.1.1] at hr
      obtain ⟨rfl, rfl⟩ := Prod.mk.inj hr
      clear hr hQ
      go_enter Try.func17, Try.ntmps17
      go_wp2_with fail
      go_at_call 20
      refine (S1.out _).mono ?_
      rintro e w1 ⟨rfl, rfl⟩
      go_wp2_with fail
      go_ret2
      exact ⟨rfl, KW.out⟩
  · have hr := HR.out
    rw [bndI_neg fun h => c1 h.1] at hr
    obtain ⟨rfl, rfl⟩ := Prod.mk.inj hr
    clear hr hQ
    have e1 := decide_eq_false c1
    rw [e1] at S1
    go_enter Try.func17, Try.ntmps17
    go_wp2_with fail
    go_at_call 20
    refine (S1.out _).mono ?_
    rintro e w1 ⟨rfl, rfl⟩
    go_wp2_with fail
    go_ret2
    exact ⟨rfl, KW.out⟩
end Go.Proofs.Ytgjjiomnbhildaa
