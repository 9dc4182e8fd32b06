/- Contracts of countEdges, edgesHold. -/
import Derived.Test.YtbjcckfhfbjchaaGreatGMap
namespace Go.Proofs.YtbjcckfhfbjchaaGreat
namespace Gr
open Go.RowKit

theorem edgesHold1_any (P : Nat) (ne : Option Addr × Nat × Nat) (z : List Int) (x : Int) (B : Nat) (w : World) (hc : w.cell? ⟨P, 8, none⟩ = some (.slice ne.1 ne.2.1 ne.2.2)) (hz : RdZ B w ne z) :
    Calls Tryz.prog 151 #[.int .i64 x, .pointer (some ⟨P, 0, none⟩)] w fun e w' => e = .returned (.bool (z.contains x)) ∧ w' = w := by
  have C := hide (contains_any ne z x B w hz)
  clear hz
  generalize z.contains x = r at *
  go_enter Tryz.func151, Tryz.ntmps151
  go_wp2_with fail
  go_at_call 152
  refine C.out.mono ?_
  rintro e w1 ⟨rfl, rfl⟩
  go_wp2_with fail
  go_ret
  exact ⟨rfl, rfl⟩

set_option maxHeartbeats 2000000 in
theorem edgesHold_any (x : No) (own cnt : Int) (B : Nat) (w : World) (hn : RdZ B w x.q.ne x.nl) (ha : RdZ B w x.q.af x.al) :
    Calls Tryz.prog 108 #[.agg x.q.row.toArray, .int .i64 own, .int .i64 cnt] w fun e w' => e = .returned (.bool (eOk x own cnt)) ∧ Keep (fun _ => False) w w' := by
  obtain ⟨q, nl, al⟩ := x
  have KW := hide (Keep.alloc (fun _ => False) w (.cells q.row.toArray 57))
  have L1 := hide (listHolds_any _ _ own cnt _ _ (hn.new KW.out))
  have L2 := hide (listHolds_any _ _ own cnt _ _ (ha.new KW.out))
  have hN := (NodeAt.new w q 57)
  have L3 := hide (containsFunc_any 151 #[.pointer (some ⟨w.heap.size, 0, none⟩)] (fun _ => False) (fun k W => ∀ j y, j < k → al[j]? = some y → nl.contains y = false) (fun k W => ∃ y, al[k]? = some y ∧ nl.contains y = true) _ _ _ _ (ha.new KW.out) (fun _ f => f.elim) (fun j y h => by omega) enter_e1 (by
    intro k y W hy hJ hk
    refine (edgesHold1_any w.heap.size q.ne nl y B W (hk.cell hN.all.2.2.2.2.2.2.2.2.1 (fun f => f)) (hn.new (KW.out.more hk))).mono ?_
    rintro e W' ⟨rfl, rfl⟩
    refine ⟨_, rfl, fun hr j u hj hu => ?_, fun hr => ⟨y, hy, hr⟩, Keep.refl _ _⟩
    by_cases e : j = k
    · subst e; rw [hy] at hu; injection hu with hu; subst hu; exact hr
    · exact hJ j u (by omega) hu))
  obtain ⟨n0, n1, n2, n3, n4, n5, n6, n7, n8, n9⟩ := hN.all
  clear hn ha hN
  simp only [Nat.zero_add] at n0 n1 n2 n3 n4 n5 n6 n7 n8 n9
  have HE : Hid (eOk ⟨q, nl, al⟩ own cnt = (lOk (-1) nl own cnt && lOk (-1) al own cnt && !(al.any fun e => nl.contains e))) := rfl
  generalize eOk ⟨q, nl, al⟩ own cnt = r at *
  obtain ⟨nm, la, bu, cl, be, ba, ca, ji, ⟨ne1, ne2, ne3⟩, ⟨af1, af2, af3⟩⟩ := q
  simp only [Nd.row] at *
  generalize lOk (-1) nl own cnt = b1 at *
  generalize lOk (-1) al own cnt = b2 at *
  go_enter Tryz.func108, Tryz.ntmps108
  go_wp2_with fail
  go_at_call 153
  refine L1.out.mono ?_
  rintro e w1 ⟨rfl, rfl⟩
  cases b1
  · obtain rfl : r = false := by rw [HE.out]; rfl
    go_wp2_with fail
    go_ret
    exact ⟨rfl, KW.out⟩
  go_wp2_with fail
  go_at_call 153
  refine L2.out.mono ?_
  rintro e w1 ⟨rfl, rfl⟩
  cases b2
  · obtain rfl : r = false := by rw [HE.out]; rfl
    go_wp2_with fail
    go_ret
    exact ⟨rfl, KW.out⟩
  go_wp2_with fail
  go_at_call 111
  refine L3.out.mono ?_
  rintro e w1 ⟨b, rfl, r1, r2, k1⟩
  have R1 := hide r1
  have R2 := hide r2
  clear r1 r2
  go_wp2_with fail
  go_ret
  refine ⟨?_, KW.out.more k1⟩
  rw [HE.out]
  cases b
  · have h := R1.out rfl
    have : (al.any fun e => nl.contains e) = false := by
      rw [List.any_eq_false]
      intro y hy
      obtain ⟨k, hk, e⟩ := List.mem_iff_getElem.1 hy
      have := h k y hk (by rw [List.getElem?_eq_getElem hk, e])
      simpa using this
    rw [this]; rfl
  · obtain ⟨k, hk, y, hy, hc⟩ := R2.out rfl
    have : (al.any fun e => nl.contains e) = true := List.any_eq_true.2 ⟨y, List.mem_of_getElem? hy, hc⟩
    rw [this]; rfl

set_option maxHeartbeats 2000000 in
theorem countEdges_any (s : Option Addr × Nat × Nat) (xs : List No) (B : Nat) (w : World) (hP : RdP B w s xs) (hl : s.2.1 ≤ 64) :
    Calls Tryz.prog 106 #[.slice s.1 s.2.1 s.2.2] w fun e w' => e = .returned (.int .i64 (edges xs : Nat)) ∧ Keep (fun _ => False) w w' := by
  obtain ⟨a, n, c⟩ := s
  have HP := hide hP
  have HN : Hid (n = xs.length) := hP.1
  clear hP
  go_enter Tryz.func106, Tryz.ntmps106
  go_wp2_with fail
  go_loopw [3, 8] (fun cv iv wr => ∃ (i m : Nat), cv = .int .i64 (m : Nat) ∧ iv = .int .i64 (i : Nat) ∧ i ≤ n ∧ m ≤ i * 35184372088832 ∧ Hid (m = edges (xs.take i) ∧ Keep (fun _ => False) w wr)) (fun _ iv _ => n - (intOf iv).toNat)
  case atStart => exact ⟨0, 0, rfl, rfl, Nat.zero_le _, by omega, rfl, Keep.refl _ _⟩
  case round =>
    obtain ⟨i, m, rfl, rfl, hi, hm, HD⟩ := hrel
    by_cases hlt : i < n
    · obtain ⟨g, off, x, rfl, hg, hx, hN, hz1, hz2⟩ := (HP.out.new HD.out.2).at hlt
      have HX := hide hx
      have L1 : Hid (x.q.ne.2.1 = x.nl.length) := hz1.1
      have L2 : Hid (x.q.af.2.1 = x.al.length) := hz2.1
      have l1 : x.q.ne.2.1 ≤ 17592186044416 := hz1.2.1
      have l2 : x.q.af.2.1 ≤ 17592186044416 := hz2.2.1
      obtain ⟨⟨nm, la, bu, cl, be, ba, ca, ji, ⟨ne1, ne2, ne3⟩, ⟨af1, af2, af3⟩⟩, nl, al⟩ := x
      obtain ⟨n0, n1, n2, n3, n4, n5, n6, n7, n8, n9⟩ := hN.all
      have KA := hide (HD.out.2.more (Keep.alloc (fun _ => False) wr (.cells #[.string nm, .int .i64 la, .int .i64 bu, .int .i64 cl, .int .i64 be, .int .i64 ba, .int .i64 ca, .int .i64 ji, .slice ne1 ne2 ne3, .slice af1 af2 af3] 57)))
      clear hx hN hz1 hz2
      simp only at *
      go_wp2_with fail
      go_roundw
      · refine ⟨i + 1, m + (ne2 + af2), rfl, by go_num, by omega, by omega, ?_, KA.out⟩
        rw [take_snoc _ _ _ HX.out, HD.out.1, L1.out, L2.out]
        simp [edges]
      · show n - ((i : Int) + 1).toNat < n - (i : Int).toNat
        omega
    · obtain rfl : i = n := by omega
      go_wp2_with fail
      go_ret
      refine ⟨?_, HD.out.2⟩
      rw [HD.out.1, HN.out, List.take_length]
      rfl
end Gr
end Go.Proofs.YtbjcckfhfbjchaaGreat
