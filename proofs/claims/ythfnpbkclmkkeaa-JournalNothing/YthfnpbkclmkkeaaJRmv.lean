/- Package journal: remove. -/
import Derived.Test.YthfnpbkclmkkeaaJDo
namespace Go.Proofs.Ythfnpbkclmkkeaa
open Go.RowKit Go.Lib

theorem removes_step {k : Int} {l : List Int} {s : St} : J.removes (k :: l) s = if (s.remove k).1 = 0 then J.removes l (s.remove k).2 else s.remove k := rfl

set_option maxHeartbeats 1000000 in
set_option maxRecDepth 10000 in
theorem jremove_any (X : Nat → Prop) (w : World) (P d : Nat) (j : J.Jr) (s : St) (a : Option Addr) (n c : Nat) (ks : List Int) (N : Nat) (h : JD X w P d j s) (g : Good N s) (hN : N + n ≤ 70368744177664) (hX : ∀ i, w.heap.size ≤ i → X i)
    (hz : Rz w a n ks) (hzX : ∀ g off, a = some ⟨g, off, none⟩ → n ≠ 0 → ¬ X g) :
    Calls Try.prog 31 #[.pointer (some ⟨P, 0, none⟩), .slice a n c] w (JDid X w P d ((J.removes ks s).1, j, (J.removes ks s).2)) := by
  have HH := hide h
  have HG := hide g
  have HX := hide hX
  have HZ := hide hz
  have HZX := hide hzX
  have HNl := hide hz.1
  have hnb := hz.2.1
  clear h g hX hz hzX
  go_enter Try.func31, Try.ntmps31
  go_wp2
  go_loopw [10] (fun iv wr => ∃ (q : Nat) (t : St), q ≤ n ∧ iv = .int .i64 (q : Nat) ∧ Hid (JD X wr P d j t ∧ Good (N + q) t ∧ Keep X w wr ∧ J.removes ks s = J.removes (ks.drop q) t)) (fun iv _ => n - (RowKit.intOf iv).toNat)
  case atStart => exact ⟨0, s, Nat.zero_le _, rfl, HH.out, HG.out, Keep.refl _ _, rfl⟩
  case round =>
    obtain ⟨q, t, hq, rfl, HL⟩ := hrel
    by_cases hlt : q < n
    · obtain ⟨b, off, rfl, hrow⟩ := HZ.out.2.2.2.resolve_left (by omega)
      have hqk : q < ks.length := by rw [← HNl.out]; exact hlt
      have hcell : wr.cell? ⟨b, off + q, none⟩ = some (.int .i64 (ks.getD q 0)) := HL.out.2.2.1.cell (hrow q hlt) (HZX.out b off rfl (by omega))
      have hkb := HZ.out.2.2.1 (ks.getD q 0) (by simp [List.getD_eq_getElem?_getD, hqk])
      have hdr : ks.drop q = ks.getD q 0 :: ks.drop (q + 1) := by
        rw [List.drop_eq_getElem_cons hqk]
        simp [List.getD_eq_getElem?_getD, hqk]
      have HRs : Hid (J.removes ks s = if (t.remove (ks.getD q 0)).1 = 0 then J.removes (ks.drop (q + 1)) (t.remove (ks.getD q 0)).2 else t.remove (ks.getD q 0)) := by show _ = _; rw [HL.out.2.2.2, hdr]; rfl
      obtain ⟨S, hd, hS, hSX, hback⟩ := HL.out.1.disk fun i hi => HX.out i (Nat.le_trans HL.out.2.2.1.size hi)
      have ok := HL.out.2.1.ok (by omega)
      have HRm := hide (remove_any S wr d t (ks.getD q 0) hd ok hkb.1 hkb.2 hS)
      have HBk := hide hback
      have c0 := HL.out.1.c0
      have HG1 : Hid (Good (N + (q + 1)) (t.remove (ks.getD q 0)).2) := HL.out.2.1.remove _
      clear hd hS hSX hback ok hdr hkb hrow
      generalize ks.getD q 0 = k at *
      generalize t.remove k = r at *
      obtain ⟨rc, t'⟩ := r
      simp only at HRs HRm HG1
      by_cases hrc : rc = 0
      · subst hrc
        have HRs' : Hid (J.removes ks s = J.removes (ks.drop (q + 1)) t') := by show _ = _; rw [HRs.out, if_pos rfl]
        clear HRs
        go_wp2_with (
          go_at_call 52
          refine HRm.out.mono ?_
          rintro e w2 ⟨rfl, hd2, hk2⟩
          have HB2 := hide (HBk.out w2 t' hd2 hk2)
          clear hd2 hk2)
        exact ⟨⟨q + 1, t', by omega, by simp, HB2.out.1, HG1.out, HL.out.2.2.1.more HB2.out.2, HRs'.out⟩, by simp [RowKit.intOf]; omega⟩
      · have HRs' : Hid (J.removes ks s = (rc, t')) := by show _ = _; rw [HRs.out, if_neg hrc]
        clear HRs
        have hne : (rc != 0) = true := by simp [hrc]
        go_wp2_with (
          go_at_call 52
          refine HRm.out.mono ?_
          rintro e w2 ⟨rfl, hd2, hk2⟩
          have HB2 := hide (HBk.out w2 t' hd2 hk2)
          clear hd2 hk2)
        go_ret
        rw [HRs'.out]
        exact ⟨rfl, HB2.out.1, HL.out.2.2.1.more HB2.out.2⟩
    · obtain rfl : q = n := by omega
      have HRs : Hid (J.removes ks s = (0, t)) := by show _ = _; rw [HL.out.2.2.2, List.drop_of_length_le (by rw [← HNl.out]; exact Nat.le_refl _)]; rfl
      go_wp2
      go_ret
      rw [HRs.out]
      exact ⟨rfl, HL.out.1, HL.out.2.2.1⟩

end Go.Proofs.Ythfnpbkclmkkeaa
