/- The laws' small. -/
import Derived.Test.YtgjiaajeionofaaGRow
namespace Go.Proofs.Ytgjiaajeionofaa
namespace Gr
open Go.RowKit
set_option maxHeartbeats 2000000 in
theorem small_any (nm : ByteArray) (dl : Int) (s : Option Addr × Nat × Nat) (xs : List No) (B : Nat) (w : World) (hP : RdP B w s xs) :
    Calls Try.prog 5 #[.agg #[.string nm, .int .i64 dl, .slice s.1 s.2.1 s.2.2]] w fun e w' => (∃ b : Bool, e = .returned (.bool b) ∧ (b = true → xs.length + edges xs ≤ 20000)) ∧ Keep (fun _ => False) w w' := by
  obtain ⟨a, n, c⟩ := s
  have hn2 : n ≤ 1172812402926 := hP.2.1
  have HN : Hid (n = xs.length) := hP.1
  have K0 := hide (Keep.alloc (fun _ => False) w (.cells #[.string nm, .int .i64 dl, .slice a n c] 24))
  have cell2 : (w.alloc (.cells #[.string nm, .int .i64 dl, .slice a n c] 24)).cell? ⟨w.heap.size, 2, none⟩ = some (.slice a n c) := by rw [World.cell?_alloc_mark]; rfl
  have C2 := hide cell2
  have HP := hide (hP.new K0.out)
  clear hP cell2
  go_enter Try.func5, Try.ntmps5
  go_wp2_with fail
  generalize w.alloc (.cells #[.string nm, .int .i64 dl, .slice a n c] 24) = w0 at *
  go_loopw [3, 4] (fun mv iv wr => ∃ (i m : Nat), mv = .int .i64 (m : Int) ∧ iv = .int .i64 (i : Nat) ∧ i ≤ n ∧ m ≤ 40000000000000 ∧ wr.cell? ⟨w.heap.size, 2, none⟩ = some (.slice a n c) ∧ Hid (m = n + edges (xs.take i) ∧ Keep (fun _ => False) w0 wr)) (fun _ iv _ => n - (intOf iv).toNat)
  case atStart => exact ⟨0, n, rfl, rfl, Nat.zero_le _, by omega, C2.out, rfl, Keep.refl _ _⟩
  case round =>
    obtain ⟨i, m, rfl, rfl, hi, hm, hcc, HD⟩ := hrel
    by_cases hlt : i < n
    · by_cases hm2 : (m : Int) ≤ 20000
      · obtain ⟨g, off, x, ha, hg, hx, hN, hz1, hz2⟩ := (HP.out.new HD.out.2).at hlt
        have ha : a = some ⟨g, off, none⟩ := ha
        subst ha
        have HX := hide hx
        have L1 : Hid (x.q.ne.2.1 = x.nl.length) := hz1.1
        have L2 : Hid (x.q.af.2.1 = x.al.length) := hz2.1
        have l1 : x.q.ne.2.1 ≤ 17592186044416 := hz1.2.1
        have l2 : x.q.af.2.1 ≤ 17592186044416 := hz2.2.1
        obtain ⟨⟨nm', la, bu, cl, be, ba, ca, ji, ⟨ne1, ne2, ne3⟩, ⟨af1, af2, af3⟩⟩, nl, al⟩ := x
        obtain ⟨n0, n1, n2, n3, n4, n5, n6, n7, n8, n9⟩ := hN.all
        clear hx hN hz1 hz2 n0 n1 n2 n3 n4 n5 n6 n7
        simp only at *
        go_wp2_with fail
        go_region
        go_wp2
        go_roundw
        · refine ⟨i + 1, m + ne2 + af2, by go_num, rfl, by omega, by omega, hcc, ?_, HD.out.2.more (Keep.drew _ _)⟩
          rw [take_snoc _ _ _ HX.out, HD.out.1, L1.out, L2.out]
          simp [edges]
          omega
        · show n - ((i : Int) + 1).toNat < n - (i : Int).toNat
          omega
      · go_wp2_with fail
        go_ret
        exact ⟨.inl rfl, K0.out.more HD.out.2⟩
    · obtain rfl : i = n := by omega
      go_wp2_with fail
      go_ret
      refine ⟨⟨_, rfl, fun h => ?_⟩, K0.out.more HD.out.2⟩
      have h2 := HD.out.1
      rw [List.take_of_length_le (by have := HN.out; omega)] at h2
      simp at h
      have := HN.out
      omega
end Gr
end Go.Proofs.Ytgjiaajeionofaa
