/- Package source's laws: SourceBack. -/
import Derived.Test.YtecdbhpimaaknaaGreatDoorUBkM
import Derived.Test.YtecdbhpimaaknaaGreatDoorUPls
import Derived.Test.YtecdbhpimaaknaaGreatDoorUKno
import Derived.Test.YtecdbhpimaaknaaGreatDoorGRfE
namespace Go.Proofs.YtecdbhpimaaknaaGreatDoor
namespace U
open Go.RowKit Bk

/-- a node as it lies in memory, without its lists' places -/
def pn (x : Gr.No) : Pn := ⟨x.q.nm.data.toList, x.q.la, x.q.bu, x.q.cl, x.q.be, x.q.ba, x.q.ca, x.q.ji, x.nl, x.al⟩
theorem no_pn (x : Gr.No) : no (pn x) = er x := by
  obtain ⟨⟨nm, la, bu, cl, be, bs, ca, ji, ne, af⟩, nl, al⟩ := x
  unfold no pn er
  simp [ba_of]
theorem map_pn (xs : List Gr.No) : (xs.map pn).map no = xs.map er := by
  rw [List.map_map]
  exact List.map_congr_left fun x _ => no_pn x

set_option maxRecDepth 100000 in
set_option maxHeartbeats 4000000 in
theorem back_walk (nm : List UInt8) (dl : Int) (s : Option Addr × Nat × Nat) (xs : List Gr.No) (w : World) (hP : Gr.RdP w.heap.size w s xs) (hs : Gr.Sz (ba nm) xs) (hA : EnvA w) (hI : EnvI w) :
    Calls Tryz.prog 3 #[.agg #[.string (ba nm), .int .i64 dl, .slice s.1 s.2.1 s.2.2]] w fun e w' => e = .returned (.bool true) ∧ Below w.heap.size w w' := by
  obtain ⟨a, n, c⟩ := s
  have HN : Hid (n = xs.length) := hP.1
  have KN := hide known_any
  have HA := hide hA
  have HI := hide hI
  have TX := hide (fun W h hb e => text_any nm dl (a, n, c) xs w.heap.size W h hb e hs)
  have RC := hide (fun W h hb => Gr.refCheck_any (ba nm) dl (a, n, c) xs w.heap.size W h hb hs)
  have HE : Hid ((Gr.chk (ba nm) dl xs).2 ≠ 0 → txt nm dl xs = []) := fun h => by unfold txt; rw [if_neg h]
  have HBK : Hid ((Gr.chk (ba nm) dl xs).2 = 0 → parse (txt nm dl xs) = .inr ⟨nm, dl, xs.map pn⟩ ∧ (txt nm dl xs).length ≤ 65536 ∧ xs.length ≤ 64) := fun h => by
    have h1 : (Gr.chk (ba nm) dl ((xs.map pn).map no)).2 = 0 := by rw [map_pn, chk_er]; exact h
    have h2 := back h1
    rw [map_pn, txt_er] at h2
    exact ⟨h2.1, h2.2, (Gr.chk_ok h).2.2.2.1.1⟩
  have PL := hide (fun W t ys h h' he => plans_any (ba nm) dl (a, n, c) t xs ys w.heap.size W.heap.size W h h' he)
  have b0 : Below w.heap.size w (w.alloc (.cells #[.string (ba nm), .int .i64 dl, .slice a n c] 24)) := (Below.refl _ w).alloc (Nat.le_refl _) _
  have hb0 := heap_alloc_new w (.cells #[.string (ba nm), .int .i64 dl, .slice a n c] 24)
  have hs0 : (w.alloc (.cells #[.string (ba nm), .int .i64 dl, .slice a n c] 24)).heap.size = w.heap.size + 1 := by simp
  have HP := hide hP
  clear hA hI hP hs
  generalize (Gr.chk (ba nm) dl xs).1 = ci at *
  generalize (Gr.chk (ba nm) dl xs).2 = cd at *
  generalize txt nm dl xs = T at *
  generalize hNM : ba nm = NM at *
  go_enter Tryz.func3, Tryz.ntmps3
  go_upto_region 1 with fail
  generalize w.alloc (.cells #[.string NM, .int .i64 dl, .slice a n c] 24) = w0 at *
  generalize hA0 : w.heap.size = A at *
  have HB0 := hide b0
  have HH0 := hide hb0
  have HS0 := hide hs0
  have HM : Hid (∀ W, Below A w0 W → A + 1 ≤ W.heap.size → W.heap[A]? = w0.heap[A]? → (W.cell? ⟨A, 0, none⟩ = some (.string NM) ∧ W.cell? ⟨A, 1, none⟩ = some (.int .i64 dl) ∧ W.cell? ⟨A, 2, none⟩ = some (.slice a n c)) ∧ Gr.RdP A W (a, n, c) xs ∧ EnvA W ∧ EnvI W ∧ Below A w W) := fun W hb hz he => by
    have h1 := he.trans HH0.out
    have bb := HB0.out.trans (hb.mono (Nat.le_refl _))
    rw [← hA0] at bb
    refine ⟨⟨cell_blk h1 0 rfl, cell_blk h1 1 rfl, cell_blk h1 2 rfl⟩, ?_, HA.out.below bb, HI.out.below bb, by rw [hA0] at bb; exact bb⟩
    exact HP.out.new (Keep.ofBelow bb (Nat.le_refl _))
  clear b0 hb0 hs0 HA HI HP
  obtain ⟨⟨c0, c1, c2⟩, r0, ea0, ei0, _⟩ := HM.out w0 (Below.refl _ _) (by rw [HS0.out]; exact Nat.le_refl _) rfl
  have KN1 := hide (KN.out w0 ea0 ei0)
  clear KN r0 ea0 ei0
  go_wp2_with fail
  go_at_call 4
  refine KN1.out.mono ?_
  rintro e w1 ⟨rfl, b1⟩
  have Q1 : Hid (Below A w0 w1 ∧ A + 1 ≤ w1.heap.size ∧ w1.heap[A]? = w0.heap[A]?) := ⟨b1.mono (by rw [HS0.out]; omega), by have := b1.size; have := HS0.out; omega, b1.block A (by rw [HS0.out]; omega)⟩
  clear b1 c0 c1 c2 KN1
  obtain ⟨⟨c0, c1, c2⟩, r0, ea0, ei0, _⟩ := HM.out w1 Q1.out.1 Q1.out.2.1 Q1.out.2.2
  have TX1 := hide (TX.out w1 r0 (by have := Q1.out.2.1; omega) ei0)
  clear TX r0 ea0 ei0
  go_wp2_with fail
  go_at_call 5
  refine TX1.out.mono ?_
  rintro e w2 ⟨rfl, b2⟩
  have Q2 : Hid (Below A w0 w2 ∧ A + 1 ≤ w2.heap.size ∧ w2.heap[A]? = w0.heap[A]?) := ⟨Q1.out.1.trans (b2.mono (by have := Q1.out.2.1; omega)), by have := b2.size; have := Q1.out.2.1; omega, (b2.block A (by have := Q1.out.2.1; omega)).trans Q1.out.2.2⟩
  clear b2 c0 c1 c2 Q1 TX1
  obtain ⟨⟨c0, c1, c2⟩, r0, ea0, ei0, _⟩ := HM.out w2 Q2.out.1 Q2.out.2.1 Q2.out.2.2
  have RC1 := hide (RC.out w2 r0 (by have := Q2.out.2.1; omega))
  clear RC r0 ea0 ei0
  go_wp2_with fail
  go_at_call 6
  refine RC1.out.mono ?_
  rintro e w3 ⟨rfl, k3⟩
  have b3 := k3.below (B := w2.heap.size) (Nat.le_refl _) fun _ h => h.elim
  have Q3 : Hid (Below A w0 w3 ∧ A + 1 ≤ w3.heap.size ∧ w3.heap[A]? = w0.heap[A]?) := ⟨Q2.out.1.trans (b3.mono (by have := Q2.out.2.1; omega)), by have := b3.size; have := Q2.out.2.1; omega, (b3.block A (by have := Q2.out.2.1; omega)).trans Q2.out.2.2⟩
  clear b3 k3 c0 c1 c2 Q2 RC1
  by_cases hcd : cd = 0
  · subst hcd
    obtain ⟨hp, hl, hx⟩ := HBK.out rfl
    have P1 := hide (parse_ok T _ hp (by omega))
    clear hp HBK HE
    simp only at P1
    rw [hNM] at P1
    rw [List.length_map, ← HN.out] at P1
    obtain ⟨_, r0, ea0, ei0, _⟩ := HM.out w3 Q3.out.1 Q3.out.2.1 Q3.out.2.2
    have P2 := hide (P1.out w3 ea0)
    clear r0 ea0 ei0 P1
    generalize hS : ba T = S at *
    go_wp2_with fail
    go_at_call 7
    refine P2.out.mono ?_
    rintro e w4 ⟨va, vc, rfl, b4, n4, _⟩
    have HN4 := hide n4
    have Q4 : Hid (Below A w0 w4 ∧ A + 1 ≤ w4.heap.size ∧ w4.heap[A]? = w0.heap[A]?) := ⟨Q3.out.1.trans (b4.mono (by have := Q3.out.2.1; omega)), by have := b4.size; have := Q3.out.2.1; omega, (b4.block A (by have := Q3.out.2.1; omega)).trans Q3.out.2.2⟩
    clear b4 n4 Q3 P2
    go_upto_region 11 with fail
    have b5 := (Below.refl w4.heap.size w4).alloc (Nat.le_refl _) (.cells #[.string NM, .int .i64 dl, .slice va n vc] 24)
    have hb5 := heap_alloc_new w4 (.cells #[.string NM, .int .i64 dl, .slice va n vc] 24)
    have Q5 : Hid (Below A w0 (w4.alloc (.cells #[.string NM, .int .i64 dl, .slice va n vc] 24)) ∧ A + 1 ≤ (w4.alloc (.cells #[.string NM, .int .i64 dl, .slice va n vc] 24)).heap.size ∧ (w4.alloc (.cells #[.string NM, .int .i64 dl, .slice va n vc] 24)).heap[A]? = w0.heap[A]?) := ⟨Q4.out.1.trans (b5.mono (by have := Q4.out.2.1; omega)), by have := b5.size; have := Q4.out.2.1; omega, (b5.block A (by have := Q4.out.2.1; omega)).trans Q4.out.2.2⟩
    have HN5 := hide (HN4.out.below b5)
    generalize w4.alloc (.cells #[.string NM, .int .i64 dl, .slice va n vc] 24) = w5 at *
    generalize w4.heap.size = C at *
    clear b5 HN4 Q4
    have d0 : w5.cell? ⟨C, 0, none⟩ = some (.string NM) := cell_blk hb5 0 rfl
    have d1 : w5.cell? ⟨C, 1, none⟩ = some (.int .i64 dl) := cell_blk hb5 1 rfl
    have d2 : w5.cell? ⟨C, 2, none⟩ = some (.slice va n vc) := cell_blk hb5 2 rfl
    obtain ⟨⟨c0, c1, c2⟩, r0, _, _, _⟩ := HM.out w5 Q5.out.1 Q5.out.2.1 Q5.out.2.2
    obtain ⟨ys, hys, hry⟩ := HN5.out.rd (by rw [List.length_map]; omega)
    have PL1 := hide (PL.out w5 _ ys r0 hry (by rw [hys, map_pn]))
    clear r0 hb5 hry hys HN5
    go_wp2_with fail
    go_at_call 8
    refine PL1.out.mono ?_
    rintro e w6 ⟨rfl, k6⟩
    have b6 := k6.below (B := w5.heap.size) (Nat.le_refl _) fun _ h => h.elim
    have Q6 := hide (HM.out w6 (Q5.out.1.trans (b6.mono (by have := Q5.out.2.1; omega))) (by have := b6.size; have := Q5.out.2.1; omega) ((b6.block A (by have := Q5.out.2.1; omega)).trans Q5.out.2.2)).2.2.2.2
    clear b6 k6 c0 c1 c2 d0 d1 d2 Q5 PL1
    go_wp2_with fail
    go_ret
    exact ⟨rfl, by rw [hA0]; exact Q6.out⟩
  · obtain rfl : T = [] := HE.out hcd
    have h0 : ((cd : Int) != 0) = true := by simp; omega
    have Q6 := hide (HM.out w3 Q3.out.1 Q3.out.2.1 Q3.out.2.2).2.2.2.2
    have hba : ba [] = ⟨#[]⟩ := rfl
    rw [hba]
    clear HBK HE
    go_wp2_with fail
    go_ret
    exact ⟨rfl, by rw [hA0]; exact Q6.out⟩
end U
end Go.Proofs.YtecdbhpimaaknaaGreatDoor
