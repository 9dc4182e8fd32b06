/- Contract of Order. -/
import Derived.Test.YtgjiaajeionofaaGRow
import Derived.Test.YtgjiaajeionofaaGOrd
namespace Go.Proofs.Ytgjiaajeionofaa
namespace Gr
open Go.RowKit

set_option maxRecDepth 100000 in
set_option maxHeartbeats 4000000 in
theorem order_any (nm : ByteArray) (dl : Int) (s : Option Addr × Nat × Nat) (xs : List No) (B : Nat) (w : World) (hP : RdP B w s xs) (hB : B ≤ w.heap.size) (hs : Sz nm xs) :
    Calls Try.prog 13 #[.agg #[.string nm, .int .i64 dl, .slice s.1 s.2.1 s.2.2]] w fun e w' => ∃ (l : List Nat) (v : Value), e = .returned (.tuple #[v, .int .i64 ((chk nm dl xs).2 : Nat)]) ∧ w'.ownsRow w.heap.size 3 1 v l.length (iv l) ∧ ((chk nm dl xs).2 ≠ 0 → l = []) ∧ ((chk nm dl xs).2 = 0 → l.length = xs.length ∧ Ord (eg xs) xs.length l) ∧ Keep (fun _ => False) w w' := by
  obtain ⟨a, n, c⟩ := s
  have HN : Hid (n = xs.length) := hP.1
  have KW := hide (Keep.alloc (fun _ => False) w (.cells #[.string nm, .int .i64 dl, .slice a n c] 24))
  have cell2 : (w.alloc (.cells #[.string nm, .int .i64 dl, .slice a n c] 24)).cell? ⟨w.heap.size, 2, none⟩ = some (.slice a n c) := by rw [World.cell?_alloc_mark]; rfl
  have C2 := hide cell2
  have HP := hide (hP.new KW.out)
  have CK := hide (check_any nm dl _ _ _ _ (hP.new KW.out) (by have := KW.out.size; omega) hs)
  have HO := hide (chk_ok (nm := nm) (dl := dl) (xs := xs))
  have HSW := hide (show (w.alloc (.cells #[.string nm, .int .i64 dl, .slice a n c] 24)).heap.size = w.heap.size + 1 by simp)
  generalize chk nm dl xs = R at *
  obtain ⟨r1, r2⟩ := R
  clear hP hs cell2
  go_enter Try.func13, Try.ntmps13
  go_wp2_with fail
  go_at_call 18
  refine CK.out.mono ?_
  rintro e w1 ⟨rfl, k1⟩
  generalize w.alloc (.cells #[.string nm, .int .i64 dl, .slice a n c] 24) = w0 at *
  have K1 := hide k1
  have c2 := k1.cell C2.out fun f => f
  clear k1
  by_cases h : r2 = 0
  · subst h
    obtain ⟨h1, h2, h3, hv, h5⟩ := HO.out rfl
    have HEL := hide (eg_lt hv)
    have HCY := hide (cyc_none h5)
    have hn64 : n ≤ 64 := by have := hv.1; have := HN.out; omega
    have FF := hide (fun w' (hk : Keep (fun _ => False) w0 w') => firstFree_any _ _ B w' (HP.out.new hk) hv)
    obtain ⟨i0, hi0, hz0, hz1, hz2⟩ := info_parts info_int
    obtain ⟨W, hW⟩ : ∃ W, W = w1.alloc (.cells #[.bool false, .bool false, .bool false, .bool false, .bool false, .bool false, .bool false, .bool false, .bool false, .bool false, .bool false, .bool false, .bool false, .bool false, .bool false, .bool false, .bool false, .bool false, .bool false, .bool false, .bool false, .bool false, .bool false, .bool false, .bool false, .bool false, .bool false, .bool false, .bool false, .bool false, .bool false, .bool false, .bool false, .bool false, .bool false, .bool false, .bool false, .bool false, .bool false, .bool false, .bool false, .bool false, .bool false, .bool false, .bool false, .bool false, .bool false, .bool false, .bool false, .bool false, .bool false, .bool false, .bool false, .bool false, .bool false, .bool false, .bool false, .bool false, .bool false, .bool false, .bool false, .bool false, .bool false, .bool false] 48) := ⟨_, rfl⟩
    have bT : W.heap[w1.heap.size]? = some (.cells (row64 (tk [])) 48 (0, 0)) := by
      rw [hW, lit64_eq]
      exact heap_alloc_new w1 _
    have kW : Keep (fun _ => False) w1 W := by rw [hW]; exact Keep.alloc _ _ _
    have hszW : W.heap.size = w1.heap.size + 1 := by rw [hW]; simp
    obtain ⟨w3, hmk, hown, hgr⟩ := run_make_own (P := Try.prog) W (w1.heap.size + 1) 37 3 i0 (.int .i64 0) 1 Try.underlying37 hi0 hz0 hz1 .i64 .i64 n (by rw [hz2]; omega) (by unfold maxLen; omega) (by omega)
    have k3 : Keep (fun _ => False) W w3 := Keep.grown hgr fun _ e => by cases e
    have B3 := hide (k3.blk bT fun f => f)
    have c3 := k3.cell (kW.cell c2 fun f => f) fun f => f
    have O3 := hide hown
    have K3 := hide (K1.out.more (kW.more k3))
    have hsz : w1.heap.size + 1 ≤ w3.heap.size := by have := k3.size; omega
    have hsv : W.heap.size = w1.heap.size + 1 := hszW
    rw [hsv] at hmk O3
    have hlo : w.heap.size + 1 ≤ w1.heap.size := by have := K1.out.size; have := HSW.out; omega
    have c2W := kW.cell c2 fun f => f
    rw [hW] at c2W hmk
    clear bT kW k3 hown hgr hW hszW hsv
    go_wp2_with fail
    generalize w1.heap.size = T at *
    go_loopw [7, 24] (fun vv iv' wr => ∃ (i : Nat) (l : List Nat) (v : Value), vv = v ∧ iv' = .int .i64 (i : Nat) ∧ i ≤ n ∧ wr.cell? ⟨w.heap.size, 2, none⟩ = some (.slice a n c) ∧ Hid (l.length = i ∧ Ord (eg xs) xs.length l ∧ wr.heap[T]? = some (.cells (row64 (tk l)) 48 (0, 0)) ∧ wr.ownsRow (T + 1) 3 1 v l.length (iv l) ∧ T + 1 ≤ wr.heap.size ∧ Keep (fun _ => False) w0 wr)) (fun _ iv' _ => n - (intOf iv').toNat)
    case atStart => exact ⟨0, [], _, rfl, rfl, Nat.zero_le _, c3, rfl, Ord.nil _ _, B3.out, O3.out, hsz, K3.out⟩
    case round =>
      obtain ⟨i, l, v, hvv, rfl, hi, hcc, HD⟩ := hrel
      subst hvv
      by_cases hlt : i < n
      · obtain ⟨q1, q2, q3, q4, q5, q6⟩ := HD.out
        obtain ⟨av, cv, hvs⟩ := ownsRow_shape q4
        subst hvs
        obtain ⟨f0, f1, f2⟩ := free_ex (E := eg xs) (n := xs.length) (l := l) HEL.out HCY.out (by have := HN.out; omega)
        obtain ⟨f, g1, ⟨g2, g3⟩, g4⟩ := least (P := fun i => i < xs.length ∧ Free (eg xs) l i) ⟨f1, f2⟩
        have g4' : ∀ j, j < f → ¬ Free (eg xs) l j := fun j hj hf => by have := g4 j ⟨by omega, hf⟩; omega
        have F1 := hide (FF.out wr q6 l f g2 g3 g4')
        have hf64 : f < 64 := by have := HN.out; omega
        have ON := hide (q2.snoc (by have := HN.out; omega) g2 g3 g4')
        have Q1 := hide q1
        have Q3 := hide q3
        have Q4 := hide q4
        have Q6 := hide q6
        have hT0 : Hid (w0.heap.size ≤ T) := by have := HSW.out; show _ ≤ _; omega
        clear q1 q2 q3 q4 q6 g1 g2 g3 g4 g4' f0 f1 f2 HD FF
        go_wp2_with (refine load64 rfl _ rfl T _ rfl Q3.out ?_)
        go_at_call 19
        refine F1.out.mono ?_
        rintro e w2 ⟨rfl, k2⟩
        have b2 := k2.blk Q3.out fun f => f
        have ct := cell_blk b2 f (row64_at (tk l) f hf64)
        have fz := frozen_blk b2 f
        have hcc2 := k2.cell hcc fun f => f
        have bS := set_blk b2 f (.bool true)
        rw [row64_set _ _ hf64, tk_mark] at bS
        have kS := keep_cell w2 T f (.bool true)
        have o2 := ownsRow_new Q4.out k2
        have oS := ownsRow_keep o2 kS fun i e1 e2 => by have := ownsRow_from o2 e2; omega
        obtain ⟨w3', hw3⟩ : ∃ w3', w3' = w2.setCell ⟨T, f, none⟩ (.bool true) := ⟨_, rfl⟩
        rw [← hw3] at bS kS oS
        have hne : ¬ (w.heap.size = T) := by omega
        have hcc3 := kS.cell hcc2 hne
        have kA := Keep.alloc (fun _ => False) w3' (.cells #[.int .i64 (f : Int)] 3)
        have OA := hide (ownsRow_new oS kA)
        have BA := hide (kA.blk bS fun f => f)
        have CA := hide (cell_one w3' (.int .i64 (f : Int)) 3)
        have CC := hide (kA.cell hcc3 fun f => f)
        have KA := hide ((((Q6.out.more k2).trans kS fun i e => .inr (by have := hT0.out; omega))).more kA)
        have hszA : T + 1 ≤ (w3'.alloc (.cells #[.int .i64 (f : Int)] 3)).heap.size := by have := k2.size; have := kS.size; have := kA.size; omega
        rw [show w3'.heap.size = w2.heap.size by rw [hw3]; simp [World.setCell]] at CA
        rw [hw3] at OA BA CA CC KA hszA
        clear hw3 kA kS oS o2 bS b2 k2 hcc2 hcc3 hcc F1
        have hn1 : l.length + 1 ≤ 17592186044416 := by have := Q1.out; omega
        go_wp2_with (at_builtin; go_must (refine wp_append1 rfl _ _ rfl (T + 1) (.slice av l.length cv) l.length (iv l) rfl OA.out ⟨w2.heap.size, 0, none⟩ f rfl CA.out hn1 hszA ?_); intro v' w4 o4 k4 b4; have O4 := hide o4; have K4 := hide k4; clear o4 k4 b4)
        go_roundw
        · have hfrm := fun k e => ownsRow_from OA.out (k := k) e
          refine ⟨i + 1, l ++ [f], v', rfl, rfl, by omega, K4.out.cell CC.out fun e => ?_, ?_, ON.out, K4.out.blk BA.out fun e => ?_, ?_, ?_, KA.out.trans K4.out fun k e => .inr ?_⟩
          · have := hfrm _ e; simp at this; omega
          · rw [List.length_append, Q1.out]; rfl
          · have := hfrm _ e; omega
          · have h := O4.out
            rw [iv_snoc, List.length_append]
            exact h
          · have := K4.out.size; omega
          · have := hfrm _ e; have := hT0.out; omega
        · show n - ((i : Int) + 1).toNat < n - (i : Int).toNat
          omega
      · obtain rfl : i = n := by omega
        obtain ⟨q1, q2, q3, q4, q5, q6⟩ := HD.out
        have hlx : l.length = xs.length := by rw [q1]; exact HN.out
        have Q2 := hide q2
        have Q4 := hide (ownsRow_base (b' := w.heap.size) q4 (by omega))
        have Q6 := hide (KW.out.more q6)
        clear q1 q2 q3 q4 q6
        go_wp2_with fail
        go_ret2
        exact ⟨l, _, rfl, Q4.out, ⟨hlx, Q2.out⟩, Q6.out⟩
  · go_wp2_with fail
    go_ret2
    exact ⟨[], _, rfl, World.ownsRow_nil _ _ _ _, fun _ => rfl, fun e => absurd e h, KW.out.more K1.out⟩
end Gr
end Go.Proofs.Ytgjiaajeionofaa
