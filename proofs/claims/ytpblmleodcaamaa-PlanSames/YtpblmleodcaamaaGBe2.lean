/- Contract of Below. -/
import Derived.Test.YtpblmleodcaamaaGBel
namespace Go.Proofs.Ytpblmleodcaamaa
namespace Gr
open Go.RowKit

open Classical in
/-- who needs a node, among the first so many -/
noncomputable def bel (xs : List No) (t n : Nat) : List Nat := (List.range n).filter fun i => decide (Waits (ng xs) i t)
theorem bel_yes {xs : List No} {t i : Nat} (h : Waits (ng xs) i t) : bel xs t (i + 1) = bel xs t i ++ [i] := by
  unfold bel
  rw [List.range_succ, List.filter_append]
  simp [h]
theorem bel_no {xs : List No} {t i : Nat} (h : ¬ Waits (ng xs) i t) : bel xs t (i + 1) = bel xs t i := by
  unfold bel
  rw [List.range_succ, List.filter_append]
  simp [h]
theorem bel_len (xs : List No) (t i : Nat) : (bel xs t i).length ≤ i := by
  unfold bel
  refine Nat.le_trans (List.length_filter_le _ _) ?_
  simp
theorem bel_mem {xs : List No} {t n i : Nat} : i ∈ bel xs t n ↔ i < n ∧ Waits (ng xs) i t := by
  unfold bel
  rw [List.mem_filter]
  simp
/-- what Below answers: its error's number, its list -/
noncomputable def belC (nm : ByteArray) (dl : Int) (xs : List No) (nd : Int) : Nat := if (chk nm dl xs).2 ≠ 0 then (chk nm dl xs).2 else if 0 ≤ nd ∧ nd < xs.length then 0 else 103
set_option maxRecDepth 100000 in
set_option maxHeartbeats 4000000 in
theorem below_any (nm : ByteArray) (dl : Int) (s : Option Addr × Nat × Nat) (xs : List No) (nd : Int) (B : Nat) (w : World) (hP : RdP B w s xs) (hB : B ≤ w.heap.size) (hs : Sz nm xs) :
    Calls Try.prog 18 #[.agg #[.string nm, .int .i64 dl, .slice s.1 s.2.1 s.2.2], .int .i64 nd] w fun e w' => ∃ (l : List Nat) (v : Value), e = .returned (.tuple #[v, .int .i64 (belC nm dl xs nd : Nat)]) ∧ w'.ownsRow w.heap.size 3 1 v l.length (iv l) ∧ (belC nm dl xs nd ≠ 0 → l = []) ∧ (belC nm dl xs nd = 0 → l = bel xs nd.toNat xs.length) ∧ Keep (fun _ => False) w w' := by
  obtain ⟨a, n, c⟩ := s
  have HN : Hid (n = xs.length) := hP.1
  obtain ⟨w0, hw0⟩ : ∃ w0, w0 = (w.alloc (.cells #[.string nm, .int .i64 dl, .slice a n c] 24)).alloc (.cells #[.int .i64 nd] 3) := ⟨_, rfl⟩
  have KW : Hid (Keep (fun _ => False) w w0) := hide (by rw [hw0]; exact (Keep.alloc _ _ _).more (Keep.alloc _ _ _))
  have CK := hide (check_any nm dl _ _ _ _ (hP.new KW.out) (by have := KW.out.size; omega) hs)
  have HC : Hid (belC nm dl xs nd = if (chk nm dl xs).2 ≠ 0 then (chk nm dl xs).2 else if 0 ≤ nd ∧ nd < xs.length then 0 else 103) := rfl
  have HO := hide (chk_ok (nm := nm) (dl := dl) (xs := xs))
  generalize belC nm dl xs nd = C at *
  generalize chk nm dl xs = R at *
  obtain ⟨r1, r2⟩ := R
  have HP := hide (hP.new KW.out)
  rw [hw0] at CK
  have HW := hide hw0
  clear hP hs hw0
  have c2 : w0.cell? ⟨w.heap.size, 2, none⟩ = some (.slice a n c) := by
    rw [HW.out]
    refine (Keep.alloc (fun _ => False) _ _).cell ?_ (fun f => f)
    rw [World.cell?_alloc_mark]; rfl
  have c0 : w0.cell? ⟨w.heap.size + 1, 0, none⟩ = some (.int .i64 nd) := by
    rw [HW.out]
    have := cell_one (w.alloc (.cells #[.string nm, .int .i64 dl, .slice a n c] 24)) (.int .i64 nd) 3
    rwa [World.size_alloc] at this
  have HS0 : Hid (w0.heap.size = w.heap.size + 2) := hide (by rw [HW.out]; simp)
  have C2 := hide c2
  have C0 := hide c0
  clear c2 c0
  have c2 : w0.cell? ⟨w.heap.size, 2, none⟩ = some (.slice a n c) := by
    rw [HW.out]
    refine (Keep.alloc (fun _ => False) _ _).cell ?_ (fun f => f)
    rw [World.cell?_alloc_mark]; rfl
  have c0 : w0.cell? ⟨w.heap.size + 1, 0, none⟩ = some (.int .i64 nd) := by
    rw [HW.out]
    have := cell_one (w.alloc (.cells #[.string nm, .int .i64 dl, .slice a n c] 24)) (.int .i64 nd) 3
    rwa [World.size_alloc] at this
  have HS0 : Hid (w0.heap.size = w.heap.size + 2) := hide (by rw [HW.out]; simp)
  have C2 := hide c2
  have C0 := hide c0
  clear c2 c0
  have c2 : w0.cell? ⟨w.heap.size, 2, none⟩ = some (.slice a n c) := by
    rw [HW.out]
    refine (Keep.alloc (fun _ => False) _ _).cell ?_ (fun f => f)
    rw [World.cell?_alloc_mark]; rfl
  have c0 : w0.cell? ⟨w.heap.size + 1, 0, none⟩ = some (.int .i64 nd) := by
    rw [HW.out]
    have := cell_one (w.alloc (.cells #[.string nm, .int .i64 dl, .slice a n c] 24)) (.int .i64 nd) 3
    rwa [World.size_alloc] at this
  have HS0 : Hid (w0.heap.size = w.heap.size + 2) := hide (by rw [HW.out]; simp)
  have C2 := hide c2
  have C0 := hide c0
  clear c2 c0
  go_enter Try.func18, Try.ntmps18
  go_wp2_with fail
  go_at_call 10
  refine CK.out.mono ?_
  rw [← HW.out]
  rintro e w1 ⟨rfl, k1⟩
  have K1 := hide k1
  have c2 := k1.cell C2.out fun f => f
  have c0 := k1.cell C0.out fun f => f
  clear k1 HW CK
  by_cases h : r2 = 0
  · subst h
    obtain ⟨h1, h2, h3, hv, h5⟩ := HO.out rfl
    have hn64 : n ≤ 64 := by have := hv.1; have := HN.out; omega
    have hn1 : 1 ≤ n := by have := HN.out; omega
    have WI := hide (fun w => within_any nd 0 ((n : Int) - 1) w)
    have hC := HC.out
    rw [if_neg (by simp)] at hC
    by_cases hnd : 0 ≤ nd ∧ nd < xs.length
    · rw [if_pos hnd] at hC
      subst hC
      have hwi : wI nd 0 ((n : Int) - 1) = true := by unfold wI; simp; have := HN.out; omega
      rw [hwi] at WI
      obtain ⟨t, rfl⟩ : ∃ t : Nat, nd = t := ⟨nd.toNat, by omega⟩
      have HCY := hide (fun x h => cyc_none h5 x (Waits.mono (fun _ _ => ng_eg) h) : ∀ x, ¬ Waits (ng xs) x x)
      obtain ⟨fv, hfv⟩ : ∃ fv, fv = Value.func (.func 35) #[] #[.pointer (some ⟨w1.heap.size, 0, none⟩), .pointer (some ⟨w.heap.size, 0, none⟩), .pointer (some ⟨w.heap.size + 1, 0, none⟩), .pointer (some ⟨w1.heap.size + 1 + 1, 0, none⟩), .pointer (some ⟨w1.heap.size + 1, 0, none⟩)] := ⟨_, rfl⟩
      obtain ⟨V, hV⟩ : ∃ V, V = ((w1.alloc (.cells #[.bool false, .bool false, .bool false, .bool false, .bool false, .bool false, .bool false, .bool false, .bool false, .bool false, .bool false, .bool false, .bool false, .bool false, .bool false, .bool false, .bool false, .bool false, .bool false, .bool false, .bool false, .bool false, .bool false, .bool false, .bool false, .bool false, .bool false, .bool false, .bool false, .bool false, .bool false, .bool false, .bool false, .bool false, .bool false, .bool false, .bool false, .bool false, .bool false, .bool false, .bool false, .bool false, .bool false, .bool false, .bool false, .bool false, .bool false, .bool false, .bool false, .bool false, .bool false, .bool false, .bool false, .bool false, .bool false, .bool false, .bool false, .bool false, .bool false, .bool false, .bool false, .bool false, .bool false, .bool false] 54)).alloc (.cells #[.bool false, .bool false, .bool false, .bool false, .bool false, .bool false, .bool false, .bool false, .bool false, .bool false, .bool false, .bool false, .bool false, .bool false, .bool false, .bool false, .bool false, .bool false, .bool false, .bool false, .bool false, .bool false, .bool false, .bool false, .bool false, .bool false, .bool false, .bool false, .bool false, .bool false, .bool false, .bool false, .bool false, .bool false, .bool false, .bool false, .bool false, .bool false, .bool false, .bool false, .bool false, .bool false, .bool false, .bool false, .bool false, .bool false, .bool false, .bool false, .bool false, .bool false, .bool false, .bool false, .bool false, .bool false, .bool false, .bool false, .bool false, .bool false, .bool false, .bool false, .bool false, .bool false, .bool false, .bool false] 54)).alloc (.cells #[fv] 58) := ⟨_, rfl⟩
      have kV : Keep (fun _ => False) w1 V := by rw [hV]; exact ((Keep.alloc _ _ _).more (Keep.alloc _ _ _)).more (Keep.alloc _ _ _)
      have b1 : V.heap[w1.heap.size]? = some (.cells none64 54 (0, 0)) := by
        rw [hV, lit64_eq]
        exact (Keep.alloc (fun _ => False) _ _).blk ((Keep.alloc (fun _ => False) _ _).blk (heap_alloc_new w1 _) (fun f => f)) (fun f => f)
      have b2 : V.heap[w1.heap.size + 1]? = some (.cells none64 54 (0, 0)) := by
        rw [hV, lit64_eq]
        refine (Keep.alloc (fun _ => False) _ _).blk ?_ (fun f => f)
        have := heap_alloc_new (w1.alloc (.cells none64 54)) (.cells none64 54)
        rwa [World.size_alloc] at this
      have b3 : V.heap[w1.heap.size + 1 + 1]? = some (.cells #[fv] 58 (0, 0)) := by
        rw [hV]
        have := heap_alloc_new ((w1.alloc (.cells #[.bool false, .bool false, .bool false, .bool false, .bool false, .bool false, .bool false, .bool false, .bool false, .bool false, .bool false, .bool false, .bool false, .bool false, .bool false, .bool false, .bool false, .bool false, .bool false, .bool false, .bool false, .bool false, .bool false, .bool false, .bool false, .bool false, .bool false, .bool false, .bool false, .bool false, .bool false, .bool false, .bool false, .bool false, .bool false, .bool false, .bool false, .bool false, .bool false, .bool false, .bool false, .bool false, .bool false, .bool false, .bool false, .bool false, .bool false, .bool false, .bool false, .bool false, .bool false, .bool false, .bool false, .bool false, .bool false, .bool false, .bool false, .bool false, .bool false, .bool false, .bool false, .bool false, .bool false, .bool false] 54)).alloc (.cells #[.bool false, .bool false, .bool false, .bool false, .bool false, .bool false, .bool false, .bool false, .bool false, .bool false, .bool false, .bool false, .bool false, .bool false, .bool false, .bool false, .bool false, .bool false, .bool false, .bool false, .bool false, .bool false, .bool false, .bool false, .bool false, .bool false, .bool false, .bool false, .bool false, .bool false, .bool false, .bool false, .bool false, .bool false, .bool false, .bool false, .bool false, .bool false, .bool false, .bool false, .bool false, .bool false, .bool false, .bool false, .bool false, .bool false, .bool false, .bool false, .bool false, .bool false, .bool false, .bool false, .bool false, .bool false, .bool false, .bool false, .bool false, .bool false, .bool false, .bool false, .bool false, .bool false, .bool false, .bool false] 54)) (.cells #[fv] 58)
        rwa [World.size_alloc, World.size_alloc] at this
      have hszV : V.heap.size = w1.heap.size + 3 := by rw [hV]; simp
      have hle : w.heap.size + 2 ≤ w1.heap.size := by have := HS0.out; have := K1.out.size; omega
      have E0 : BEnv B (a, n, c) xs w1.heap.size w.heap.size (w.heap.size + 1) (w1.heap.size + 1 + 1) (w1.heap.size + 1) t V (fun _ => false) (fun _ => false) :=
        ⟨b1, b2, kV.cell c2 fun f => f, kV.cell c0 fun f => f, by rw [← hfv]; exact cell_blk b3 0 rfl, (HP.out.new K1.out).new kV, by omega, by omega, by omega, by omega, by omega, by omega, by omega, by omega, by omega⟩
      have c2V := kV.cell c2 fun f => f
      have HE := hide E0
      have KV := hide (K1.out.more kV)
      have hsf := fun (w : World) (a : Addr) (m : Mode) (f : Fn) (x y : Array Value) => run_store Try.prog w a (.func f x y) m rfl
      rw [hV, hfv] at c2V
      have HV := hide hV
      have HF := hide hfv
      clear kV b1 b2 b3 E0 hV hfv
      go_wp2_with fail
      go_at_call 34
      refine (WI.out _).mono ?_
      rintro e w2 ⟨rfl, rfl⟩
      go_wp2_with fail
      rw [← HF.out, ← HV.out]
      have HNB := hide (needs_any (B := B) (s := (a, n, c)) (xs := xs) (Pa := w2.heap.size) (Pp := w.heap.size) (Pn := w.heap.size + 1) (Pd := w2.heap.size + 1 + 1) (Pf := w2.heap.size + 1) (t := t) hv HCY.out)
      clear c2V HF HV hsf WI c2 c0 K1 h1 h2 h3 HCY
      have hzw : Hid (w0.heap.size ≤ w2.heap.size) := hide (by have := HS0.out; omega)
      generalize w2.heap.size = T at *
      go_loopw [11, 32] (fun vv iv' wr => ∃ (i : Nat) (v : Value), vv = v ∧ iv' = .int .i64 (i : Nat) ∧ i ≤ n ∧ Hid (∃ α φ, BEnv B (a, n, c) xs T w.heap.size (w.heap.size + 1) (T + 1 + 1) (T + 1) t wr α φ ∧ (∀ y, α y = true → (φ y = true ↔ Waits (ng xs) y t)) ∧ wr.ownsRow (T + 3) 3 1 v (bel xs t i).length (iv (bel xs t i)) ∧ T + 3 ≤ wr.heap.size ∧ Keep (fun _ => False) w0 wr)) (fun _ iv' _ => n - (intOf iv').toNat)
      case atStart => exact ⟨0, _, rfl, rfl, Nat.zero_le _, _, _, HE.out, (fun y h => by cases h), World.ownsRow_nil _ _ _ _, by omega, KV.out⟩
      case round =>
        obtain ⟨i, v, hvv, rfl, hi, HD⟩ := hrel
        subst hvv
        by_cases hlt : i < n
        · obtain ⟨α, φ, q1, q2, q3, q4, q5⟩ := HD.out
          obtain ⟨av, cv, hvs⟩ := ownsRow_shape q3
          subst hvs
          have CL := hide (HNB.out (cnt α) i α φ wr (by have := HN.out; omega) rfl q1 (fun y _ => q2 y))
          have cd := q1.cd
          have Q2 := hide q2
          have Q3 := hide q3
          have Q5 := hide q5
          have Q1 := hide q1
          have hbl := bel_len xs t i
          clear q1 q2 q3 q5 HD
          go_wp2_with fail
          go_at_call 35
          refine CL.out.mono ?_
          rintro e w3 ⟨r, α', φ', rfl, hr, hE, hG, hK⟩
          have HR := hide hr
          have E3 := hide hE
          have K3 : Hid (Keep (fun _ => False) w0 w3) := Q5.out.trans hK fun k e => .inr (by have := hzw.out; omega)
          have R3 : Hid (∀ y, α' y = true → (φ' y = true ↔ Waits (ng xs) y t)) := fun y hy => by
            cases e : α y
            · exact hG.new y hy e
            · rw [hG.old y e]; exact Q2.out y e
          have O3 := hide (ownsRow_keep Q3.out hK fun k e1 e2 => by have := ownsRow_from Q3.out e2; omega)
          have hsz3 : T + 3 ≤ w3.heap.size := by have := hK.size; omega
          clear hr hE hG hK CL Q1 Q2 Q3 Q5 cd
          cases r
          · have hnw : ¬ Waits (ng xs) i t := fun h => Bool.false_ne_true (HR.out.2 h)
            have HB2 := hide (bel_no hnw)
            clear hnw
            go_wp2_with fail
            go_roundw
            · exact ⟨i + 1, _, rfl, rfl, by omega, α', φ', E3.out, R3.out, by rw [HB2.out]; exact O3.out, hsz3, K3.out⟩
            · show n - ((i : Int) + 1).toNat < n - (i : Int).toNat
              omega
          · have hw := HR.out.1 rfl
            have HB2 := hide (bel_yes hw)
            clear hw
            have kA := Keep.alloc (fun _ => False) w3 (.cells #[.int .i64 (i : Int)] 3)
            have OA := hide (ownsRow_new O3.out kA)
            have CA := hide (cell_one w3 (.int .i64 (i : Int)) 3)
            have EA := hide (E3.out.new kA fun _ f => f.elim)
            have KA := hide (K3.out.more kA)
            have hszA : T + 3 ≤ (w3.alloc (.cells #[.int .i64 (i : Int)] 3)).heap.size := by have := kA.size; omega
            have hn1' : (bel xs t i).length + 1 ≤ 17592186044416 := by omega
            clear kA
            go_wp2_with (at_builtin; go_must (refine wp_append1 rfl _ _ rfl (T + 3) (.slice av (bel xs t i).length cv) (bel xs t i).length (iv (bel xs t i)) rfl OA.out ⟨w3.heap.size, 0, none⟩ i rfl CA.out hn1' hszA ?_); intro v' w4 o4 k4 b4; have O4 := hide o4; have K4 := hide k4; clear o4 k4 b4)
            go_roundw
            · have hfrm := fun k e => ownsRow_from OA.out (k := k) e
              refine ⟨i + 1, v', rfl, rfl, by omega, α', φ', EA.out.new K4.out fun k e => ?_, R3.out, ?_, ?_, KA.out.trans K4.out fun k e => .inr ?_⟩
              · have := hfrm k e; have := hzw.out; have := HS0.out; omega
              · have h := O4.out
                rw [HB2.out, iv_snoc, List.length_append]
                exact h
              · have := K4.out.size; omega
              · have := hfrm k e; have := hzw.out; omega
            · show n - ((i : Int) + 1).toNat < n - (i : Int).toNat
              omega
        · obtain rfl : i = n := by omega
          obtain ⟨α, φ, q1, q2, q3, q4, q5⟩ := HD.out
          have Q3 := hide (ownsRow_base (b' := w.heap.size) q3 (by omega))
          have Q5 := hide (KW.out.more q5)
          clear q1 q2 q3 q5
          go_wp2_with fail
          go_ret2
          exact ⟨bel xs t i, _, rfl, Q3.out, by rw [HN.out], Q5.out⟩
    · rw [if_neg hnd] at hC
      subst hC
      have hwi : wI nd 0 ((n : Int) - 1) = false := by unfold wI; simp; have := HN.out; omega
      rw [hwi] at WI
      go_wp2_with fail
      go_at_call 34
      refine (WI.out _).mono ?_
      rintro e w2 ⟨rfl, rfl⟩
      go_wp2_with fail
      go_ret2
      exact ⟨[], _, rfl, World.ownsRow_nil _ _ _ _, fun _ => rfl, (fun e => by cases e), KW.out.more K1.out⟩
  · have hC := HC.out
    rw [if_pos h] at hC
    subst hC
    go_wp2_with fail
    go_ret2
    exact ⟨[], _, rfl, World.ownsRow_nil _ _ _ _, fun _ => rfl, fun e => absurd e h, KW.out.more K1.out⟩
end Gr
end Go.Proofs.Ytpblmleodcaamaa
