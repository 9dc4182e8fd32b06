/- SumTogether. -/
import Derived.Test.YtciehainhhkikabOpen
import Derived.RegionTactic
import Derived.ChangeAlike
import Derived.BigRegion
import Derived.WalkLawsBesides
namespace Go.Proofs.Ytciehainhhkikab
open Go.ChangeShapes Go.WideShapes Go.ChangeAt Go.RowKit Go.Joins

/-- three texts of one length, together -/
def tog (x y z : List Nat) : List Nat := List.zipWith (· ^^^ ·) (List.zipWith (· ^^^ ·) x y) z

theorem tog_length (x y z : List Nat) (n : Nat) (hx : x.length = n) (hy : y.length = n) (hz : z.length = n) : (tog x y z).length = n := by simp [tog, hx, hy, hz]

theorem tog_at (x y z : List Nat) (n : Nat) (hx : x.length = n) (hy : y.length = n) (hz : z.length = n) (i : Nat) (hi : i < n) : (tog x y z).getD i 0 = x.getD i 0 ^^^ y.getD i 0 ^^^ z.getD i 0 := by
  simp only [tog, List.getD_eq_getElem?_getD, List.getElem?_zipWith, List.getElem?_eq_getElem (show i < x.length by omega), List.getElem?_eq_getElem (show i < y.length by omega), List.getElem?_eq_getElem (show i < z.length by omega), Option.getD_some]

theorem tog_lt (x y z : List Nat) (n : Nat) (hx : x.length = n) (hy : y.length = n) (hz : z.length = n) (dx : ∀ d ∈ x, d < 256) (dy : ∀ d ∈ y, d < 256) (dz : ∀ d ∈ z, d < 256) : ∀ d ∈ tog x y z, d < 256 := by
  intro d hd
  obtain ⟨i, hi, rfl⟩ := List.getElem_of_mem hd
  have hi' : i < n := by rw [tog_length x y z n hx hy hz] at hi; exact hi
  have e := tog_at x y z n hx hy hz i hi'
  rw [List.getD_eq_getElem?_getD, List.getElem?_eq_getElem hi, Option.getD_some] at e
  rw [e]
  exact Nat.xor_lt_two_pow (n := 8) (Nat.xor_lt_two_pow (n := 8) (getD_lt x dx i) (getD_lt y dy i)) (getD_lt z dz i)

/-- the sum of what they are together is what their sums are together -/
theorem tog_law (x y z : List Nat) (n : Nat) (hx : x.length = n) (hy : y.length = n) (hz : z.length = n) (dx : ∀ d ∈ x, d < 256) (dy : ∀ d ∈ y, d < 256) (dz : ∀ d ∈ z, d < 256) :
    M.more 0 (tog x y z) = M.more 0 x ^^^ M.more 0 y ^^^ M.more 0 z := by
  have e0 : M.neg 0 = (M.neg 0 ^^^ M.neg 0) ^^^ M.neg 0 := by rw [Nat.xor_self, Nat.zero_xor]
  have h : M.eat (M.neg 0) (tog x y z) = M.eat (M.neg 0) x ^^^ M.eat (M.neg 0) y ^^^ M.eat (M.neg 0) z := by
    conv => lhs; rw [e0]
    unfold tog
    rw [M.eat_xor _ _ _ _ (by simp; omega), M.eat_xor _ _ _ _ (by omega)]
  have bx := M.eat_lt x dx (M.neg_lt 0)
  have by_ := M.eat_lt y dy (M.neg_lt 0)
  have bz := M.eat_lt z dz (M.neg_lt 0)
  unfold M.more
  rw [h, M.neg_xor bx, M.neg_xor by_, M.neg_xor bz, M.neg_xor (M.xor_lt32 (M.xor_lt32 bx by_) bz)]
  rw [M.xor_mid (M.eat (M.neg 0) x), Nat.xor_self, Nat.xor_zero, ← Nat.xor_assoc]

/-- k bytes done, the rest 0 -/
def allTo (T : List Nat) (m k : Nat) : List Nat := T.take k ++ List.replicate (m - k) 0

theorem allTo_length (T : List Nat) (m k : Nat) (hT : T.length = m) (hk : k ≤ m) : (allTo T m k).length = m := by simp [allTo, hT]; omega
theorem allTo_zero (T : List Nat) (m : Nat) : allTo T m 0 = List.replicate m 0 := by simp [allTo]
theorem allTo_all (T : List Nat) (m : Nat) (hT : T.length = m) : allTo T m m = T := by simp [allTo, ← hT]
theorem allTo_set (T : List Nat) (m k : Nat) (hT : T.length = m) (hk : k < m) : (allTo T m k).set k (T.getD k 0) = allTo T m (k + 1) := by
  unfold allTo
  rw [List.set_append_right _ _ (by simp; omega), take_snoc T k (by omega), show m - k = (m - (k + 1)) + 1 by omega, List.replicate_succ]
  simp [hT, Nat.min_eq_left (Nat.le_of_lt hk)]

/-- the cell of what came in -/
theorem Rd.cellAt {w : World} {a : Option Addr} {n : Nat} {l : List Nat} (h : Rd w a n l) (k : Nat) (hk : k < n) : ∃ b off, a = some ⟨b, off, none⟩ ∧ w.cell? ⟨b, off + k, none⟩ = some (.int .u8 ((l.getD k 0 : Nat) : Int)) := by
  rcases h.2.2.2 with h0 | ⟨b, off, rfl, hr⟩
  · omega
  · exact ⟨b, off, rfl, hr k hk⟩

theorem take_getD (l : List Nat) (m k : Nat) (hk : k < m) : (l.take m).getD k 0 = l.getD k 0 := by
  simp [List.getD_eq_getElem?_getD, hk]

set_option maxHeartbeats 2000000 in
set_option maxRecDepth 100000 in
theorem together_walk (a : Option Addr) (n c : Nat) (l : List Nat) (a1 : Option Addr) (n1 c1 : Nat) (l1 : List Nat) (a2 : Option Addr) (n2 c2 : Nat) (l2 : List Nat) (w : World) (h : Rd w a n l) (hc : n ≤ c) (h1 : Rd w a1 n1 l1) (hc1 : n1 ≤ c1) (h2 : Rd w a2 n2 l2) (hc2 : n2 ≤ c2) :
    Calls Try.prog 3 #[.agg #[.slice a n c, .slice a1 n1 c1, .slice a2 n2 c2]] w fun e w' => e = .returned (.bool true) ∧ Below w.heap.size w w' := by
  have hn := h.2.1
  have hn1 := h1.2.1
  have hn2 := h2.2.1
  obtain ⟨m, hm⟩ : ∃ m, m = min (min n n1) n2 := ⟨_, rfl⟩
  have hmin : ∀ (ts : Array TypeId) (t : TypeId) (w : World), (Builtin.min_ ts t #[.int .i64 (n : Int), .int .i64 (n1 : Int), .int .i64 (n2 : Int)]).run Try.prog w = .ok (.int .i64 (m : Int)) w := fun ts t w => by
    rw [run_min_int3]
    congr 2
    split <;> split <;> omega
  have m0 : m ≤ n := by omega
  have m1 : m ≤ n1 := by omega
  have m2 : m ≤ n2 := by omega
  have hmk := make_run m (by omega)
  clear hm
  have HH := hide h
  have HH1 := hide h1
  have HH2 := hide h2
  clear h h1 h2
  go_enter Try.func3, Try.ntmps3
  go_wp2_with fail
  refine (awake_any _).mono ?_
  rintro e w1 ⟨rfl, hb1⟩
  obtain ⟨hcc, hff⟩ := bcell hb1
  go_wp2_with fail
  clear hcc hff
  obtain ⟨W0, hW0⟩ : ∃ W0, W0 = w.alloc (.cells #[.slice a n c, .slice a1 n1 c1, .slice a2 n2 c2] 24) := ⟨_, rfl⟩
  rw [← hW0] at hb1
  have q0 : W0.cell? ⟨w.heap.size, 0, none⟩ = some (.slice a n c) := by rw [hW0, World.cell?_alloc_at _ _ _ _ rfl]; rfl
  have q1 : W0.cell? ⟨w.heap.size, 1, none⟩ = some (.slice a1 n1 c1) := by rw [hW0, World.cell?_alloc_at _ _ _ _ rfl]; rfl
  have q2 : W0.cell? ⟨w.heap.size, 2, none⟩ = some (.slice a2 n2 c2) := by rw [hW0, World.cell?_alloc_at _ _ _ _ rfl]; rfl
  have hbW : Below w.heap.size w W0 := by rw [hW0]; exact (Below.refl _ _).alloc (Nat.le_refl _) _
  have HBW := hide hbW
  have Q0 := hide q0
  have Q1 := hide q1
  have Q2 := hide q2
  have HL : Hid (w.heap.size < W0.heap.size) := block_lt_of_cell q0
  have HT := hide (tog_length (l.take m) (l1.take m) (l2.take m) m (by rw [List.length_take]; have := HH.out.1; omega) (by rw [List.length_take]; have := HH1.out.1; omega) (by rw [List.length_take]; have := HH2.out.1; omega))
  have HTA := hide (tog_at (l.take m) (l1.take m) (l2.take m) m (by rw [List.length_take]; have := HH.out.1; omega) (by rw [List.length_take]; have := HH1.out.1; omega) (by rw [List.length_take]; have := HH2.out.1; omega))
  have HTL := hide (tog_lt (l.take m) (l1.take m) (l2.take m) m (by rw [List.length_take]; have := HH.out.1; omega) (by rw [List.length_take]; have := HH1.out.1; omega) (by rw [List.length_take]; have := HH2.out.1; omega) (take_lt l HH.out.2.2.1 m) (take_lt l1 HH1.out.2.2.1 m) (take_lt l2 HH2.out.2.2.1 m))
  have HTM := hide (tog_law (l.take m) (l1.take m) (l2.take m) m (by rw [List.length_take]; have := HH.out.1; omega) (by rw [List.length_take]; have := HH1.out.1; omega) (by rw [List.length_take]; have := HH2.out.1; omega) (take_lt l HH.out.2.2.1 m) (take_lt l1 HH1.out.2.2.1 m) (take_lt l2 HH2.out.2.2.1 m))
  generalize tog (l.take m) (l1.take m) (l2.take m) = T at *
  have ho1 : Own (w1.alloc (.cells (B8 (List.replicate m 0)).toArray 5)) w1.heap.size (allTo T m 0) := by rw [allTo_zero]; exact heap_alloc_new _ _
  have hb2 : Below W0.heap.size W0 (w1.alloc (.cells (B8 (List.replicate m 0)).toArray 5)) := hb1.alloc hb1.size _
  have HG := hide hb1.size
  clear hW0 q0 q1 q2 hbW hb1
  generalize w1.alloc (.cells (B8 (List.replicate m 0)).toArray 5) = w2 at *
  generalize w1.heap.size = g at *
  go_loopw [6] (fun i wx => ∃ k : Nat, k ≤ m ∧ i = .int .i64 k ∧ Own wx g (allTo T m k) ∧ Below W0.heap.size W0 wx) (fun i _ => m - (intOf i).toNat)
  case atStart => exact ⟨0, by omega, rfl, ho1, hb2⟩
  case round =>
    obtain ⟨k, hk, rfl, ho', hb'⟩ := hrel
    have HO := hide ho'
    have HB := hide hb'
    clear ho' hb' ho1 hb2
    by_cases hlt : k < m
    · have hd : decide ((k : Int) < (m : Int)) = true := decide_eq_true (by omega)
      obtain ⟨b0, o0, rfl, x0⟩ := ((HH.out.keep HBW.out).keep HB.out).cellAt k (by omega)
      obtain ⟨b1, o1, rfl, x1⟩ := ((HH1.out.keep HBW.out).keep HB.out).cellAt k (by omega)
      obtain ⟨b2, o2, rfl, x2⟩ := ((HH2.out.keep HBW.out).keep HB.out).cellAt k (by omega)
      have y0 := (HB.out.cell (p := ⟨w.heap.size, 0, none⟩) HL.out).trans Q0.out
      have y1 := (HB.out.cell (p := ⟨w.heap.size, 1, none⟩) HL.out).trans Q1.out
      have y2 := (HB.out.cell (p := ⟨w.heap.size, 2, none⟩) HL.out).trans Q2.out
      have d0 := getD_lt l HH.out.2.2.1 k
      have d1 := getD_lt l1 HH1.out.2.2.1 k
      have d2 := getD_lt l2 HH2.out.2.2.1 k
      have hta := HTA.out k hlt
      rw [take_getD _ _ _ hlt, take_getD _ _ _ hlt, take_getD _ _ _ hlt] at hta
      have HA := hide hta
      have HS := hide (allTo_set T m k HT.out hlt)
      have hcc := HO.out.cell k (by rw [allTo_length T m k HT.out hk]; exact hlt)
      have hff := HO.out.free k
      clear hta
      generalize l.getD k 0 = e0 at *
      generalize l1.getD k 0 = e1 at *
      generalize l2.getD k 0 = e2 at *
      generalize (allTo T m k).getD k 0 = e3 at *
      have t0 := u8_xor_nat e0 e1 d0 d1
      have t1 := u8_xor_nat (e0 ^^^ e1) e2 (Nat.xor_lt_two_pow (n := 8) d0 d1) d2
      clear d0 d1 d2
      generalize w.heap.size = B at *
      go_wp2_with fail
      go_region
      go_wp2
      refine ⟨⟨k + 1, by omega, by go_num, ?_, ?_⟩, by simp [intOf]; omega⟩
      · rw [← HS.out, HA.out]
        exact HO.out.set k _
      · exact (HB.out.setCell HG.out _).drew
    · obtain rfl : k = m := by omega
      obtain ⟨s0, hs0, rs0⟩ := slice0_rd HH.out c k hc m0
      obtain ⟨s1, hs1, rs1⟩ := slice0_rd HH1.out c1 k hc1 m1
      obtain ⟨s2, hs2, rs2⟩ := slice0_rd HH2.out c2 k hc2 m2
      have RS0 := hide rs0
      have RS1 := hide rs1
      have RS2 := hide rs2
      have HO2 : Hid (Own wr g T) := by show Own wr g T; rw [← allTo_all T k HT.out]; exact HO.out
      clear rs0 rs1 rs2 HO
      have y0 := (HB.out.cell (p := ⟨w.heap.size, 0, none⟩) HL.out).trans Q0.out
      go_wp2_with fail
      refine (twin_ex _ _ _ _ _ ((RS0.out.keep HBW.out).keep HB.out)).mono ?_
      rintro e u0 ⟨g0, rfl, _, oo, rr, bb⟩
      have HU0 := hide (further HB.out bb)
      have RR0 := hide rr
      have OO0 := hide (HO2.out.keep bb)
      clear oo rr bb y0 HB HO2
      go_wp2_with fail
      refine (sum_any _ _ _ _ _ RR0.out).mono ?_
      rintro e v0 ⟨rfl, bb⟩
      have HV0 := hide (further HU0.out bb)
      have OV0 := hide (OO0.out.keep bb)
      clear bb HU0 RR0 OO0
      have y1 := (HV0.out.cell (p := ⟨w.heap.size, 1, none⟩) HL.out).trans Q1.out
      go_wp2_with fail
      refine (twin_ex _ _ _ _ _ ((RS1.out.keep HBW.out).keep HV0.out)).mono ?_
      rintro e u1 ⟨g1, rfl, _, oo, rr, bb⟩
      have HU1 := hide (further HV0.out bb)
      have RR1 := hide rr
      have OO1 := hide (OV0.out.keep bb)
      clear oo rr bb y1 HV0 OV0
      go_wp2_with fail
      refine (sum_any _ _ _ _ _ RR1.out).mono ?_
      rintro e v1 ⟨rfl, bb⟩
      have HV1 := hide (further HU1.out bb)
      have OV1 := hide (OO1.out.keep bb)
      clear bb HU1 RR1 OO1
      have y2 := (HV1.out.cell (p := ⟨w.heap.size, 2, none⟩) HL.out).trans Q2.out
      go_wp2_with fail
      refine (twin_ex _ _ _ _ _ ((RS2.out.keep HBW.out).keep HV1.out)).mono ?_
      rintro e u2 ⟨g2, rfl, _, oo, rr, bb⟩
      have HU2 := hide (further HV1.out bb)
      have RR2 := hide rr
      have OO2 := hide (OV1.out.keep bb)
      clear oo rr bb y2 HV1 OV1
      go_wp2_with fail
      refine (sum_any _ _ _ _ _ RR2.out).mono ?_
      rintro e v2 ⟨rfl, bb⟩
      have HV2 := hide (further HU2.out bb)
      have OV2 := hide (OO2.out.keep bb)
      clear bb HU2 RR2 OO2
      have RT := hide (OV2.out.rdn k HT.out.symm (by omega) HTL.out)
      clear OV2
      go_wp2_with fail
      refine (sum_any _ _ _ _ _ RT.out).mono ?_
      rintro e v3 ⟨rfl, bb⟩
      have HV3 := hide (further HV2.out bb)
      clear bb HV2 RT
      have z0 := xor32 _ _ (M.more_lt 0 (l.take k)) (M.more_lt 0 (l1.take k))
      have z1 := xor32 _ _ (M.xor_lt32 (M.more_lt 0 (l.take k)) (M.more_lt 0 (l1.take k))) (M.more_lt 0 (l2.take k))
      have z2 := beq_cast HTM.out
      go_wp2
      go_ret
      exact ⟨rfl, further HBW.out HV3.out⟩

namespace SumTogether
set_option maxRecDepth 100000 in
theorem lifted (os : Os) (started : os.Started) (H : Type) (enc : TypeId × Value → H) :
    ReturnsInHanded {} Try.checked os 3 .any (Rows.sumTogetherSpec.pre6 enc Try.prog Try.f3 Rows.sumTogetherRow.domain false) (Rows.sumTogetherSpec.post enc Try.prog Try.f3 false true false false) := by
  refine returnsInHanded_of_change_sized (C := Try.checked) own started (by kernel_rfl) Try.func3
    (ChangeSpec.witness6 (enc := enc) (C := Try.checked) false ⟨#[], #[.agg #[.slice none 0 0, .slice none 0 0, .slice none 0 0]], []⟩ 8 (by kernel_rfl) (by kernel_rfl) (by kernel_rfl) (by kernel_rfl)) ?_
  intro W base args ds gs before hval0 hW _ hsz0 _
  have hsz : (DataW.weightsEach Try.prog (Try.f3.params.toList ++ Rows.sumTogetherSpec.plain.varTypes Try.prog) (ds ++ gs)).all (· ≤ reachBytes) = true := hsz0
  have hval : ∀ (j : Nat) t v, Try.f3.params[j]? = some t → args[j]? = some v → Value.okWide Try.prog W .any base t v := hval0
  have hW' := hW
  obtain ⟨p, q, hA0, hV, rfl, hfz, hnd⟩ := hW
  have hA : DataW.TrodAll enc Try.prog W 0 (fun _ => true) true Try.f3.params.toList args.toList ds p := hA0
  rw [Try.params3] at hA hval hsz
  obtain ⟨v0, d0, rfl, rfl, h0⟩ := trodAll_one hA
  obtain ⟨rfl, rfl⟩ := trodVars_none hV
  have lt0 : ∀ x ∈ p, x.block < W.heap.size := by obtain ⟨m, hm⟩ := h0; exact DataW.trod_lt m _ _ _ hm
  obtain ⟨c0, c1, c2, y0, y1, y2, n, rfl, hd, _, g0, g1, g2⟩ := open_agg3 Try.underlying24 (by kernel_rfl) (by kernel_rfl) (hval 0 24 v0 rfl rfl) h0
  have hw0 := weigh hsz (j := 0) rfl rfl
  rw [hd] at hw0
  obtain ⟨b0, m0, k0, l0, rfl, hl0, hc0⟩ := trod_bytes_any g0 (weigh_field Try.underlying24 hw0 (j := 0) rfl rfl)
  obtain ⟨b1, m1, k1, l1, rfl, hl1, hc1⟩ := trod_bytes_any g1 (weigh_field Try.underlying24 hw0 (j := 1) rfl rfl)
  obtain ⟨b2, m2, k2, l2, rfl, hl2, hc2⟩ := trod_bytes_any g2 (weigh_field Try.underlying24 hw0 (j := 2) rfl rfl)
  clear hA0 hval0
  refine (together_walk b0 m0 k0 l0 b1 m1 k1 l1 b2 m2 k2 l2 W hl0 hc0 hl1 hc1 hl2 hc2).mono fun e W' ⟨he, bel⟩ => ?_
  subst he
  exact ⟨_, rfl, _, _, _, [], _, [], hW', trodAll_mk1 (shut_bool Try.underlying4 _), trodAll_mk1 (Below.trod laidOut (by kernel_rfl) (of_decide_eq_true (by kernel_rfl)) h0 bel lt0), rfl, bel.frame _, fun h => by cases h⟩

theorem over : Rows.sumTogetherRow.holds Try.pinned (OpenSpec.ofChange Rows.sumTogetherSpec) :=
  OpenClaim.holds_of_wide 3 Try.f3 rfl rfl rfl rfl rfl rfl rfl ⟨rfl, rfl, rfl, rfl, rfl⟩ rfl rfl rfl rfl rfl (by kernel_rfl) Try.func3 (by kernel_rfl)
    (of_decide_eq_true (by kernel_rfl)) (by unfold Func.isWrapper; first | (rw [if_pos (by decide +kernel)]; kernel_rfl) | (rw [if_neg (by decide +kernel)]; exact ⟨rfl, rfl⟩))
    (fun os started H enc _ => lifted os started H enc)
end SumTogether

theorem sumTogether_holds : Rows.SumTogetherSaid := SumTogether.over
#print axioms sumTogether_holds
end Go.Proofs.Ytciehainhhkikab
