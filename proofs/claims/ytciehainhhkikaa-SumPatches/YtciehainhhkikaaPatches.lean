/- SumPatches. -/
import Derived.Test.YtciehainhhkikaaLent
import Derived.Test.YtciehainhhkikaaRefPatch
import Derived.Test.YtciehainhhkikaaOpen
import Derived.Deep.RegionHeld3
namespace Go.Proofs.Ytciehainhhkikaa
open Go.ChangeShapes Go.WideShapes Go.ChangeAt Go.RowKit Go.Joins

/-- the front of what is lent, its address by a name -/
theorem lent_slice (g n m : Nat) (hm : m = n + 80) (hs : m < 281474976710656) : ∃ a', (∀ wx, (Instr.slice 22 (.slice (some ⟨g, 0, none⟩) m m) none (some (.int .i64 (n : Int))) none).run Try.prog wx = .ok (.slice a' n m) wx) ∧ (∀ wx x, Own wx g (marked x) → n = x.length → (∀ d ∈ x, d < 256) → Rd wx a' n x) := by
  refine ⟨_, slice0_run _ m m n (by omega), fun wx x ho hx hd => ?_⟩
  obtain ⟨a2, hs2, hr2⟩ := slice0_rd (ho.rdn m (by rw [marked_length, ← hx]; exact hm) hs (marked_lt x hd)) m n (Nat.le_refl _) (by omega)
  have e := (slice0_run (some ⟨g, 0, none⟩) m m n (by omega) wx).symm.trans (hs2 wx)
  simp only [Result.ok.injEq, Value.slice.injEq, and_true] at e
  rw [e, ← marked_take x n hx]
  exact hr2

/-- five cells of a box read on -/
theorem box_keep {W w2 : World} {B : Nat} {v0 v1 v2 v3 v4 : Value} (hb : Below W.heap.size W w2) (h : W.cell? ⟨B, 0, none⟩ = some v0 ∧ W.cell? ⟨B, 1, none⟩ = some v1 ∧ W.cell? ⟨B, 2, none⟩ = some v2 ∧ W.cell? ⟨B, 3, none⟩ = some v3 ∧ W.cell? ⟨B, 4, none⟩ = some v4) :
    w2.cell? ⟨B, 0, none⟩ = some v0 ∧ w2.cell? ⟨B, 1, none⟩ = some v1 ∧ w2.cell? ⟨B, 2, none⟩ = some v2 ∧ w2.cell? ⟨B, 3, none⟩ = some v3 ∧ w2.cell? ⟨B, 4, none⟩ = some v4 := by
  obtain ⟨h0, h1, h2, h3, h4⟩ := h
  have hB := block_lt_of_cell h0
  exact ⟨(hb.cell (p := ⟨B, 0, none⟩) hB).trans h0, (hb.cell (p := ⟨B, 1, none⟩) hB).trans h1, (hb.cell (p := ⟨B, 2, none⟩) hB).trans h2, (hb.cell (p := ⟨B, 3, none⟩) hB).trans h3, (hb.cell (p := ⟨B, 4, none⟩) hB).trans h4⟩

theorem after_drew {w w' : World} (h : Below w.drew.heap.size w.drew w') : Below w.heap.size w w' := (Below.refl w.heap.size w).drew.trans h
theorem Rd.drew {w : World} {a : Option Addr} {n : Nat} {l : List Nat} (h : Rd w a n l) : Rd w.drew a n l := h.keep (Below.refl _ _).drew

set_option maxHeartbeats 4000000 in
set_option maxRecDepth 100000 in
theorem patches_walk (s : Nat) (n at_ : Int) (a : Option Addr) (o c : Nat) (x : List Nat) (b : Option Addr) (m d : Nat) (y : List Nat) (w : World) (hs : s < 4294967296) (n1 : -9223372036854775808 ≤ n) (n2 : n ≤ 9223372036854775807) (t1 : -9223372036854775808 ≤ at_) (t2 : at_ ≤ 9223372036854775807)
    (hx : Rd w a o x) (sx : o ≤ 140737488351232) (hy : Rd w b m y) (sy : m ≤ 140737488351232) :
    Calls Try.prog 6 #[.agg #[.int .u32 (s : Int), .int .i64 n, .int .i64 at_, .slice a o c, .slice b m d]] w fun e w' => e = .returned (.bool true) ∧ Below w.heap.size w w' := by
  have hxo := hx.2.1
  have hym := hy.2.1
  have HX := hide hx
  have HY := hide hy
  obtain ⟨mo, hmo⟩ : ∃ mo, mo = o + 80 := ⟨_, rfl⟩
  obtain ⟨mm, hmm⟩ : ∃ mm, mm = m + 80 := ⟨_, rfl⟩
  have HMO := hide hmo
  have HMM := hide hmm
  have smo : mo < 281474976710656 := by omega
  have smm : mm < 281474976710656 := by omega
  have lo1 : o ≤ mo := by omega
  have lm1 : m ≤ mm := by omega
  clear hx hy hmo hmm
  go_enter Try.func6, Try.ntmps6
  go_wp2_with fail
  refine (awake_any _).mono ?_
  rintro e w1 ⟨rfl, hb1⟩
  obtain ⟨W0, hW0⟩ : ∃ W0, W0 = w.alloc (.cells #[.int .u32 (s : Int), .int .i64 n, .int .i64 at_, .slice a o c, .slice b m d] 34) := ⟨_, rfl⟩
  rw [← hW0] at hb1
  have q : W0.cell? ⟨w.heap.size, 0, none⟩ = some (.int .u32 (s : Int)) ∧ W0.cell? ⟨w.heap.size, 1, none⟩ = some (.int .i64 n) ∧ W0.cell? ⟨w.heap.size, 2, none⟩ = some (.int .i64 at_) ∧ W0.cell? ⟨w.heap.size, 3, none⟩ = some (.slice a o c) ∧ W0.cell? ⟨w.heap.size, 4, none⟩ = some (.slice b m d) := by
    rw [hW0, World.cell?_alloc_at _ _ _ _ rfl, World.cell?_alloc_at _ _ _ _ rfl, World.cell?_alloc_at _ _ _ _ rfl, World.cell?_alloc_at _ _ _ _ rfl, World.cell?_alloc_at _ _ _ _ rfl]
    exact ⟨rfl, rfl, rfl, rfl, rfl⟩
  have hbW : Below w.heap.size w W0 := by rw [hW0]; exact (Below.refl _ _).alloc (Nat.le_refl _) _
  have HBW := hide hbW
  have Q := hide q
  have HX0 := hide (HX.out.keep hbW)
  have HY0 := hide (HY.out.keep hbW)
  have HB1 := hide hb1
  clear hb1 hW0 q hbW HX HY
  obtain ⟨y0, y1, y2, y3, y4⟩ := box_keep HB1.out Q.out
  go_wp2_with fail
  refine (lent_any _ _ _ _ _ (HX0.out.keep HB1.out) sx).mono ?_
  rintro e w2 ⟨g1, rfl, hg1, ho2, hb2⟩
  rw [← HMO.out]
  have HG1 : Hid (W0.heap.size ≤ g1) := Nat.le_trans HB1.out.size hg1
  have HB2 := hide (further HB1.out hb2)
  have HO2 := hide ho2
  clear y0 y1 y2 y3 y4 hg1 ho2 hb2 HB1
  obtain ⟨y0, y1, y2, y3, y4⟩ := box_keep HB2.out Q.out
  go_wp2_with fail
  refine (lent_any _ _ _ _ _ (HY0.out.keep HB2.out) sy).mono ?_
  rintro e w3 ⟨g2, rfl, hg2, ho3, hb3⟩
  rw [← HMM.out]
  have HG12 : Hid (g1 < g2) := Nat.lt_of_lt_of_le HO2.out.lt hg2
  have HB3 := hide (further HB2.out hb3)
  have OA3 := hide (HO2.out.keep hb3)
  have OB3 := hide ho3
  clear y0 y1 y2 y3 y4 hg2 ho3 hb3 HB2 HO2
  obtain ⟨s1, hsl1, hr1⟩ := lent_slice g1 o mo HMO.out smo
  obtain ⟨s2, hsl2, hr2⟩ := lent_slice g2 m mm HMM.out smm
  have R1 := hide hr1
  have R2 := hide hr2
  clear hr1 hr2
  obtain ⟨y0, y1, y2, y3, y4⟩ := box_keep HB3.out Q.out
  generalize hBB : w.heap.size = B at *
  have HBB := hide hBB
  clear hBB
  go_wp2_with fail
  go_region_held3 (fun w' => w'.cell? ⟨B, 0, none⟩ = some (.int .u32 (s : Int)) ∧ w'.cell? ⟨B, 1, none⟩ = some (.int .i64 n) ∧ w'.cell? ⟨B, 2, none⟩ = some (.int .i64 at_) ∧ w'.cell? ⟨B, 3, none⟩ = some (.slice a o c) ∧ w'.cell? ⟨B, 4, none⟩ = some (.slice b m d)) (first | go_keep | (exact box_keep hb4 ⟨y0, y1, y2, y3, y4⟩)) ((go_at_call 19; refine (patch_any _ _ _ _ _ _ _ _ _ _ _ _ hs n1 n2 t1 t2 (R1.out _ _ OA3.out HX0.out.1 HX0.out.2.2.1).drew (R2.out _ _ OB3.out HY0.out.1 HY0.out.2.2.1).drew).mono ?_; rintro e w4 ⟨rfl, hb4⟩))
  have HB4 := hide (further HB3.out (after_drew hb4))
  have OA4 := hide (OA3.out.keep (after_drew hb4))
  have OB4 := hide (OB3.out.keep (after_drew hb4))
  clear y0 y1 y2 y3 y4 hb4 HB3 OA3 OB3
  obtain ⟨y0, y1, y2, y3, y4⟩ := box_keep HB4.out Q.out
  go_wp2_with fail
  refine (kept_any _ _ _ _ _ _ _ OA4.out (HX0.out.keep HB4.out) HMO.out sx).mono ?_
  rintro e w4' ⟨rfl, hw4⟩
  subst hw4
  go_wp2_with fail
  refine (kept_any _ _ _ _ _ _ _ OB4.out (HY0.out.keep HB4.out) HMM.out sy).mono ?_
  rintro e w4' ⟨rfl, hw4⟩
  subst hw4
  clear y0 y1 y2 y3 y4
  obtain ⟨y0, y1, y2, y3, y4⟩ := box_keep HB4.out Q.out
  go_wp2_with fail
  go_region_held3 (fun w' => w'.cell? ⟨B, 0, none⟩ = some (.int .u32 (s : Int)) ∧ w'.cell? ⟨B, 1, none⟩ = some (.int .i64 n) ∧ w'.cell? ⟨B, 2, none⟩ = some (.int .i64 at_) ∧ w'.cell? ⟨B, 3, none⟩ = some (.slice a o c) ∧ w'.cell? ⟨B, 4, none⟩ = some (.slice b m d)) (first | go_keep | (exact box_keep hb5 ⟨y0, y1, y2, y3, y4⟩)) ((go_at_call 19; refine (patch_any _ _ _ _ _ _ _ _ _ _ _ _ hs n1 n2 t1 t2 (R1.out _ _ OA4.out HX0.out.1 HX0.out.2.2.1).drew (R2.out _ _ OB4.out HY0.out.1 HY0.out.2.2.1).drew).mono ?_; rintro e w5 ⟨rfl, hb5⟩))
  have HB5 := hide (further HB4.out (after_drew hb5))
  have OA5 := hide (OA4.out.keep (after_drew hb5))
  have OB5 := hide (OB4.out.keep (after_drew hb5))
  clear y0 y1 y2 y3 y4 hb5 HB4 OA4 OB4
  obtain ⟨y0, y1, y2, y3, y4⟩ := box_keep HB5.out Q.out
  go_wp2_with fail
  refine (other_any _ _ _ _ _ (HX0.out.keep HB5.out)).mono ?_
  rintro e w6 ⟨g6, rfl, _, ho6, _, hb6⟩
  have hb6' := further HB5.out hb6
  obtain ⟨w7, hcp, ho7, hb7, hk7⟩ := copy_own (OA5.out.keep hb6) ho6 (by rw [oth_length]; exact HX0.out.1) (by rw [marked_length, ← HX0.out.1]; exact HMO.out) lo1
  have e7 : oth x ++ (marked x).drop o = marked (oth x) := by
    unfold marked
    rw [HX0.out.1, List.drop_left]
  rw [e7] at ho7
  have OA7 := hide ho7
  have OB7 : Hid (Own w7 g2 (marked y)) := by show w7.heap[g2]? = _; rw [hk7 g2 (by have := HG12.out; omega)]; exact OB5.out.keep hb6
  have HB7 := hide (hb7 _ _ hb6' HG1.out)
  clear y0 y1 y2 y3 y4 hb6 hb6' ho6 ho7 hb7 hk7 e7 HB5 OA5 OB5
  obtain ⟨y0, y1, y2, y3, y4⟩ := box_keep HB7.out Q.out
  go_wp2_with fail
  go_region_held3 (fun w' => w'.cell? ⟨B, 0, none⟩ = some (.int .u32 (s : Int)) ∧ w'.cell? ⟨B, 1, none⟩ = some (.int .i64 n) ∧ w'.cell? ⟨B, 2, none⟩ = some (.int .i64 at_) ∧ w'.cell? ⟨B, 3, none⟩ = some (.slice a o c) ∧ w'.cell? ⟨B, 4, none⟩ = some (.slice b m d)) (first | go_keep | (exact box_keep hb8 ⟨y0, y1, y2, y3, y4⟩)) ((go_at_call 19; refine (patch_any _ _ _ _ _ _ _ _ _ _ _ _ hs n1 n2 t1 t2 (R1.out _ _ OA7.out (by rw [oth_length]; exact HX0.out.1) (oth_lt x HX0.out.2.2.1)).drew (R2.out _ _ OB7.out HY0.out.1 HY0.out.2.2.1).drew).mono ?_; rintro e w8 ⟨rfl, hb8⟩))
  have HB8 := hide (further HB7.out (after_drew hb8))
  have OA8 := hide (OA7.out.keep (after_drew hb8))
  have OB8 := hide (OB7.out.keep (after_drew hb8))
  clear y0 y1 y2 y3 y4 hb8 HB7 OA7 OB7
  obtain ⟨y0, y1, y2, y3, y4⟩ := box_keep HB8.out Q.out
  go_wp2_with fail
  go_region_held3 (fun w' => w'.cell? ⟨B, 0, none⟩ = some (.int .u32 (s : Int)) ∧ w'.cell? ⟨B, 1, none⟩ = some (.int .i64 n) ∧ w'.cell? ⟨B, 2, none⟩ = some (.int .i64 at_) ∧ w'.cell? ⟨B, 3, none⟩ = some (.slice a o c) ∧ w'.cell? ⟨B, 4, none⟩ = some (.slice b m d)) (first | go_keep | (exact box_keep hb9 ⟨y0, y1, y2, y3, y4⟩)) ((go_at_call 19; refine (patch_any _ _ _ _ _ _ _ _ _ _ _ _ hs n1 n2 t1 t2 (R2.out _ _ OB8.out HY0.out.1 HY0.out.2.2.1).drew (R2.out _ _ OB8.out HY0.out.1 HY0.out.2.2.1).drew).mono ?_; rintro e w9 ⟨rfl, hb9⟩))
  have HB9 := hide (further HB8.out (after_drew hb9))
  have OA9 := hide (OA8.out.keep (after_drew hb9))
  have OB9 := hide (OB8.out.keep (after_drew hb9))
  clear y0 y1 y2 y3 y4 hb9 HB8 OA8 OB8
  obtain ⟨y0, y1, y2, y3, y4⟩ := box_keep HB9.out Q.out
  go_wp2_with fail
  refine (refPatch_any _ _ _ _ _ _ _ _ _ _ _ _ hs n1 n2 t1 t2 (HX0.out.keep HB9.out) (HY0.out.keep HB9.out)).mono ?_
  rintro e w10 ⟨rfl, hb10⟩
  have HB10 := hide (further HB9.out hb10)
  have OA10 := hide (OA9.out.keep hb10)
  have OB10 := hide (OB9.out.keep hb10)
  clear y0 y1 y2 y3 y4 hb10 HB9 OA9 OB9
  obtain ⟨y0, y1, y2, y3, y4⟩ := box_keep HB10.out Q.out
  go_wp2_with fail
  go_region_held3 (fun w' => w'.cell? ⟨B, 0, none⟩ = some (.int .u32 (s : Int)) ∧ w'.cell? ⟨B, 1, none⟩ = some (.int .i64 n) ∧ w'.cell? ⟨B, 2, none⟩ = some (.int .i64 at_) ∧ w'.cell? ⟨B, 3, none⟩ = some (.slice a o c) ∧ w'.cell? ⟨B, 4, none⟩ = some (.slice b m d)) (first | go_keep | (exact box_keep hb12 (box_keep hb11 ⟨y0, y1, y2, y3, y4⟩)) | (exact box_keep hb11 ⟨y0, y1, y2, y3, y4⟩)) ((first | (go_at_call 13; refine (other_any _ _ _ _ _ (HX0.out.keep HB10.out).drew).mono ?_; rintro e w11 ⟨g11, rfl, _, _, r11, hb11⟩) | (go_at_call 20; refine (refPatch_any _ _ _ _ _ _ _ _ _ _ _ _ hs n1 n2 t1 t2 r11 ((HY0.out.keep HB10.out).drew.keep hb11)).mono ?_; rintro e w12 ⟨rfl, hb12⟩)))
  have hb11' := after_drew hb11
  have HB12 := hide (further (further HB10.out hb11') hb12)
  have OB12 := hide ((OB10.out.keep hb11').keep hb12)
  clear y0 y1 y2 y3 y4 r11 hb11 hb11' hb12 HB10 OA10 OB10
  obtain ⟨y0, y1, y2, y3, y4⟩ := box_keep HB12.out Q.out
  go_wp2_with fail
  refine (refPatch_any _ _ _ _ _ _ _ _ _ _ _ _ hs n1 n2 t1 t2 (HY0.out.keep HB12.out) (HY0.out.keep HB12.out)).mono ?_
  rintro e w13 ⟨rfl, hb13⟩
  have HB13 := hide (further HB12.out hb13)
  have OB13 := hide (OB12.out.keep hb13)
  clear y0 y1 y2 y3 y4 hb13 HB12 OB12
  obtain ⟨y0, y1, y2, y3, y4⟩ := box_keep HB13.out Q.out
  go_wp2_with fail
  refine (kept_any _ _ _ _ _ _ _ OB13.out (HY0.out.keep HB13.out) HMM.out sy).mono ?_
  rintro e w14 ⟨rfl, hw14⟩
  subst hw14
  clear y0 y1 y2 y3 y4
  generalize pv s n at_ x y = p1
  generalize pv s n at_ (oth x) y = p2
  generalize pv s n at_ y y = p3
  generalize pe n at_ x y = e1
  generalize pe n at_ (oth x) y = e2
  generalize pe n at_ y y = e3
  have z1 := beq_cast (rfl : p1 = p1)
  have z2 := beq_cast (rfl : p2 = p2)
  have z3 := beq_cast (rfl : p3 = p3)
  have z4 : (e1 == e1) = true := beq_self_eq_true _
  have z5 : (e2 == e2) = true := beq_self_eq_true _
  have z6 : (e3 == e3) = true := beq_self_eq_true _
  go_wp2
  go_ret
  refine ⟨rfl, ?_⟩
  rw [HBB.out]
  exact HBW.out.trans (HB13.out.mono (by have h1 := HBW.out.size; have h2 := HBB.out; omega))

namespace SumPatches
set_option maxRecDepth 100000 in
theorem lifted (os : Os) (started : os.Started) (H : Type) (enc : TypeId × Value → H) :
    ReturnsInHanded {} Try.checked os 6 .any (Rows.sumPatchesSpec.pre6 enc Try.prog Try.f6 Rows.sumPatchesRow.domain false) (Rows.sumPatchesSpec.post enc Try.prog Try.f6 false true false false) := by
  refine returnsInHanded_of_change_sized (C := Try.checked) own started (by kernel_rfl) Try.func6
    (ChangeSpec.witness6 (enc := enc) (C := Try.checked) false ⟨#[], #[.agg #[.int .u32 0, .int .i64 0, .int .i64 0, .slice none 0 0, .slice none 0 0]], []⟩ 8 (by kernel_rfl) (by kernel_rfl) (by kernel_rfl) (by kernel_rfl)) ?_
  intro W base args ds gs before hval0 hW _ hsz0 _
  have hsz : (DataW.weightsEach Try.prog (Try.f6.params.toList ++ Rows.sumPatchesSpec.plain.varTypes Try.prog) (ds ++ gs)).all (· ≤ reachBytes) = true := hsz0
  have hval : ∀ (j : Nat) t v, Try.f6.params[j]? = some t → args[j]? = some v → Value.okWide Try.prog W .any base t v := hval0
  have hW' := hW
  obtain ⟨p, q, hA0, hV, rfl, hfz, hnd⟩ := hW
  have hA : DataW.TrodAll enc Try.prog W 0 (fun _ => true) true Try.f6.params.toList args.toList ds p := hA0
  rw [Try.params6] at hA hval hsz
  obtain ⟨v0, d0, rfl, rfl, h0⟩ := trodAll_one hA
  obtain ⟨rfl, rfl⟩ := trodVars_none hV
  have lt0 : ∀ x ∈ p, x.block < W.heap.size := by obtain ⟨m, hm⟩ := h0; exact DataW.trod_lt m _ _ _ hm
  obtain ⟨c0, c1, c2, c3, c4, y0, y1, y2, y3, y4, n, rfl, hd, g0, g1, g2, g3, g4⟩ := open5 Try.underlying34 (by kernel_rfl) (by kernel_rfl) (hval 0 34 v0 rfl rfl) h0
  have hw0 := weigh hsz (j := 0) rfl rfl
  rw [hd] at hw0
  obtain ⟨a0, e0, _, wf0⟩ := DataW.trod_int Try.underlying25 g0
  obtain ⟨a1, e1, _, wf1⟩ := DataW.trod_int Try.underlying3 g1
  obtain ⟨a2, e2, _, wf2⟩ := DataW.trod_int Try.underlying3 g2
  have hw3 := weigh_field Try.underlying34 hw0 (j := 3) rfl rfl
  have hw4 := weigh_field Try.underlying34 hw0 (j := 4) rfl rfl
  obtain ⟨b3, m3, k3, l3, rfl, hl3, _⟩ := trod_bytes_any g3 hw3
  obtain ⟨b4, m4, k4, l4, rfl, hl4, _⟩ := trod_bytes_any g4 hw4
  have s3 := trod_small g3 hw3
  have s4 := trod_small g4 hw4
  simp at e0 e1 e2
  subst e0 e1 e2
  clear hA0 hval0
  obtain ⟨A, rfl, hA'⟩ := u32_nat wf0
  have bd1 := bounds_i64 wf1
  have bd2 := bounds_i64 wf2
  refine (patches_walk A a1 a2 b3 m3 k3 l3 b4 m4 k4 l4 W hA' bd1.1 bd1.2 bd2.1 bd2.2 hl3 s3 hl4 s4).mono fun e W' ⟨he, bel⟩ => ?_
  subst he
  exact ⟨_, rfl, _, _, _, [], _, [], hW', trodAll_mk1 (shut_bool Try.underlying4 _), trodAll_mk1 (Below.trod laidOut (by kernel_rfl) (of_decide_eq_true (by kernel_rfl)) h0 bel lt0), rfl, bel.frame _, fun h => by cases h⟩

theorem over : Rows.sumPatchesRow.holds Try.pinned (OpenSpec.ofChange Rows.sumPatchesSpec) :=
  OpenClaim.holds_of_wide 6 Try.f6 rfl rfl rfl rfl rfl rfl rfl ⟨rfl, rfl, rfl, rfl, rfl⟩ rfl rfl rfl rfl rfl (by kernel_rfl) Try.func6 (by kernel_rfl)
    (of_decide_eq_true (by kernel_rfl)) (by unfold Func.isWrapper; first | (rw [if_pos (by decide +kernel)]; kernel_rfl) | (rw [if_neg (by decide +kernel)]; exact ⟨rfl, rfl⟩))
    (fun os started H enc _ => lifted os started H enc)
end SumPatches

theorem sumPatches_holds : Rows.SumPatchesSaid := SumPatches.over
#print axioms sumPatches_holds
end Go.Proofs.Ytciehainhhkikaa
