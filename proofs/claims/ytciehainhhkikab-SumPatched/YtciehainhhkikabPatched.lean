/- SumPatched. -/
import Derived.Test.YtciehainhhkikabOpen
import Derived.Test.YtciehainhhkikabPatch
import Derived.WalkLawsBesides
namespace Go.Proofs.Ytciehainhhkikab
open Go.ChangeShapes Go.WideShapes Go.ChangeAt Go.RowKit Go.Joins

/-- the sum of three parts -/
theorem more3 (A o R : List Nat) (hA : ∀ d ∈ A, d < 256) (ho : ∀ d ∈ o, d < 256) (hR : ∀ d ∈ R, d < 256) :
    M.more 0 (A ++ (o ++ R)) = (M.itZ (8 * R.length) (M.itZ (8 * o.length) (M.more 0 A)) ^^^ M.itZ (8 * R.length) (M.more 0 o)) ^^^ M.more 0 R := by
  rw [← List.append_assoc, M.more_append _ _ _ (by intro d hd; rcases List.mem_append.1 hd with h | h; exact hA d h; exact ho d h), M.more_join _ (M.more_lt _ _) R hR, M.more_append _ _ _ hA, M.more_join _ (M.more_lt _ _) o ho, M.itZ_xor]

theorem patched_law (A o m R : List Nat) (hA : ∀ d ∈ A, d < 256) (ho : ∀ d ∈ o, d < 256) (hm : ∀ d ∈ m, d < 256) (hR : ∀ d ∈ R, d < 256) (hl : o.length = m.length) :
    M.more 0 (A ++ (o ++ R)) ^^^ M.itZ (8 * R.length) (M.more 0 o ^^^ M.more 0 m) = M.more 0 (A ++ (m ++ R)) := by
  rw [more3 A o R hA ho hR, more3 A m R hA hm hR, hl, M.itZ_xor]
  generalize M.itZ (8 * R.length) (M.itZ (8 * m.length) (M.more 0 A)) = x
  generalize M.itZ (8 * R.length) (M.more 0 o) = y
  generalize M.itZ (8 * R.length) (M.more 0 m) = z
  generalize M.more 0 R = r
  rw [M.xor_mid (x ^^^ y) r y z, Nat.xor_assoc x y y, Nat.xor_self, Nat.xor_zero, Nat.xor_comm r z, ← Nat.xor_assoc]

/-- the text with the other bytes in it -/
def chg (l l2 : List Nat) (p q : Nat) : List Nat := l.take p ++ (l2.take q ++ l.drop (p + q))

theorem chg_lt (l l2 : List Nat) (p q : Nat) (hl : ∀ d ∈ l, d < 256) (hl2 : ∀ d ∈ l2, d < 256) : ∀ d ∈ chg l l2 p q, d < 256 := by
  intro d hd
  rcases List.mem_append.1 hd with h | h
  · exact hl d (List.mem_of_mem_take h)
  · rcases List.mem_append.1 h with h | h
    · exact hl2 d (List.mem_of_mem_take h)
    · exact hl d (List.mem_of_mem_drop h)

theorem chg_length (l l2 : List Nat) (p q : Nat) (h : p + q ≤ l.length) (h2 : q ≤ l2.length) : (chg l l2 p q).length = l.length := by
  simp [chg]; omega

theorem parts (l : List Nat) (p t : Nat) (hpt : p ≤ t) : l = l.take p ++ ((l.take t).drop p ++ l.drop t) := by
  have e := List.take_append_drop p (l.take t)
  rw [List.take_take, Nat.min_eq_left hpt] at e
  rw [← List.append_assoc, e, List.take_append_drop]

theorem there_law (l l2 : List Nat) (n p q t : Nat) (hl : ∀ d ∈ l, d < 256) (hl2 : ∀ d ∈ l2, d < 256) (hn : n = l.length) (ht : p + q = t) (htn : t ≤ n) (h2 : q ≤ l2.length) :
    M.more 0 l ^^^ M.itZ (8 * (n - p - q)) (M.more 0 ((l.take t).drop p) ^^^ M.more 0 (l2.take q)) = M.more 0 (chg l l2 p q) := by
  have hR : (l.drop t).length = n - p - q := by simp; omega
  rw [← hR]
  conv => lhs; arg 1; rw [parts l p t (by omega)]
  unfold chg
  rw [ht]
  exact patched_law _ _ _ _ (fun d hd => hl d (List.mem_of_mem_take hd)) (fun d hd => hl d (List.mem_of_mem_take (List.mem_of_mem_drop hd))) (fun d hd => hl2 d (List.mem_of_mem_take hd)) (fun d hd => hl d (List.mem_of_mem_drop hd)) (by simp; omega)

theorem back_law (l l2 : List Nat) (n p q t : Nat) (hl : ∀ d ∈ l, d < 256) (hl2 : ∀ d ∈ l2, d < 256) (hn : n = l.length) (ht : p + q = t) (htn : t ≤ n) (h2 : q ≤ l2.length) :
    M.more 0 (chg l l2 p q) ^^^ M.itZ (8 * (n - p - q)) (M.more 0 (l2.take q) ^^^ M.more 0 ((l.take t).drop p)) = M.more 0 l := by
  rw [← there_law l l2 n p q t hl hl2 hn ht htn h2, Nat.xor_comm (M.more 0 (l2.take q)), Nat.xor_assoc, Nat.xor_self, Nat.xor_zero]

set_option maxHeartbeats 2000000 in
set_option maxRecDepth 100000 in
theorem patched_walk (a : Option Addr) (n c : Nat) (l : List Nat) (at_ : Int) (a2 : Option Addr) (n2 c2 : Nat) (l2 : List Nat) (w : World) (h : Rd w a n l) (hc : n ≤ c) (h2 : Rd w a2 n2 l2) (hc2 : n2 ≤ c2) (ha1 : -9223372036854775808 ≤ at_) (ha2 : at_ ≤ 9223372036854775807) :
    Calls Try.prog 4 #[.slice a n c, .int .i64 at_, .slice a2 n2 c2] w fun e w' => e = .returned (.bool true) ∧ Below w.heap.size w w' := by
  have hn := h.2.1
  have hn2 := h2.2.1
  have HH := hide h
  have HH2 := hide h2
  clear h h2
  go_enter Try.func4, Try.ntmps4
  go_wp2_with fail
  refine (awake_any _).mono ?_
  rintro e w1 ⟨rfl, hb1⟩
  have HB1 := hide hb1
  clear hb1
  go_wp2_with fail
  refine (twin_ex _ _ _ _ _ (HH.out.keep HB1.out)).mono ?_
  rintro e w2 ⟨g2, rfl, _, ho2, r2, hb2⟩
  have HB2 := hide (further HB1.out hb2)
  have R2 := hide r2
  clear ho2 r2 hb2 HB1
  go_wp2_with fail
  refine (sum_any _ _ _ _ _ R2.out).mono ?_
  rintro e w3 ⟨rfl, hb3⟩
  have HB3 := hide (further HB2.out hb3)
  clear R2 hb3 HB2
  go_wp2_with fail
  refine (pick_any _ _ ha1 ha2 (by omega) (by omega) _).mono ?_
  rintro e w' ⟨p, rfl, hp, rfl⟩
  obtain ⟨q, hq⟩ : ∃ q, q = min n2 (n - p) := ⟨_, rfl⟩
  obtain ⟨t, ht⟩ : ∃ t, t = p + q := ⟨_, rfl⟩
  have hmin := min_run (n2 : Int) ((n : Int) - (p : Int)) (q : Int) (by split <;> omega)
  have hadd : (p : Int) + (q : Int) = (t : Int) := by omega
  have hq2 : q ≤ n2 := by omega
  have hpt : p ≤ t := by omega
  have htn : t ≤ n := by omega
  have HTP : Hid (t - p = q) := by show _ = _; omega
  have HQ : Hid ((n : Int) - (p : Int) = ((n - p : Nat) : Int)) := by show _ = _; omega
  have HT := hide (there_law l l2 n p q t HH.out.2.2.1 HH2.out.2.2.1 HH.out.1 ht.symm htn (by have := HH2.out.1; omega))
  have HK := hide (back_law l l2 n p q t HH.out.2.2.1 HH2.out.2.2.1 HH.out.1 ht.symm htn (by have := HH2.out.1; omega))
  have HCL := hide (chg_lt l l2 p q HH.out.2.2.1 HH2.out.2.2.1)
  have HCN := hide (chg_length l l2 p q (by have := HH.out.1; omega) (by have := HH2.out.1; omega))
  have HFIT : Hid (p + (B8 (l2.take q)).length ≤ (B8 l).length) := by
    show _ ≤ _
    rw [B8_length, B8_length, List.length_take]; have := HH.out.1; omega
  have HMIN : Hid ((B8 (l2.take q)).length = Nat.min q (n - p)) := by
    show _ = min q (n - p)
    rw [B8_length, List.length_take]; have := HH2.out.1; omega
  have HSP : Hid (splice (B8 l) p (B8 (l2.take q)) = B8 (chg l l2 p q)) := by
    show _ = _
    rw [splice_B8, List.length_take, Nat.min_eq_left (by have := HH2.out.1; omega)]; rfl
  clear hq ht
  obtain ⟨a3, hsl, hrd⟩ := slice_rd HH.out c p t hc hpt htn
  rw [HTP.out] at hrd
  simp only [HTP.out] at hsl
  obtain ⟨a4, hsl4, hrf⟩ := slice0_rd HH2.out c2 q hc2 hq2
  have HRD := hide hrd
  have HRF := hide hrf
  clear hrd hrf
  go_wp2_with fail
  refine (twin_ex _ _ _ _ _ (HRD.out.keep HB3.out)).mono ?_
  rintro e w4 ⟨g4, rfl, _, ho4, r4, hb4⟩
  have HB4 := hide (further HB3.out hb4)
  have R4 := hide r4
  clear ho4 r4 hb4 HB3
  go_wp2_with fail
  refine (twin_ex _ _ _ _ _ (HRF.out.keep HB4.out)).mono ?_
  rintro e w5 ⟨g5, rfl, _, ho5, r5, hb5⟩
  have HB5 := hide (further HB4.out hb5)
  have R4' := hide (R4.out.keep hb5)
  have R5 := hide r5
  clear ho5 r5 hb5 HB4 R4
  go_wp2_with fail
  refine (patch_yes _ _ _ _ _ _ _ _ _ _ _ (M.more_lt _ _) (by omega) (by omega) (by omega) (by omega) R4'.out R5.out).mono ?_
  rintro e w6 ⟨rfl, hb6⟩
  have HB6 := hide (further HB5.out hb6)
  have R4 := hide (R4'.out.keep hb6)
  have R5' := hide (R5.out.keep hb6)
  clear hb6 HB5 R4' R5
  go_wp2_with fail
  rw [HT.out]
  refine (twin_ex _ _ _ _ _ (HH.out.keep HB6.out)).mono ?_
  rintro e w7 ⟨g7, rfl, hg7, ho7, r7, hb7⟩
  obtain ⟨a8, hsl8, ha8⟩ := slice_tail g7 n p (by omega)
  have H7 := hide ho7
  have HB7 := hide hb7
  have HG7 := hide hg7
  have HPOS : Hid (0 < (B8 (l2.take q)).length → a8 = some ⟨g7, p, none⟩ ∧ ∃ ad, some (⟨g5, 0, none⟩ : Addr) = some ad ∧ ∀ j v, (B8 (l2.take q))[j]? = some v → w7.cell? (ad.add j) = some v) := fun h => ⟨ha8 (by rw [HMIN.out] at h; have h' : 0 < min q (n - p) := h; omega), (R5'.out.keep hb7).srcAll h⟩
  clear ho7 r7 hb7 hg7 ha8
  go_wp2_with (refine wpList_copy_splice rfl _ _ 22 22 rfl 5 Try.underlying22 size_u8 a8 _ (n - p) (n - p) q q rfl rfl g7 p (B8 l) 5 H7.out (B8 (l2.take q)) HMIN.out HPOS.out HFIT.out (B8_one _) w6.heap.size w6 HB7.out HG7.out ?_; rintro w8 hh hb8)
  have ho8 : Own w8 g7 (chg l l2 p q) := by have h := hh.out; rw [HSP.out] at h; exact h
  have R8 := hide (ho8.rdn n (by rw [HCN.out]; exact HH.out.1) hn HCL.out)
  have HB8 := hide (further HB6.out hb8)
  have R48 := hide (R4.out.keep hb8)
  have R58 := hide (R5'.out.keep hb8)
  clear hh ho8 hb8 HB6 R4 R5' H7 HB7 HG7 HPOS
  go_wp2_with fail
  refine (sum_any _ _ _ _ _ R8.out).mono ?_
  rintro e w9 ⟨rfl, hb9⟩
  have HB9 := hide (further HB8.out hb9)
  have R4 := hide (R48.out.keep hb9)
  have R5 := hide (R58.out.keep hb9)
  clear hb9 HB8 R48 R58 R8
  go_wp2_with fail
  refine (patch_yes _ _ _ _ _ _ _ _ _ _ _ (M.more_lt _ _) (by omega) (by omega) (by omega) (by omega) R5.out R4.out).mono ?_
  rintro e w10 ⟨rfl, hb10⟩
  have HB10 := hide (further HB9.out hb10)
  have HK' : M.more 0 (chg l l2 p q) ^^^ M.itZ (8 * (((n : Int) - (p : Int)).toNat - q)) (M.more 0 (l2.take q) ^^^ M.more 0 ((l.take t).drop p)) = M.more 0 l := by
    rw [HQ.out, Int.toNat_natCast]; exact HK.out
  rw [HK']
  clear HK' hb10 HB9 R4 R5
  have e1 : (((M.more 0 (chg l l2 p q) : Nat) : Int) == ((M.more 0 (chg l l2 p q) : Nat) : Int)) = true := by simp
  have e2 : (((M.more 0 l : Nat) : Int) == ((M.more 0 l : Nat) : Int)) = true := by simp
  go_wp2
  go_ret
  exact ⟨rfl, HB10.out⟩

namespace SumPatched
set_option maxRecDepth 100000 in
theorem lifted (os : Os) (started : os.Started) (H : Type) (enc : TypeId × Value → H) :
    ReturnsInHanded {} Try.checked os 4 .any (Rows.sumPatchedSpec.pre6 enc Try.prog Try.f4 Rows.sumPatchedRow.domain false) (Rows.sumPatchedSpec.post enc Try.prog Try.f4 false true false false) := by
  refine returnsInHanded_of_change_sized (C := Try.checked) own started (by kernel_rfl) Try.func4
    (ChangeSpec.witness6 (enc := enc) (C := Try.checked) false ⟨#[], #[.slice none 0 0, .int .i64 0, .slice none 0 0], []⟩ 8 (by kernel_rfl) (by kernel_rfl) (by kernel_rfl) (by kernel_rfl)) ?_
  intro W base args ds gs before hval0 hW _ hsz0 _
  have hsz : (DataW.weightsEach Try.prog (Try.f4.params.toList ++ Rows.sumPatchedSpec.plain.varTypes Try.prog) (ds ++ gs)).all (· ≤ reachBytes) = true := hsz0
  have hval : ∀ (j : Nat) t v, Try.f4.params[j]? = some t → args[j]? = some v → Value.okWide Try.prog W .any base t v := hval0
  have hW' := hW
  obtain ⟨p, q, hA0, hV, rfl, hfz, hnd⟩ := hW
  have hA : DataW.TrodAll enc Try.prog W 0 (fun _ => true) true Try.f4.params.toList args.toList ds p := hA0
  rw [Try.params4] at hA hval hsz
  obtain ⟨v0, v1, v2, d0, d1, d2, p0, p1, p2, rfl, rfl, rfl, h0, h1, h2⟩ := trodAll_three hA
  obtain ⟨rfl, rfl⟩ := trodVars_none hV
  have lt0 : ∀ x ∈ p0, x.block < W.heap.size := by obtain ⟨m, hm⟩ := h0; exact DataW.trod_lt m _ _ _ hm
  obtain ⟨a0, n0, c0, rfl⟩ := okWide_slice Try.underlying22 (hval 0 22 v0 rfl rfl)
  obtain ⟨l0, hl0, hc0⟩ := open_bytes h0 (weigh hsz (j := 0) rfl rfl)
  obtain ⟨x1, rfl, rfl, rfl, wf1⟩ := open_int Try.underlying3 (hval 1 3 v1 rfl rfl) h1
  have bd1 := bounds_i64 wf1
  have lt2 : ∀ x ∈ p2, x.block < W.heap.size := by obtain ⟨m, hm⟩ := h2; exact DataW.trod_lt m _ _ _ hm
  obtain ⟨a2, n2, c2, rfl⟩ := okWide_slice Try.underlying22 (hval 2 22 v2 rfl rfl)
  obtain ⟨l2, hl2, hc2⟩ := open_bytes h2 (weigh hsz (j := 2) rfl rfl)
  clear hA0 hval0
  refine (patched_walk a0 n0 c0 l0 x1 a2 n2 c2 l2 W hl0 hc0 hl2 hc2 bd1.1 bd1.2).mono fun e W' ⟨he, bel⟩ => ?_
  subst he
  exact ⟨_, rfl, _, _, _, [], _, [], hW', trodAll_mk1 (shut_bool Try.underlying4 _), trodAll_mk3 (Below.trod laidOut (by kernel_rfl) (of_decide_eq_true (by kernel_rfl)) h0 bel lt0) (shut_int Try.underlying3 wf1) (Below.trod laidOut (by kernel_rfl) (of_decide_eq_true (by kernel_rfl)) h2 bel lt2), rfl, bel.frame _, fun h => by cases h⟩

theorem over : Rows.sumPatchedRow.holds Try.pinned (OpenSpec.ofChange Rows.sumPatchedSpec) :=
  OpenClaim.holds_of_wide 4 Try.f4 rfl rfl rfl rfl rfl rfl rfl ⟨rfl, rfl, rfl, rfl, rfl⟩ rfl rfl rfl rfl rfl (by kernel_rfl) Try.func4 (by kernel_rfl)
    (of_decide_eq_true (by kernel_rfl)) (by unfold Func.isWrapper; first | (rw [if_pos (by decide +kernel)]; kernel_rfl) | (rw [if_neg (by decide +kernel)]; exact ⟨rfl, rfl⟩))
    (fun os started H enc _ => lifted os started H enc)
end SumPatched

theorem sumPatched_holds : Rows.SumPatchedSaid := SumPatched.over
#print axioms sumPatched_holds
end Go.Proofs.Ytciehainhhkikab
