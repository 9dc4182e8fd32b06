/- QueueRemoves. -/
import Derived.Test.YtcopldjnkngjcaaQInt
namespace Go.Proofs.Ytcopldjnkngjcaa
namespace Qu
open Go.RowKit

theorem RdQ.more {B B' n : Nat} {w : World} {a : Option Addr} {l : List Sp} (h : RdQ B w a n l) (hB : B ≤ B') : RdQ B' w a n l :=
  ⟨h.len, h.few, h.inn, fun j x hj => by obtain ⟨g, off, e1, e2, e3⟩ := h.rd j x hj; exact ⟨g, off, e1, Nat.lt_of_lt_of_le e2 hB, e3⟩⟩

theorem pairs_at {r : List (Nat × Int)} {i n : Nat} {k : Int} (h : r[i]? = some (n, k)) : (pairs r)[i * 2]? = some (n : Int) ∧ (pairs r)[i * 2 + 1]? = some k := by
  have h0 := flat_at okI.cln h (j := 0) (by decide)
  have h1 := flat_at okI.cln h (j := 1) (by decide)
  rw [flat_pairs, List.getElem?_map] at h0 h1
  have e0 : (pairs r)[i * 2]?.map (Value.int .i64) = some (.int .i64 (n : Int)) := h0
  have e1 : (pairs r)[i * 2 + 1]?.map (Value.int .i64) = some (.int .i64 k) := h1
  obtain ⟨x, hx, ex⟩ := Option.map_eq_some_iff.1 e0
  obtain ⟨y, hy, ey⟩ := Option.map_eq_some_iff.1 e1
  injection ex with _ ex
  injection ey with _ ey
  exact ⟨by rw [hx, ex], by rw [hy, ey]⟩
theorem pairs_erase {r : List (Nat × Int)} {i : Nat} (hi : i < r.length) : pairs (r.eraseIdx i) = (pairs r).take (2 * i) ++ (pairs r).drop (2 * i + 2) := by
  rw [List.eraseIdx_eq_take_drop_succ, pairs_append]
  have e1 : (pairs (r.take i)).length = 2 * i := by rw [pairs_length, List.length_take, Nat.min_eq_left (by omega), Nat.mul_comm]
  have e2 : (pairs (r.take (i + 1))).length = 2 * i + 2 := by rw [pairs_length, List.length_take, Nat.min_eq_left (by omega)]; omega
  congr 1
  · conv => rhs; rw [← List.take_append_drop i r, pairs_append, ← e1, List.take_left]
  · conv => rhs; rw [← List.take_append_drop (i + 1) r, pairs_append, ← e2, List.drop_left]
theorem ahead_gone {s : St Int} (h : Ok s) {i n : Nat} {k : Int} (hi : s.row[i]? = some (n, k)) : aheadR (s.take i).row k = (0, 83) := by
  have : numL (s.take i).row k = none := by rw [show numL (s.take i).row = updK (numL s.row) k none from numL_erase h.nd hi, updK_same]
  simp [aheadR, idx_num.2 this]

set_option maxRecDepth 100000 in
set_option maxHeartbeats 4000000 in
theorem removes_walk (c : Int) (a : Option Addr) (n cc : Nat) (k : Int) (l : List Sp) (W : World) (h1 : -9223372036854775808 ≤ c) (h2 : c ≤ 9223372036854775807) (hl : RdQ W.heap.size W a n l) (h3 : -9223372036854775808 ≤ k) (h4 : k ≤ 9223372036854775807) :
    Calls Try.prog 8 #[.int .i64 c, .slice a n cc, .int .i64 k] W fun e W' => e = .returned (.bool true) ∧ Below W.heap.size W W' := by
  have HL := hide hl
  have H12 := hide (And.intro h1 h2)
  have HK : Hid (KI.ok k) := ⟨h3, h4⟩
  clear hl h1 h2 h3 h4
  go_enter Try.func8, Try.ntmps8
  go_wp2_with fail
  go_at_call 9
  refine (known_any W).mono ?_
  rintro e w1 ⟨rfl, k1⟩
  have K1 := hide k1
  have HL1 := hide ((HL.out.keep k1 (fun _ _ f => f)).more k1.size)
  clear k1 HL
  go_wp2_with fail
  go_at_call 27
  refine (filled_any c a n cc l w1 H12.out.1 H12.out.2 HL1.out).mono ?_
  rintro e w2 ⟨P, n0, rfl, _, _, q2, k2⟩
  generalize runQ (fresh n0) l = s at q2
  have hok := q2.1
  have hlen := Nat.le_trans hok.len hok.pl
  have HO := hide hok
  have H2 : Hid (QAt KI (fun i => w1.heap.size ≤ i ∧ i < w2.heap.size) w2 P s) := q2
  have K2 := hide (K1.out.more k2)
  have hw12 := K1.out.size
  clear q2 k2 HL1 hok
  go_wp2_with fail
  go_at_call 14
  refine (whole_any w2 H2.out).mono ?_
  rintro e w3 ⟨ab, cb, rfl, r3, k3⟩
  rw [flat_pairs] at r3
  have HB := hide (RdZ.ofOwns r3)
  have HBo := hide r3
  have H3 := hide (H2.out.new k3)
  have K3 := hide (K2.out.more k3)
  have hsz3 := k3.size
  clear r3 k3
  go_wp2_with fail
  go_at_call 31
  refine (aheadI k w3 H3.out HK.out).mono ?_
  rintro e w4 ⟨rfl, k4⟩
  have H4 := hide (H3.out.new k4)
  have K4 := hide (K3.out.more k4)
  have HB4 := hide (HB.out.new k4)
  have HBo4 := hide (ownsRow_far HBo.out k4 (fun _ _ f => f))
  have hsz4 := k4.size
  clear k4
  go_wp2_with fail
  go_at_call 32
  refine (removeI k w4 H4.out HK.out).mono ?_
  rintro e w5 ⟨rfl, q5, k5⟩
  have H5 := hide q5
  have K5 := hide (K4.out.trans k5 fun i e => .inr (Nat.le_trans hw12 e.1))
  have HBo5 := hide (ownsRow_far HBo4.out k5 (fun i e1 e2 => by have := e2.2; omega))
  have HB5 := hide (RdZ.ofOwns HBo5.out)
  have hsz5 := k5.size
  clear q5 k5
  go_wp2_with fail
  go_at_call 14
  refine (whole_any w5 H5.out).mono ?_
  rintro e w6 ⟨aa, ca, rfl, r6, k6⟩
  rw [flat_pairs] at r6
  have HA := hide (RdZ.ofOwns r6)
  have HAo := hide r6
  have H6 := hide (H5.out.new k6)
  have K6 := hide (K5.out.more k6)
  have HB6 := hide (HB5.out.new k6)
  have HBo6 := hide (ownsRow_far HBo5.out k6 (fun _ _ f => f))
  have hsz6 := k6.size
  clear r6 k6
  cases hi : idxL s.row k with
  | none =>
    have ha : aheadR s.row k = (0, 83) := by simp [aheadR, hi]
    have hs : s.remove k = s := by simp [St.remove, hi]
    rw [hs] at HA
    have HI := hide (ints_same w6 HB6.out HA.out (by rw [pairs_length]; omega))
    simp only [ha, hs] at *
    clear hi ha
    go_wp2_with (go_at_call 21; refine HI.out.mono ?_; rintro e w7 ⟨rfl, k7⟩; have K7 := hide (K6.out.more k7); clear k7)
    go_ret
    exact ⟨rfl, K7.out.below (Nat.le_refl _) fun _ f => f.elim⟩
  | some i =>
    obtain ⟨nn, hg, _⟩ := idx_get hi
    have hil : i < s.row.length := (List.getElem?_eq_some_iff.1 hg).1
    have ha : aheadR s.row k = (i, 0) := by simp [aheadR, hi]
    have hs : s.remove k = s.take i := by simp [St.remove, hi]
    have hpe : pairs (s.take i).row = (pairs s.row).take (2 * i) ++ (pairs s.row).drop (2 * i + 2) := pairs_erase hil
    have hgo := ahead_gone HO.out hg
    have hpl := pairs_length s.row
    obtain ⟨g, off, hab, e1⟩ := HB6.out.rd (i * 2 + 1) k (pairs_at hg).2
    have hcb := HB6.out.cap
    subst hab
    rw [Nat.mul_comm i 2] at e1
    have hcells : ∀ j u, ((pairs s.row).map (Value.int .i64))[j]? = some u → w6.cell? ⟨g, off + j, none⟩ = some u := fun j u hu => by
      rw [List.getElem?_map] at hu
      obtain ⟨x, hx, rfl⟩ := Option.map_eq_some_iff.1 hu
      obtain ⟨g', off', e, h⟩ := HB6.out.rd j x hx
      injection e with e
      injection e with e e'
      subst e e'
      exact h
    rw [hs] at H6 HA HAo
    have RM := hide (fun w (h : QAt KI (fun j => w1.heap.size ≤ j ∧ j < w2.heap.size) w P (s.take i)) => removeI k w h HK.out)
    simp only [hgo] at RM
    simp only [ha, hs] at *
    obtain ⟨i0, hi0, hz0, hz1, hz2⟩ := info_parts info_int
    have HI := hide (And.intro hi0 (And.intro hz0 (And.intro hz1 hz2)))
    have HC := hide hcells
    have HPe := hide hpe
    have HPl := hide hpl
    generalize hNN : s.row.length * 2 = N at *
    have hN1 : 2 * i + 1 < N := by omega
    have hN2 : ¬ ((N : Int) ≤ 2 * (i : Int) + 1) := by omega
    have hN3 : 2 * i ≤ N := by omega
    have hN4 : 2 * i + 2 ≤ N := by omega
    have hN5 : (0 : Int) ≤ 2 * (i : Int) + 2 := by omega
    have hN6 : 2 * (i : Int) + 2 ≤ (N : Int) := by omega
    have hN7 : (0 : Int) ≤ 2 * (i : Int) := by omega
    have hN8 : 2 * (i : Int) ≤ (cb : Int) := by omega
    have hNle : N ≤ 131072 := by omega
    have HNN := hide hNN
    clear hi ha hs hpe hgo hpl hcells hg hi0 hz0 hz1 hz2 hNN
    have hA : ∃ A : Addr, ((cb = 2 * i + 2 ∧ A = ⟨g, off, none⟩) ∨ (cb ≠ 2 * i + 2 ∧ A = ⟨g, off + (2 * i + 2), none⟩)) ∧ Hid (∀ t u, (((pairs s.row).drop (2 * i + 2)).map (Value.int .i64))[t]? = some u → ∀ w', Keep (fun _ => False) w6 w' → w'.cell? (A.add t) = some u) := by
      by_cases h : cb = 2 * i + 2
      · refine ⟨⟨g, off, none⟩, .inl ⟨h, rfl⟩, fun t u hu w' _ => ?_⟩
        have h0 : (((pairs s.row).drop (2 * i + 2)).map (Value.int .i64)).length = 0 := by rw [List.length_map, List.length_drop, HPl.out]; omega
        rw [List.length_eq_zero_iff.1 h0] at hu
        simp at hu
      · refine ⟨⟨g, off + (2 * i + 2), none⟩, .inr ⟨h, rfl⟩, fun t u hu w' hk => ?_⟩
        rw [Addr.add_mid, Nat.add_assoc]
        refine hk.cell (HC.out _ u ?_) fun f => f
        rw [← hu, List.map_drop, List.getElem?_drop]
    obtain ⟨A, hA, HSrc⟩ := hA
    have M1 : Hid ((((pairs s.row).take (2 * i)).map (Value.int .i64)).length = 2 * i * 1) := by show _ = _; rw [List.length_map, List.length_take, HPl.out]; omega
    have M2 : Hid ((((pairs s.row).drop (2 * i + 2)).map (Value.int .i64)).length = (N - (2 * i + 2)) * 1) := by show _ = _; rw [List.length_map, List.length_drop, HPl.out]; omega
    have HOn : Hid (∀ (z : List Int), ∀ u ∈ z.map (Value.int .i64), u.oneCell' = true) := fun z u hu => by obtain ⟨x, _, rfl⟩ := List.mem_map.1 hu; rfl
    rcases hA with ⟨hcb, rfl⟩ | ⟨hcb, rfl⟩
    · subst hcb
      obtain rfl : N = 2 * i + 2 := by omega
      have M3 : Hid ((((pairs s.row).drop (2 * i + 2)).map (Value.int .i64)).length = 0 * 1) := by show _ = _; rw [M2.out]; omega
      go_wp2_with (first
        | (at_builtin
           refine wpList_append_own2 rfl _ _ 32 rfl w6.heap.size 3 i0 (.int .i64 0) 1 8 Try.underlying32 HI.out.1 HI.out.2.1 HI.out.2.2.1 HI.out.2.2.2 rfl (by decide) (.slice a7 (2 * i) c7) (2 * i) (((pairs s.row).take (2 * i)).map (Value.int .i64)) rfl R7.out ⟨g, off, none⟩ 0 _ (((pairs s.row).drop (2 * i + 2)).map (Value.int .i64)) rfl M3.out (fun t u hu => HSrc.out t u hu w7 K7.out) (HOn.out _) (by unfold maxLen; omega) (by omega) K7.out.size ?_
           intro v8 w8 r8 g8 _
           have k8 : Keep (fun _ => False) w6 w8 := K7.out.grownNew g8 fun j e => .inr (R7.out.lt j e).1
           obtain ⟨a8, c8, rfl⟩ := ownsRow_shape r8
           have R8 := hide r8
           have K8 := hide k8
           clear r8 g8 k8)
        | (at_builtin
           refine wpList_append_own2 rfl _ _ 32 rfl w6.heap.size 3 i0 (.int .i64 0) 1 8 Try.underlying32 HI.out.1 HI.out.2.1 HI.out.2.2.1 HI.out.2.2.2 rfl (by decide) (.slice none 0 0) 0 [] rfl (World.ownsRow_nil _ _ _ _) ⟨g, off, none⟩ (2 * i) _ (((pairs s.row).take (2 * i)).map (Value.int .i64)) rfl M1.out (fun t u hu => by
             rw [Addr.add_mid]
             refine HC.out t u ?_
             rw [List.map_take, List.getElem?_take] at hu
             split at hu
             · exact hu
             · cases hu) (HOn.out _) (by unfold maxLen; omega) (by omega) (Nat.le_refl _) ?_
           intro v7 w7 r7 g7 _
           have k7 : Keep (fun _ => False) w6 w7 := Keep.grown g7 fun j e => by cases e
           rw [Nat.zero_add, List.nil_append] at r7
           obtain ⟨a7, c7, rfl⟩ := ownsRow_shape r7
           have R7 := hide r7
           have K7 := hide k7
           clear r7 g7 k7)
        | (go_at_call 32
           refine (RM.out w8 (H6.out.new K8.out)).mono ?_
           rintro e w9 ⟨rfl, _, k9⟩
           have K9 := hide k9
           have HA9 := hide (RdZ.ofOwns (ownsRow_far (ownsRow_far HAo.out K8.out (fun _ _ f => f)) k9 (fun j e1 e2 => by have := e2.2; omega)))
           have HW9 := hide (RdZ.ofOwns (z := pairs (s.take i).row) (by rw [HPe.out, List.map_append]; exact ownsRow_far R8.out k9 (fun j e1 e2 => by have := e2.2; omega)))
           have HI9 := hide (ints_same w9 HA9.out HW9.out (by rw [HPe.out, List.length_append, List.length_take, List.length_drop, HPl.out]; omega))
           clear k9)
        | (go_at_call 21
           refine HI9.out.mono ?_
           rintro e w10 ⟨rfl, k10⟩
           have K10 := hide k10
           clear k10))
      go_ret
      exact ⟨rfl, (((K6.out.more K8.out).trans K9.out fun j e => .inr (Nat.le_trans hw12 e.1)).more K10.out).below (Nat.le_refl _) fun _ f => f.elim⟩
    · have hcb' : ¬ cb = 2 * i + 2 := hcb
      go_wp2_with (first
        | (at_builtin
           refine wpList_append_own2 rfl _ _ 32 rfl w6.heap.size 3 i0 (.int .i64 0) 1 8 Try.underlying32 HI.out.1 HI.out.2.1 HI.out.2.2.1 HI.out.2.2.2 rfl (by decide) (.slice a7 (2 * i) c7) (2 * i) (((pairs s.row).take (2 * i)).map (Value.int .i64)) rfl R7.out ⟨g, off + (2 * i + 2), none⟩ (N - (2 * i + 2)) _ (((pairs s.row).drop (2 * i + 2)).map (Value.int .i64)) rfl M2.out (fun t u hu => HSrc.out t u hu w7 K7.out) (HOn.out _) (by unfold maxLen; omega) (by omega) K7.out.size ?_
           intro v8 w8 r8 g8 _
           have k8 : Keep (fun _ => False) w6 w8 := K7.out.grownNew g8 fun j e => .inr (R7.out.lt j e).1
           obtain ⟨a8, c8, rfl⟩ := ownsRow_shape r8
           have R8 := hide r8
           have K8 := hide k8
           clear r8 g8 k8)
        | (at_builtin
           refine wpList_append_own2 rfl _ _ 32 rfl w6.heap.size 3 i0 (.int .i64 0) 1 8 Try.underlying32 HI.out.1 HI.out.2.1 HI.out.2.2.1 HI.out.2.2.2 rfl (by decide) (.slice none 0 0) 0 [] rfl (World.ownsRow_nil _ _ _ _) ⟨g, off, none⟩ (2 * i) _ (((pairs s.row).take (2 * i)).map (Value.int .i64)) rfl M1.out (fun t u hu => by
             rw [Addr.add_mid]
             refine HC.out t u ?_
             rw [List.map_take, List.getElem?_take] at hu
             split at hu
             · exact hu
             · cases hu) (HOn.out _) (by unfold maxLen; omega) (by omega) (Nat.le_refl _) ?_
           intro v7 w7 r7 g7 _
           have k7 : Keep (fun _ => False) w6 w7 := Keep.grown g7 fun j e => by cases e
           rw [Nat.zero_add, List.nil_append] at r7
           obtain ⟨a7, c7, rfl⟩ := ownsRow_shape r7
           have R7 := hide r7
           have K7 := hide k7
           clear r7 g7 k7)
        | (go_at_call 32
           refine (RM.out w8 (H6.out.new K8.out)).mono ?_
           rintro e w9 ⟨rfl, _, k9⟩
           have K9 := hide k9
           have HA9 := hide (RdZ.ofOwns (ownsRow_far (ownsRow_far HAo.out K8.out (fun _ _ f => f)) k9 (fun j e1 e2 => by have := e2.2; omega)))
           have HW9 := hide (RdZ.ofOwns (z := pairs (s.take i).row) (by rw [HPe.out, List.map_append]; exact ownsRow_far R8.out k9 (fun j e1 e2 => by have := e2.2; omega)))
           have HI9 := hide (ints_same w9 HA9.out HW9.out (by rw [HPe.out, List.length_append, List.length_take, List.length_drop, HPl.out]; omega))
           clear k9)
        | (go_at_call 21
           refine HI9.out.mono ?_
           rintro e w10 ⟨rfl, k10⟩
           have K10 := hide k10
           clear k10))
      go_ret
      exact ⟨rfl, (((K6.out.more K8.out).trans K9.out fun j e => .inr (Nat.le_trans hw12 e.1)).more K10.out).below (Nat.le_refl _) fun _ f => f.elim⟩

end Qu
end Go.Proofs.Ytcopldjnkngjcaa
