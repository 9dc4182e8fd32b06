/- Package queue: slices.Delete of one entry. -/
import Derived.Test.YtobmnkoohgkiiaaQAhe
import Derived.Deep.RegionLaw
import Derived.Lib.Walk
namespace Go.Proofs.Ytobmnkoohgkiiaa
namespace Qu
open Go.RowKit

/-- 'clear' of one element -/
theorem run_clear_one (w : World) (t e ty : TypeId) (zc : List Value) (ht : Try.prog.underlying t = some (.slice e)) (hv : ∀ w, (zeroValue e).run Try.prog w = .ok (.agg zc.toArray) w) (h1 : ∀ u ∈ zc, u.oneCell' = true) (b o c : Nat)
    (hth : w.there b o zc.length) :
    (Builtin.clear_ #[t] ty #[.slice (some ⟨b, o, none⟩) 1 c]).run Try.prog w = .ok (.tuple #[]) (w.setCells b o zc) := by
  have hzc : (Builtin.zeroCells (Value.agg zc.toArray).cells 1).toList = zc := by
    simp [Builtin.zeroCells, Value.cells]
    apply List.ext_getElem
    · simp
    · intro i h1 h2
      simp [Nat.mod_eq_of_lt h2, List.getElem?_eq_getElem h2]
  have hst := run_storeCells_cells (P := Try.prog) b o zc 0 w (fun j hj => (hth j hj).1) (fun j hj => (hth j hj).2) h1
  simp only [Nat.add_zero] at hst
  simp [Builtin.clear_, run_underlying ht, hv, hzc, hst]

theorem keep_cells (g : Nat) : ∀ (vs : List Value) (o : Nat) (w : World), Keep (fun i => i = g) w (w.setCells g o vs)
  | [], _, _ => Keep.refl _ _
  | a :: r, o, w => (keep_cell w g o a).more (keep_cells g r (o + 1) _)
theorem blk_cells {g : Nat} {t : TypeId} : ∀ (vs : List Value) (o : Nat) (w : World), (∃ cs, w.heap[g]? = some (.cells cs t (0, 0))) → ∃ cs, (w.setCells g o vs).heap[g]? = some (.cells cs t (0, 0))
  | [], _, _, h => h
  | a :: r, o, _, ⟨_, h⟩ => blk_cells r (o + 1) _ ⟨_, set_blk h o a⟩

section
variable {α : Type} {K : Kd α}
theorem flat_take (hK : KdOk K) (r : List (Nat × α)) (i : Nat) (hi : i ≤ r.length) : flat K (r.take i) = (flat K r).take (i * (K.c + 1)) := by
  conv => rhs; rw [← List.take_append_drop i r, flat_append]
  have hl : (flat K (r.take i)).length = i * (K.c + 1) := by rw [flat_length hK.cln, List.length_take, Nat.min_eq_left hi]
  rw [← hl, List.take_left]
theorem flat_drop (hK : KdOk K) (r : List (Nat × α)) (i : Nat) (hi : i ≤ r.length) : flat K (r.drop i) = (flat K r).drop (i * (K.c + 1)) := by
  conv => rhs; rw [← List.take_append_drop i r, flat_append]
  rw [List.drop_left' (by rw [flat_length hK.cln, List.length_take, Nat.min_eq_left hi])]
theorem flat_one (hK : KdOk K) (r : List (Nat × α)) : ∀ u ∈ flat K r, u.oneCell' = true := fun u hu => by
  obtain ⟨e, _, hu⟩ := List.mem_flatMap.1 hu
  rcases List.mem_cons.1 hu with rfl | hu
  · rfl
  · exact hK.one _ u hu
/-- what Delete leaves -/
theorem del_range (hK : KdOk K) {w : World} {g off cap i : Nat} {r : List (Nat × α)} (hra : w.rangeAt g off (flat K r)) (ht : w.there g off (cap * (K.c + 1))) (hi : i < r.length) (hc : r.length ≤ cap) {W1 : World} (hW : W1 = w.setCells g (off + i * (K.c + 1)) (flat K (r.drop (i + 1)))) {o2 : Nat} (ho2 : o2 = off + (r.length - 1) * (K.c + 1)) :
    (W1.setCells g o2 K.zc).rangeAt g off (flat K (r.eraseIdx i)) := by
  have e1 : (flat K (r.drop (i + 1))).length = (r.length - (i + 1)) * (K.c + 1) := by rw [flat_length hK.cln, List.length_drop]
  have e2 : (flat K (r.take i)).length = i * (K.c + 1) := by rw [flat_length hK.cln, List.length_take, Nat.min_eq_left (by omega)]
  have e3 : i * (K.c + 1) + (r.length - (i + 1)) * (K.c + 1) = (r.length - 1) * (K.c + 1) := by rw [← Nat.add_mul]; congr 1; omega
  have e4 : (r.length - 1) * (K.c + 1) ≤ cap * (K.c + 1) := Nat.mul_le_mul_right _ (by omega)
  rw [List.eraseIdx_eq_take_drop_succ, flat_append]
  have hA : W1.rangeAt g off (flat K (r.take i) ++ flat K (r.drop (i + 1))) := by
    rw [hW]
    intro j u hu
    by_cases hj : j < (flat K (r.take i)).length
    · rw [List.getElem?_append_left hj] at hu
      have h0 : w.rangeAt g off (flat K (r.take i)) := fun j u hu => by
        rw [flat_take hK r i (by omega), List.getElem?_take] at hu
        split at hu
        · exact hra j u hu
        · cases hu
      exact World.rangeAt_setCells_apart h0 g _ _ (.inr (.inl (by omega))) j u hu
    · rw [List.getElem?_append_right (by omega)] at hu
      have := World.rangeAt_setCells_same w g (off + i * (K.c + 1)) (flat K (r.drop (i + 1))) (fun j hj => by rw [Nat.add_assoc]; exact ht _ (by omega)) _ u hu
      rwa [e2, Nat.add_assoc, Nat.add_sub_cancel' (by omega)] at this
  exact World.rangeAt_setCells_apart hA g _ _ (.inr (.inl (by rw [List.length_append]; omega)))
end

set_option maxRecDepth 100000 in
set_option maxHeartbeats 4000000 in
theorem delI {r : List (Nat × _)} (i : Nat) (w : World) (g off cap : Nat) (hra : w.rangeAt g off (flat KI r)) (ht : w.there g off (cap * 2)) (hi : i < r.length) (hc : r.length ≤ cap) (hcm : cap ≤ 9223372036854775807) (hl : r.length ≤ 65536) (hb : ∃ cs, w.heap[g]? = some (.cells cs KI.te (0, 0))) :
    Calls Try.prog 59 #[.slice (some ⟨g, off, none⟩) r.length cap, .int .i64 i, .int .i64 ((i : Int) + 1)] w fun e w' => e = .returned (.slice (some ⟨g, off, none⟩) (r.length - 1) cap) ∧
      w'.rangeAt g off (flat KI (r.eraseIdx i)) ∧ w'.there g off (cap * 2) ∧ (∃ cs, w'.heap[g]? = some (.cells cs KI.te (0, 0))) ∧ Keep (fun k => k = g) w w' := by
  obtain ⟨i0, hi0, hz0, hz1, hz2⟩ := info_parts infoI
  have HI := hide (And.intro hi0 hz1)
  clear hi0 hz0 hz1 hz2
  obtain ⟨n, hn⟩ : ∃ n, n = r.length := ⟨_, rfl⟩
  obtain ⟨news, hnews⟩ : ∃ news, news = flat KI (r.drop (i + 1)) := ⟨_, rfl⟩
  have hlen : news.length = (n - (i + 1)) * 2 := by rw [hnews, flat_length okI.cln, List.length_drop, hn]; rfl
  obtain ⟨A, hA, hsrc⟩ : ∃ A : Addr, (if cap = i + 1 then some (⟨g, off, none⟩ : Addr) else some ⟨g, off + (i + 1) * 2, none⟩) = some A ∧ Hid (∀ t u, news[t]? = some u → w.drew.cell? (A.add t) = some u) := by
    by_cases h : cap = i + 1
    · refine ⟨⟨g, off, none⟩, by simp [h], fun t u hu => ?_⟩
      have h0 : news.length = 0 := by rw [hlen]; omega
      rw [List.length_eq_zero_iff.1 h0] at hu
      simp at hu
    · refine ⟨⟨g, off + (i + 1) * 2, none⟩, by simp [h], fun t u hu => ?_⟩
      rw [hnews, flat_drop okI r (i + 1) (by omega), List.getElem?_drop] at hu
      rw [Addr.add_mid, Nat.add_assoc]
      exact hra _ u hu
  have s1 : Hid (news.length = (n - (i + 1)) * 2) := hlen
  have s2 : Hid (∀ u ∈ news, u.oneCell' = true) := by rw [hnews]; exact flat_one okI _
  have s3 : Hid (∀ t, t < news.length → (w.drew.cell? ⟨g, off + i * 2 + t, none⟩).isSome = true ∧ w.drew.frozen? ⟨g, off + i * 2 + t, none⟩ = false) := fun t h => by
    rw [hlen] at h
    rw [Nat.add_assoc]
    exact ht (i * 2 + t) (by omega)
  obtain ⟨W1, hW1⟩ : ∃ W1, W1 = w.drew.setCells g (off + i * 2) news := ⟨_, rfl⟩
  have ht1 : W1.there g off (cap * 2) := by rw [hW1]; exact World.there_setCells (w := w.drew) ht _ _ _
  have hcl : ∀ ty, (Builtin.clear_ #[64] ty #[.slice (some ⟨g, off + (n - 1) * 2, none⟩) 1 (cap - (n - 1))]).run Try.prog W1 = .ok (.tuple #[]) (W1.setCells g (off + (n - 1) * 2) KI.zc) := fun ty =>
    run_clear_one W1 _ _ ty KI.zc okI.ul (fun w => by kernel_rfl) okI.zne g _ _ (fun j hj => by rw [Nat.add_assoc]; exact ht1 _ (by have : j < 2 := hj; omega))
  have FIN : Hid ((W1.setCells g (off + (n - 1) * 2) KI.zc).rangeAt g off (flat KI (r.eraseIdx i)) ∧ (W1.setCells g (off + (n - 1) * 2) KI.zc).there g off (cap * 2) ∧ (∃ cs, (W1.setCells g (off + (n - 1) * 2) KI.zc).heap[g]? = some (.cells cs KI.te (0, 0))) ∧ Keep (fun k => k = g) w (W1.setCells g (off + (n - 1) * 2) KI.zc)) := by
    refine ⟨del_range okI (w := w.drew) (cap := cap) hra ht hi hc (by rw [hW1, hnews]; rfl) (by rw [hn]; rfl), World.there_setCells ht1 _ _ _, blk_cells _ _ _ (by rw [hW1]; exact blk_cells _ _ _ hb), ?_⟩
    refine Keep.more (b := W1) ?_ (keep_cells _ _ _ _)
    rw [hW1]
    exact (Keep.drew _ w).more (keep_cells _ _ _ _)
  have hW : Hid (W1 = w.drew.setCells g (off + i * 2) news) := hW1
  rw [← hn] at hi hc hl ⊢
  have hic : i ≤ cap := by omega
  have hjc : i + 1 ≤ cap := by omega
  have hne : ¬ (i = i + 1) := by omega
  have hn1 : i + (n - (i + 1)) = n - 1 := by omega
  have hn2 : n - (n - 1) = 1 := by omega
  have hn3 : n - 1 ≤ n := by omega
  have hn4 : n ≤ cap := hc
  have hn5 : ¬ (cap = n - 1) := by omega
  have hn6 : (0 : Int) ≤ (i : Int) + 1 := by omega
  have hn7 : (i : Int) + 1 ≤ (n : Int) := by omega
  clear hW1 ht1 hra ht hn hnews hlen hb
  go_enter Try.func59, Try.ntmps59
  go_wp2_with fail
  go_region_law (refine step_append_room rfl (.tmp 22) (.tmp 25) 64 rfl 91 i0 2 Try.underlying64 HI.out.1 HI.out.2 g off i cap (by simp [Act.eval, Act.put]) A (n - (i + 1)) (cap - (i + 1)) news (by simp [Act.eval, Act.put]) s1.out hsrc.out s2.out (by omega) s3.out ?_; rw [← hW.out])
  go_wp2
  go_ret
  exact ⟨rfl, FIN.out⟩
set_option maxRecDepth 100000 in
set_option maxHeartbeats 4000000 in
theorem delS {r : List (Nat × _)} (i : Nat) (w : World) (g off cap : Nat) (hra : w.rangeAt g off (flat KS r)) (ht : w.there g off (cap * 2)) (hi : i < r.length) (hc : r.length ≤ cap) (hcm : cap ≤ 9223372036854775807) (hl : r.length ≤ 65536) (hb : ∃ cs, w.heap[g]? = some (.cells cs KS.te (0, 0))) :
    Calls Try.prog 57 #[.slice (some ⟨g, off, none⟩) r.length cap, .int .i64 i, .int .i64 ((i : Int) + 1)] w fun e w' => e = .returned (.slice (some ⟨g, off, none⟩) (r.length - 1) cap) ∧
      w'.rangeAt g off (flat KS (r.eraseIdx i)) ∧ w'.there g off (cap * 2) ∧ (∃ cs, w'.heap[g]? = some (.cells cs KS.te (0, 0))) ∧ Keep (fun k => k = g) w w' := by
  obtain ⟨i0, hi0, hz0, hz1, hz2⟩ := info_parts infoS
  have HI := hide (And.intro hi0 hz1)
  clear hi0 hz0 hz1 hz2
  obtain ⟨n, hn⟩ : ∃ n, n = r.length := ⟨_, rfl⟩
  obtain ⟨news, hnews⟩ : ∃ news, news = flat KS (r.drop (i + 1)) := ⟨_, rfl⟩
  have hlen : news.length = (n - (i + 1)) * 2 := by rw [hnews, flat_length okS.cln, List.length_drop, hn]; rfl
  obtain ⟨A, hA, hsrc⟩ : ∃ A : Addr, (if cap = i + 1 then some (⟨g, off, none⟩ : Addr) else some ⟨g, off + (i + 1) * 2, none⟩) = some A ∧ Hid (∀ t u, news[t]? = some u → w.drew.cell? (A.add t) = some u) := by
    by_cases h : cap = i + 1
    · refine ⟨⟨g, off, none⟩, by simp [h], fun t u hu => ?_⟩
      have h0 : news.length = 0 := by rw [hlen]; omega
      rw [List.length_eq_zero_iff.1 h0] at hu
      simp at hu
    · refine ⟨⟨g, off + (i + 1) * 2, none⟩, by simp [h], fun t u hu => ?_⟩
      rw [hnews, flat_drop okS r (i + 1) (by omega), List.getElem?_drop] at hu
      rw [Addr.add_mid, Nat.add_assoc]
      exact hra _ u hu
  have s1 : Hid (news.length = (n - (i + 1)) * 2) := hlen
  have s2 : Hid (∀ u ∈ news, u.oneCell' = true) := by rw [hnews]; exact flat_one okS _
  have s3 : Hid (∀ t, t < news.length → (w.drew.cell? ⟨g, off + i * 2 + t, none⟩).isSome = true ∧ w.drew.frozen? ⟨g, off + i * 2 + t, none⟩ = false) := fun t h => by
    rw [hlen] at h
    rw [Nat.add_assoc]
    exact ht (i * 2 + t) (by omega)
  obtain ⟨W1, hW1⟩ : ∃ W1, W1 = w.drew.setCells g (off + i * 2) news := ⟨_, rfl⟩
  have ht1 : W1.there g off (cap * 2) := by rw [hW1]; exact World.there_setCells (w := w.drew) ht _ _ _
  have hcl : ∀ ty, (Builtin.clear_ #[68] ty #[.slice (some ⟨g, off + (n - 1) * 2, none⟩) 1 (cap - (n - 1))]).run Try.prog W1 = .ok (.tuple #[]) (W1.setCells g (off + (n - 1) * 2) KS.zc) := fun ty =>
    run_clear_one W1 _ _ ty KS.zc okS.ul (fun w => by kernel_rfl) okS.zne g _ _ (fun j hj => by rw [Nat.add_assoc]; exact ht1 _ (by have : j < 2 := hj; omega))
  have FIN : Hid ((W1.setCells g (off + (n - 1) * 2) KS.zc).rangeAt g off (flat KS (r.eraseIdx i)) ∧ (W1.setCells g (off + (n - 1) * 2) KS.zc).there g off (cap * 2) ∧ (∃ cs, (W1.setCells g (off + (n - 1) * 2) KS.zc).heap[g]? = some (.cells cs KS.te (0, 0))) ∧ Keep (fun k => k = g) w (W1.setCells g (off + (n - 1) * 2) KS.zc)) := by
    refine ⟨del_range okS (w := w.drew) (cap := cap) hra ht hi hc (by rw [hW1, hnews]; rfl) (by rw [hn]; rfl), World.there_setCells ht1 _ _ _, blk_cells _ _ _ (by rw [hW1]; exact blk_cells _ _ _ hb), ?_⟩
    refine Keep.more (b := W1) ?_ (keep_cells _ _ _ _)
    rw [hW1]
    exact (Keep.drew _ w).more (keep_cells _ _ _ _)
  have hW : Hid (W1 = w.drew.setCells g (off + i * 2) news) := hW1
  rw [← hn] at hi hc hl ⊢
  have hic : i ≤ cap := by omega
  have hjc : i + 1 ≤ cap := by omega
  have hne : ¬ (i = i + 1) := by omega
  have hn1 : i + (n - (i + 1)) = n - 1 := by omega
  have hn2 : n - (n - 1) = 1 := by omega
  have hn3 : n - 1 ≤ n := by omega
  have hn4 : n ≤ cap := hc
  have hn5 : ¬ (cap = n - 1) := by omega
  have hn6 : (0 : Int) ≤ (i : Int) + 1 := by omega
  have hn7 : (i : Int) + 1 ≤ (n : Int) := by omega
  clear hW1 ht1 hra ht hn hnews hlen hb
  go_enter Try.func57, Try.ntmps57
  go_wp2_with fail
  go_region_law (refine step_append_room rfl (.tmp 22) (.tmp 25) 68 rfl 95 i0 2 Try.underlying68 HI.out.1 HI.out.2 g off i cap (by simp [Act.eval, Act.put]) A (n - (i + 1)) (cap - (i + 1)) news (by simp [Act.eval, Act.put]) s1.out hsrc.out s2.out (by omega) s3.out ?_; rw [← hW.out])
  go_wp2
  go_ret
  exact ⟨rfl, FIN.out⟩

end Qu
end Go.Proofs.Ytobmnkoohgkiiaa
