/- Package queue, things of two parts: slices.Delete of one entry (out of ref_gen.py). -/
import Derived.Test.YtobmnkoohgkiiaaQR2
import Derived.Test.YtobmnkoohgkiiaaQDel
namespace Go.Proofs.Ytobmnkoohgkiiaa
namespace Qu
open Go.RowKit

set_option maxRecDepth 100000 in
set_option maxHeartbeats 4000000 in
theorem delF {r : List (Nat × _)} (i : Nat) (w : World) (g off cap : Nat) (hra : w.rangeAt g off (flat KF r)) (ht : w.there g off (cap * 3)) (hi : i < r.length) (hc : r.length ≤ cap) (hcm : cap ≤ 9223372036854775807) (hl : r.length ≤ 65536) (hb : ∃ cs, w.heap[g]? = some (.cells cs KF.te (0, 0))) :
    Calls Try.prog 60 #[.slice (some ⟨g, off, none⟩) r.length cap, .int .i64 i, .int .i64 ((i : Int) + 1)] w fun e w' => e = .returned (.slice (some ⟨g, off, none⟩) (r.length - 1) cap) ∧
      w'.rangeAt g off (flat KF (r.eraseIdx i)) ∧ w'.there g off (cap * 3) ∧ (∃ cs, w'.heap[g]? = some (.cells cs KF.te (0, 0))) ∧ Keep (fun k => k = g) w w' := by
  obtain ⟨i0, hi0, hz0, hz1, hz2⟩ := info_parts infoF
  have HI := hide (And.intro hi0 hz1)
  clear hi0 hz0 hz1 hz2
  obtain ⟨n, hn⟩ : ∃ n, n = r.length := ⟨_, rfl⟩
  obtain ⟨news, hnews⟩ : ∃ news, news = flat KF (r.drop (i + 1)) := ⟨_, rfl⟩
  have hlen : news.length = (n - (i + 1)) * 3 := by rw [hnews, flat_length okF.cln, List.length_drop, hn]; rfl
  obtain ⟨A, hA, hsrc⟩ : ∃ A : Addr, (if cap = i + 1 then some (⟨g, off, none⟩ : Addr) else some ⟨g, off + (i + 1) * 3, none⟩) = some A ∧ Hid (∀ t u, news[t]? = some u → w.drew.cell? (A.add t) = some u) := by
    by_cases h : cap = i + 1
    · refine ⟨⟨g, off, none⟩, by simp [h], fun t u hu => ?_⟩
      have h0 : news.length = 0 := by rw [hlen]; omega
      rw [List.length_eq_zero_iff.1 h0] at hu
      simp at hu
    · refine ⟨⟨g, off + (i + 1) * 3, none⟩, by simp [h], fun t u hu => ?_⟩
      rw [hnews, flat_drop okF r (i + 1) (by omega), List.getElem?_drop] at hu
      rw [Addr.add_mid, Nat.add_assoc]
      exact hra _ u hu
  have s1 : Hid (news.length = (n - (i + 1)) * 3) := hlen
  have s2 : Hid (∀ u ∈ news, u.oneCell' = true) := by rw [hnews]; exact flat_one okF _
  have s3 : Hid (∀ t, t < news.length → (w.drew.cell? ⟨g, off + i * 3 + t, none⟩).isSome = true ∧ w.drew.frozen? ⟨g, off + i * 3 + t, none⟩ = false) := fun t h => by
    rw [hlen] at h
    rw [Nat.add_assoc]
    exact ht (i * 3 + t) (by omega)
  obtain ⟨W1, hW1⟩ : ∃ W1, W1 = w.drew.setCells g (off + i * 3) news := ⟨_, rfl⟩
  have ht1 : W1.there g off (cap * 3) := by rw [hW1]; exact World.there_setCells (w := w.drew) ht _ _ _
  have hcl : ∀ ty, (Builtin.clear_ #[72] ty #[.slice (some ⟨g, off + (n - 1) * 3, none⟩) 1 (cap - (n - 1))]).run Try.prog W1 = .ok (.tuple #[]) (W1.setCells g (off + (n - 1) * 3) KF.zc) := fun ty =>
    run_clear_one W1 _ _ ty KF.zc okF.ul (fun w => by kernel_rfl) okF.zne g _ _ (fun j hj => by rw [Nat.add_assoc]; exact ht1 _ (by have : j < 3 := hj; omega))
  have FIN : Hid ((W1.setCells g (off + (n - 1) * 3) KF.zc).rangeAt g off (flat KF (r.eraseIdx i)) ∧ (W1.setCells g (off + (n - 1) * 3) KF.zc).there g off (cap * 3) ∧ (∃ cs, (W1.setCells g (off + (n - 1) * 3) KF.zc).heap[g]? = some (.cells cs KF.te (0, 0))) ∧ Keep (fun k => k = g) w (W1.setCells g (off + (n - 1) * 3) KF.zc)) := by
    refine ⟨del_range okF (w := w.drew) (cap := cap) hra ht hi hc (by rw [hW1, hnews]; rfl) (by rw [hn]; rfl), World.there_setCells ht1 _ _ _, blk_cells _ _ _ (by rw [hW1]; exact blk_cells _ _ _ hb), ?_⟩
    refine Keep.more (b := W1) ?_ (keep_cells _ _ _ _)
    rw [hW1]
    exact (Keep.drew _ w).more (keep_cells _ _ _ _)
  have hW : Hid (W1 = w.drew.setCells g (off + i * 3) news) := hW1
  rw [← hn] at hi hc hl ⊢
  have hic : i ≤ cap := by omega
  have hjc : i + 1 ≤ cap := by omega
  have hne : ¬ (i = i + 1) := by omega
  have hn1 : i + (n - (i + 1)) = n - 1 := by omega
  have hn2 : n - (n - 1) = 1 := by omega
  have hn3 : n - 1 ≤ n := by omega
  have hn4 : n ≤ cap := hc
  have hn5 : ¬ (cap = n - 1) := by omega
  have hn6 : (0 : Int) ≤ (i : Int) + 1 := by omega
  have hn7 : (i : Int) + 1 ≤ (n : Int) := by omega
  clear hW1 ht1 hra ht hn hnews hlen hb
  go_enter Try.func60, Try.ntmps60
  go_wp2_with fail
  go_region_law (refine step_append_room rfl (.tmp 22) (.tmp 25) 72 rfl 104 i0 3 Try.underlying72 HI.out.1 HI.out.2 g off i cap (by simp [Act.eval, Act.put]) A (n - (i + 1)) (cap - (i + 1)) news (by simp [Act.eval, Act.put]) s1.out hsrc.out s2.out (by omega) s3.out ?_; rw [← hW.out])
  go_wp2
  go_ret
  exact ⟨rfl, FIN.out⟩

end Qu
end Go.Proofs.Ytobmnkoohgkiiaa
