/- Package queue: a queue in memory: its own block, its map, its row. -/
import Derived.Test.YtobmnkoohgkiiaaQMod
import Derived.Deep.MidRow
import Derived.ArgAppend
import Derived.Lib.SliceRun
namespace Go.Proofs.Ytobmnkoohgkiiaa
namespace Qu
open Go.RowKit

section
variable {α : Type} {K : Kd α}

/-- a row in memory -/
def RowAt (K : Kd α) (S : Nat → Prop) (w : World) (v : Value) (r : List (Nat × α)) : Prop :=
  (v = .slice none 0 0 ∧ r = []) ∨ ∃ g off cap, v = .slice (some ⟨g, off, none⟩) r.length cap ∧ S g ∧ (∃ cs, w.heap[g]? = some (.cells cs K.te (0, 0))) ∧ r.length ≤ cap ∧ cap ≤ maxLen ∧ w.rangeAt g off (flat K r) ∧ w.there g off (cap * (K.c + 1))

theorem rangeAt_keep {w w' : World} {g o : Nat} {cs : List Value} (h : w.rangeAt g o cs) {T : Nat → Prop} (hk : Keep T w w') (hg : ¬ T g) : w'.rangeAt g o cs := fun j v hv => hk.cell (h j v hv) hg
theorem there_keep {w w' : World} {g o n : Nat} (h : w.there g o n) {T : Nat → Prop} (hk : Keep T w w') (hg : ¬ T g) (hlt : g < w.heap.size) : w'.there g o n := fun j hj => by
  have hb := hk.block g hlt hg
  obtain ⟨h1, h2⟩ := h j hj
  constructor
  · rw [World.cell?_of_block (w := w) (w' := w') (a := ⟨g, o + j, none⟩) hb]; exact h1
  · simp only [World.frozen?] at h2 ⊢
    rw [hb]; exact h2
theorem there_blk {w : World} {g o n : Nat} {cs : Array Value} {t : TypeId} (h : w.heap[g]? = some (.cells cs t (0, 0))) (hn : o + n ≤ cs.size) : w.there g o n := fun j hj => by
  refine ⟨?_, frozen_blk h _⟩
  rw [cell_blk h (o + j) (v := cs[o + j]'(by omega)) (by simp)]
  rfl
theorem lt_blk {w : World} {g : Nat} {o : Obj} (h : w.heap[g]? = some o) : g < w.heap.size := (Array.getElem?_eq_some_iff.1 h).1

theorem RowAt.stay {S : Nat → Prop} {w w' : World} {v : Value} {r : List (Nat × α)} (h : RowAt K S w v r) {T : Nat → Prop} (hk : Keep T w w') (hT : ∀ k, k < w.heap.size → S k → ¬ T k) : RowAt K S w' v r := by
  rcases h with h | ⟨g, off, cap, h1, h2, ⟨cs, h3⟩, h4, h5, h6, h7⟩
  · exact .inl h
  · have hg := hT g (lt_blk h3) h2
    exact .inr ⟨g, off, cap, h1, h2, ⟨cs, hk.blk h3 hg⟩, h4, h5, rangeAt_keep h6 hk hg, there_keep h7 hk hg (lt_blk h3)⟩
theorem RowAt.mono {S T : Nat → Prop} {w : World} {v : Value} {r : List (Nat × α)} (h : RowAt K S w v r) (hT : ∀ k, S k → T k) : RowAt K T w v r := by
  rcases h with h | ⟨g, off, cap, h1, h2, h3⟩
  · exact .inl h
  · exact .inr ⟨g, off, cap, h1, hT g h2, h3⟩
theorem RowAt.shape {S : Nat → Prop} {w : World} {v : Value} {r : List (Nat × α)} (h : RowAt K S w v r) : ∃ a cap, v = .slice a r.length cap ∧ r.length ≤ cap ∧ (a = none → r = [] ∧ cap = 0) := by
  rcases h with ⟨rfl, rfl⟩ | ⟨g, off, cap, h1, h2, h3, h4, _⟩
  · exact ⟨none, 0, rfl, Nat.le_refl _, fun _ => ⟨rfl, rfl⟩⟩
  · exact ⟨_, cap, h1, h4, fun e => by cases e⟩
/-- a row that holds something -/
theorem RowAt.full {S : Nat → Prop} {w : World} {v : Value} {r : List (Nat × α)} (h : RowAt K S w v r) (hr : 0 < r.length) :
    ∃ g off cap, v = .slice (some ⟨g, off, none⟩) r.length cap ∧ S g ∧ (∃ cs, w.heap[g]? = some (.cells cs K.te (0, 0))) ∧ r.length ≤ cap ∧ cap ≤ maxLen ∧ w.rangeAt g off (flat K r) ∧ w.there g off (cap * (K.c + 1)) := by
  rcases h with ⟨rfl, rfl⟩ | h
  · simp at hr
  · exact h
/-- the block of a row -/
theorem RowAt.own {S : Nat → Prop} {w : World} {v : Value} {r : List (Nat × α)} (h : RowAt K S w v r) {k : Nat} (hk : v.ownBlock = some k) : S k ∧ ∃ cs, w.heap[k]? = some (.cells cs K.te (0, 0)) := by
  rcases h with ⟨rfl, rfl⟩ | ⟨g, off, cap, h1, h2, h3, _⟩
  · cases hk
  · subst h1
    obtain rfl : g = k := by simpa [Value.ownBlock] using hk
    exact ⟨h2, h3⟩

structure QIn (K : Kd α) [DecidableEq α] (S : Nat → Prop) (w : World) (P m : Nat) (v : Value) (s : St α) : Prop where
  blk : w.heap[P]? = some (.cells #[nv s.places, nv s.last, .map (some m), v] K.tq (0, 0))
  mp : MapK K w m s.last (numL s.row)
  row : RowAt K S w v s.row
  sp : S P
  sm : S m

/-- a queue in memory -/
def QAt (K : Kd α) [DecidableEq α] (S : Nat → Prop) (w : World) (P : Nat) (s : St α) : Prop := Ok s ∧ (∀ e ∈ s.row, K.ok e.2) ∧ ∃ m v, QIn K S w P m v s
end

section
variable {α : Type} [DecidableEq α] {K : Kd α} {S : Nat → Prop} {w w' : World} {P m : Nat} {v : Value} {s : St α}
theorem QIn.ltP (h : QIn K S w P m v s) : P < w.heap.size := lt_blk h.blk
theorem QIn.ltm (h : QIn K S w P m v s) : m < w.heap.size := h.mp.lt
theorem QIn.ePm (h : QIn K S w P m v s) : P ≠ m := fun e => by
  obtain ⟨es, c, h3⟩ := h.mp.blk
  rw [← e, h.blk] at h3
  cases h3
theorem QIn.eP (h : QIn K S w P m v s) (hK : KdOk K) : v.ownBlock ≠ some P := fun e => by
  obtain ⟨_, cs, h1⟩ := h.row.own e
  rw [h.blk] at h1
  injection h1 with h1
  injection h1 with _ h1
  exact hK.ne h1.symm
theorem QIn.em (h : QIn K S w P m v s) : v.ownBlock ≠ some m := fun e => by
  obtain ⟨_, cs, h1⟩ := h.row.own e
  obtain ⟨es, c, h3⟩ := h.mp.blk
  rw [h1] at h3
  cases h3
theorem QIn.stay (h : QIn K S w P m v s) {T : Nat → Prop} (hk : Keep T w w') (hT : ∀ k, k < w.heap.size → S k → ¬ T k) : QIn K S w' P m v s :=
  ⟨hk.blk h.blk (hT P h.ltP h.sp), h.mp.keep hk (hT m h.ltm h.sm), h.row.stay hk hT, h.sp, h.sm⟩
theorem QAt.stay (h : QAt K S w P s) {T : Nat → Prop} (hk : Keep T w w') (hT : ∀ k, k < w.heap.size → S k → ¬ T k) : QAt K S w' P s := by
  obtain ⟨h0, h1, m, v, h2⟩ := h
  exact ⟨h0, h1, m, v, h2.stay hk hT⟩
theorem QAt.new (h : QAt K S w P s) (hk : Keep (fun _ => False) w w') : QAt K S w' P s := h.stay hk fun _ _ _ h => h
theorem QIn.mono {T : Nat → Prop} (h : QIn K S w P m v s) (hT : ∀ k, S k → T k) : QIn K T w P m v s := ⟨h.blk, h.mp, h.row.mono hT, hT _ h.sp, hT _ h.sm⟩
theorem QAt.mono {T : Nat → Prop} (h : QAt K S w P s) (hT : ∀ k, S k → T k) : QAt K T w P s := by
  obtain ⟨h0, h1, m, v, h2⟩ := h
  exact ⟨h0, h1, m, v, h2.mono hT⟩
theorem QIn.c0 (h : QIn K S w P m v s) : w.cell? ⟨P, 0, none⟩ = some (.int .i64 (s.places : Nat)) := cell_blk h.blk 0 rfl
theorem QIn.c1 (h : QIn K S w P m v s) : w.cell? ⟨P, 1, none⟩ = some (.int .i64 (s.last : Nat)) := cell_blk h.blk 1 rfl
theorem QIn.c2 (h : QIn K S w P m v s) : w.cell? ⟨P, 2, none⟩ = some (.map (some m)) := cell_blk h.blk 2 rfl
theorem QIn.c3 (h : QIn K S w P m v s) : w.cell? ⟨P, 3, none⟩ = some v := cell_blk h.blk 3 rfl
theorem QIn.fz (h : QIn K S w P m v s) (j : Nat) : w.frozen? ⟨P, j, none⟩ = false := frozen_blk h.blk j
end

section
variable {α : Type} {K : Kd α}
/-- a thing more behind a row -/
theorem RowAt.append (hK : KdOk K) {S : Nat → Prop} {w : World} {v : Value} {r : List (Nat × α)} (h : RowAt K S w v r) (hl : r.length < 65536) {B n : Nat} {k : α} {c : Nat} (hB : ∀ j u, (nv n :: K.cl k)[j]? = some u → w.cell? ((⟨B, 0, none⟩ : Addr).add j) = some u) (ty : TypeId) :
    ∃ g off cap w', (Builtin.append_ #[K.tl, K.tl] ty #[v, .slice (some ⟨B, 0, none⟩) 1 c]).run Try.prog w = .ok (.slice (some ⟨g, off, none⟩) (r.length + 1) cap) w' ∧
      RowAt K (fun i => S i ∨ w.heap.size ≤ i) w' (.slice (some ⟨g, off, none⟩) (r.length + 1) cap) (r ++ [(n, k)]) ∧ Keep (fun i => v.ownBlock = some i) w w' := by
  obtain ⟨i0, hi, hz, hs, hb⟩ := hK.inf
  have hnl : (nv n :: K.cl k).length = 1 * (K.c + 1) := by simp [hK.cln]
  have h1 : ∀ u ∈ nv n :: K.cl k, u.oneCell' = true := fun u hu => by
    rcases List.mem_cons.1 hu with rfl | hu
    · rfl
    · exact hK.one k u hu
  have hfl : flat K (r ++ [(n, k)]) = flat K r ++ (nv n :: K.cl k) := by rw [flat_append, flat_cons]; simp [flat]
  have hlen : (flat K r).length = r.length * (K.c + 1) := flat_length hK.cln r
  have hbig : (r.length + 1) * i0.bytes ≤ 140737488355328 := Nat.le_trans (Nat.mul_le_mul (show r.length + 1 ≤ 65536 by omega) hb) (by decide)
  have h63 : r.length + 1 ≤ maxLen := by unfold maxLen; omega
  have hzc : (Value.agg K.zc.toArray).cells.size = K.c + 1 := by simp [Value.cells, hK.zln]
  have fin : ∀ v' w', w'.ownsRow w.heap.size K.te (K.c + 1) v' (r.length + 1) (flat K r ++ (nv n :: K.cl k)) → ∃ g cap, v' = .slice (some ⟨g, 0, none⟩) (r.length + 1) cap ∧ RowAt K (fun i => S i ∨ w.heap.size ≤ i) w' v' (r ++ [(n, k)]) := fun v' w' ho => by
    rcases ho.2 with ⟨_, h0⟩ | ⟨g, cap, cur, e1, e2, e3, e4, e5, e6, e7⟩
    · omega
    · refine ⟨g, cap, e1, .inr ⟨g, 0, cap, by rw [e1]; simp, .inr e2, ⟨cur, e3⟩, by simpa using e4, e5, ?_, there_blk e3 (by omega)⟩⟩
      rw [hfl]
      intro j u hu
      rw [← e7, List.getElem?_take] at hu
      split at hu
      · rw [Nat.zero_add]; exact cell_blk e3 j (by simpa using hu)
      · cases hu
  rcases h with ⟨rfl, rfl⟩ | ⟨g, off, cap, rfl, hS, ⟨cs, hg⟩, hc, hcm, hr, ht⟩
  · obtain ⟨v', w', hrun, ho, hgr, _⟩ := run_append_own (P := Try.prog) w w.heap.size K.tl ty K.te i0 (.agg K.zc.toArray) (K.c + 1) i0.bytes hK.ul hi hz hs rfl hzc (by omega) (.slice none 0 0) 0 [] (World.ownsRow_nil _ _ _ _) ⟨B, 0, none⟩ 1 c (nv n :: K.cl k) hnl hB h1 (by unfold maxLen; omega) (by simpa using hbig) (Nat.le_refl _)
    obtain ⟨g, cap, rfl, hrow⟩ := fin v' w' ho
    exact ⟨g, 0, cap, w', hrun, hrow, Keep.grown hgr fun k e => e⟩
  · by_cases hroom : r.length + 1 ≤ cap
    · have hmul : r.length * (K.c + 1) + (K.c + 1) ≤ cap * (K.c + 1) := by rw [← Nat.succ_mul]; exact Nat.mul_le_mul_right _ hroom
      have hrun := run_append_room_cells (P := Try.prog) w K.tl ty K.te i0 hK.ul hi g off r.length cap ⟨B, 0, none⟩ 1 c (nv n :: K.cl k) (by rw [hs]; exact hnl) hB h1 hroom (fun j hj => by rw [hs, Nat.add_assoc]; exact (ht (r.length * (K.c + 1) + j) (by omega)).1) (fun j hj => by rw [hs, Nat.add_assoc]; exact (ht (r.length * (K.c + 1) + j) (by omega)).2)
      have hkp : Keep (fun i => i = g) w (w.setCells g (off + r.length * i0.size) (nv n :: K.cl k)) := by
        have : ∀ (vs : List Value) (o : Nat) (w : World), Keep (fun i => i = g) w (w.setCells g o vs) := by
          intro vs
          induction vs with
          | nil => intro o w; exact Keep.refl _ _
          | cons a r ih => intro o w; exact (keep_cell w g o a).more (ih (o + 1) _)
        exact this _ _ _
      refine ⟨g, off, cap, _, hrun, .inr ⟨g, off, cap, by simp, .inl hS, ?_, by simpa using hroom, hcm, ?_, World.there_setCells ht _ _ _⟩, hkp.mono fun i e => by simp [Value.ownBlock, e]⟩
      · have : ∀ (vs : List Value) (o : Nat) (w : World), (∃ cs, w.heap[g]? = some (.cells cs K.te (0, 0))) → ∃ cs, (w.setCells g o vs).heap[g]? = some (.cells cs K.te (0, 0)) := by
          intro vs
          induction vs with
          | nil => intro o w h; exact h
          | cons a r ih => intro o w ⟨cs, h⟩; exact ih (o + 1) _ ⟨_, set_blk h o a⟩
        exact this _ _ _ ⟨cs, hg⟩
      · rw [hfl, hs]
        intro j u hu
        by_cases hj : j < (flat K r).length
        · rw [List.getElem?_append_left hj] at hu
          exact World.rangeAt_setCells_apart hr g (off + r.length * (K.c + 1)) (nv n :: K.cl k) (.inr (.inl (by omega))) j u hu
        · rw [List.getElem?_append_right (by omega)] at hu
          have := World.rangeAt_setCells_same w g (off + r.length * (K.c + 1)) (nv n :: K.cl k) (fun j hj => by rw [Nat.add_assoc]; exact ht (r.length * (K.c + 1) + j) (by omega)) _ u hu
          rwa [hlen, Nat.add_assoc, Nat.add_sub_cancel' (by omega)] at this
    · obtain ⟨v', w', hrun, ho, hgr⟩ := run_append_arg_grows (P := Try.prog) w K.tl ty K.te i0 (.agg K.zc.toArray) (K.c + 1) i0.bytes hK.ul hi hz hs rfl hzc (by omega) ⟨g, off, none⟩ r.length cap (flat K r) hlen (fun j u hu => by rw [Addr.add_mid]; exact hr j u hu) ⟨B, 0, none⟩ 1 c (nv n :: K.cl k) hnl hB (by omega) h63 hbig
      obtain ⟨g', cap', rfl, hrow⟩ := fin v' w' ho
      exact ⟨g', 0, cap', w', hrun, hrow, Keep.grown hgr fun k e => by cases e⟩
end

end Qu
end Go.Proofs.Ytobmnkoohgkiiaa
