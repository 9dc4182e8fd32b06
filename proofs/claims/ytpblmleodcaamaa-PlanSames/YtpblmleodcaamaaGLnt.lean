/- lent: a list of numbers as the front of a longer one, with marks behind. -/
import Derived.Test.YtpblmleodcaamaaGRow
import Derived.Laws.CopyOwn
namespace Go.Proofs.Ytpblmleodcaamaa
namespace Gr
open Go.RowKit

def zv (z : List Int) : List Value := z.map (Value.int .i64)
theorem zv_length (z : List Int) : (zv z).length = z.length := by simp [zv]
/-- a whole block of numbers -/
def Own (w : World) (g : Nat) (z : List Int) : Prop := w.heap[g]? = some (.cells (zv z).toArray 3 (0, 0))
theorem Own.keep {w w' : World} {g : Nat} {z : List Int} {S : Nat → Prop} (h : Own w g z) (k : Keep S w w') (hS : ¬ S g) : Own w' g z := k.blk h hS
theorem Own.at {w : World} {g : Nat} {z : List Int} (h : Own w g z) {j : Nat} {x : Int} (hj : z[j]? = some x) : w.cell? ⟨g, j, none⟩ = some (.int .i64 x) ∧ w.frozen? ⟨g, j, none⟩ = false :=
  ⟨cell_blk h j (by simp [zv, hj]), frozen_blk h j⟩
theorem Own.set {w : World} {g : Nat} {z : List Int} (h : Own w g z) (j : Nat) (x : Int) : Own (w.setCell ⟨g, j, none⟩ (.int .i64 x)) g (z.set j x) := by
  unfold Own
  rw [set_blk h j _]
  congr 2
  simp [zv, List.map_set]
theorem Own.rd {w : World} {g : Nat} {z : List Int} (h : Own w g z) {n : Nat} (hn : n ≤ z.length) (hz : z.length ≤ 17592186044416) (c : Nat) : RdZ w.heap.size w (some ⟨g, 0, none⟩, n, c) (z.take n) := by
  refine ⟨by simp; omega, by show n ≤ _; omega, .inr ⟨g, 0, rfl, (Array.getElem?_eq_some_iff.1 h).1, fun j x hj => ?_⟩⟩
  rw [Nat.zero_add]
  rw [List.getElem?_take] at hj
  split at hj
  · exact (h.at hj).1
  · cases hj
theorem size_int : (Try.prog.info? 3).map (·.size) = some 1 := by kernel_rfl
theorem made_ints (u : World) (m : Nat) (hm : m ≤ 1048576) : (Instr.makeSlice 34 (.int .i64 (m : Int)) (.int .i64 (m : Int))).run Try.prog u = .ok (.slice (some ⟨u.heap.size, 0, none⟩) m m) (u.alloc (.cells (zv (List.replicate m 0)).toArray 3)) := by
  obtain ⟨i0, hi, hz0, hz1, hz2⟩ := info_parts info_int
  have h := run_make (P := Try.prog) (w := u) 34 3 i0 (.int .i64 0) Try.underlying34 hi hz0 .i64 .i64 (m : Int) (m : Int) (by omega) (Int.le_refl _) (by rw [hz2]; omega) (by omega)
  have e : madeCells #[.int .i64 0] m = (zv (List.replicate m 0)).toArray := by
    apply Array.ext_getElem?
    intro i
    by_cases hi : i < m
    · simp [madeCells, zv, hi, Nat.mod_one]
    · rw [Array.getElem?_eq_none (by simp [madeCells]; omega), Array.getElem?_eq_none (by simp [zv]; omega)]
  rw [← e]
  simpa [hz1, Value.cells] using h
/-- numbers, then marks, then nothing yet -/
def lentTo (z : List Int) (m k : Nat) : List Int := z ++ (List.replicate (k - z.length) (-77) ++ List.replicate (m - k) 0)
def marked (z : List Int) : List Int := z ++ List.replicate 20 (-77)
theorem lentTo_len {z : List Int} {m k : Nat} (h1 : z.length ≤ k) (h2 : k ≤ m) : (lentTo z m k).length = m := by simp [lentTo]; omega
theorem lentTo_begin (z : List Int) (m : Nat) : splice (zv (List.replicate m 0)) 0 (zv z) = zv (lentTo z m z.length) := by
  simp [splice, lentTo, zv, List.drop_replicate]
theorem lentTo_get {z : List Int} {m k : Nat} (h1 : z.length ≤ k) (h2 : k ≤ m) (i : Nat) : (lentTo z m k)[i]? = if i < z.length then z[i]? else if i < k then some (-77) else if i < m then some 0 else none := by
  unfold lentTo
  by_cases hz : i < z.length
  · rw [List.getElem?_append_left hz, if_pos hz]
  · rw [List.getElem?_append_right (by omega), if_neg hz]
    by_cases hk : i < k
    · rw [List.getElem?_append_left (by rw [List.length_replicate]; omega), List.getElem?_replicate, if_pos (by omega), if_pos hk]
    · rw [List.getElem?_append_right (by rw [List.length_replicate]; omega), List.length_replicate, List.getElem?_replicate, if_neg hk]
      by_cases hm : i < m
      · rw [if_pos (by omega), if_pos hm]
      · rw [if_neg (by omega), if_neg hm]
theorem lentTo_step {z : List Int} {m k : Nat} (h1 : z.length ≤ k) (h2 : k < m) : (lentTo z m k).set k (-77) = lentTo z m (k + 1) := by
  apply List.ext_getElem?
  intro i
  rw [List.getElem?_set, lentTo_len h1 (Nat.le_of_lt h2), lentTo_get h1 (Nat.le_of_lt h2), lentTo_get (by omega) h2]
  by_cases e : k = i
  · subst e
    rw [if_pos rfl, if_pos h2, if_neg (by omega), if_pos (by omega)]
  · rw [if_neg e]
    by_cases hz : i < z.length
    · rw [if_pos hz, if_pos hz]
    · rw [if_neg hz, if_neg hz]
      by_cases hk : i < k
      · rw [if_pos hk, if_pos (show i < k + 1 by omega)]
      · rw [if_neg hk, if_neg (show ¬ i < k + 1 by omega)]
theorem lentTo_end (z : List Int) : lentTo z (z.length + 20) (z.length + 20) = marked z := by simp [lentTo, marked]

set_option maxHeartbeats 1000000 in
theorem lent_any (s : Option Addr × Nat × Nat) (z : List Int) (B : Nat) (w : World) (hz : RdZ B w s z) (hl : z.length ≤ 20000) :
    Calls Try.prog 24 #[.slice s.1 s.2.1 s.2.2] w fun e w' => ∃ g, e = .returned (.slice (some ⟨g, 0, none⟩) (z.length + 20) (z.length + 20)) ∧ w.heap.size ≤ g ∧ Own w' g (marked z) ∧ Keep (fun _ => False) w w' := by
  obtain ⟨a, n, c⟩ := s
  have hnz : n = z.length := hz.1
  subst hnz
  obtain ⟨m, hm⟩ : ∃ m, m = z.length + 20 := ⟨_, rfl⟩
  have hadd : (z.length : Int) + 20 = (m : Int) := by omega
  have hmk := made_ints w m (by omega)
  have hb0 : Below w.heap.size w (w.alloc (.cells (zv (List.replicate m 0)).toArray 3)) := (Below.refl _ _).alloc (Nat.le_refl _) _
  have hz2 := hz.new (Keep.alloc (fun _ => False) w (.cells (zv (List.replicate m 0)).toArray 3))
  have H1 : Hid ((zv z).length = Nat.min z.length m) := by show _ = min z.length m; rw [zv_length]; omega
  have H2 : Hid (0 < (zv z).length → some (⟨w.heap.size, 0, none⟩ : Addr) = some ⟨w.heap.size, 0, none⟩ ∧ ∃ ad, a = some ad ∧ ∀ j v, (zv z)[j]? = some v → (w.alloc (.cells (zv (List.replicate m 0)).toArray 3)).cell? (ad.add j) = some v) := fun hp => by
    rw [zv_length] at hp
    rcases hz2.2.2 with h0 | ⟨g, off, e, _, hc⟩
    · have h0 : z.length = 0 := h0
      omega
    · have e : a = some ⟨g, off, none⟩ := e
      subst e
      refine ⟨rfl, _, rfl, fun j v hv => ?_⟩
      unfold zv at hv
      rw [List.getElem?_map] at hv
      obtain ⟨y, hy, rfl⟩ := Option.map_eq_some_iff.1 hv
      have := hc j y hy
      rw [show (⟨g, off, none⟩ : Addr).add j = ⟨g, off + j, none⟩ by unfold Addr.add; split <;> simp_all]
      exact this
  have H3 : Hid (0 + (zv z).length ≤ (zv (List.replicate m 0)).length) := by show 0 + _ ≤ _; rw [zv_length, zv_length, List.length_replicate]; omega
  have H4 := hide (lentTo_begin z m)
  have H5 : Hid (∀ v ∈ zv z, v.oneCell' = true) := fun v hv => by obtain ⟨y, _, rfl⟩ := List.mem_map.1 hv; rfl
  have H6 := hide hb0
  have HM := hide hm
  have hnm : z.length ≤ m := by omega
  have hm2 : m < 281474976710656 := by omega
  clear hz hz2 hb0 hm
  generalize hzl : z.length = n at *
  have HZL := hide hzl
  clear hzl
  go_enter Try.func24, Try.ntmps24
  go_wp2_with (refine wpList_copy_splice rfl _ _ 34 34 rfl 3 Try.underlying34 size_int _ a m m n c rfl rfl w.heap.size 0 (zv (List.replicate m 0)) 3 (heap_alloc_new _ _) (zv z) H1.out H2.out H3.out H5.out w.heap.size w H6.out (Nat.le_refl _) ?_; rintro w1 hh hb1)
  have O1 : Hid (Own w1 w.heap.size (lentTo z m n)) := hide (by have h' := hh.out; rw [H4.out] at h'; exact h')
  have KB : Hid (Keep (fun _ => False) w w1) := Keep.ofBelow hb1 (Nat.le_refl _)
  generalize hgg : w.heap.size = g at *
  clear hh hb1
  go_loopw [4] (fun i wx => ∃ k : Nat, n ≤ k ∧ k ≤ m ∧ i = .int .i64 (k : Int) ∧ Hid (Own wx g (lentTo z m k) ∧ Keep (fun _ => False) w wx)) (fun i _ => m - (intOf i).toNat)
  case atStart => exact ⟨n, Nat.le_refl _, hnm, rfl, O1.out, KB.out⟩
  case round =>
    obtain ⟨k, hnk, hkm, rfl, HD⟩ := hrel
    rcases Nat.lt_or_ge k m with hlt | hge
    · have hlen := lentTo_len (z := z) (m := m) (k := k) (by have := HZL.out; omega) hkm
      obtain ⟨x, hx⟩ : ∃ x, (lentTo z m k)[k]? = some x := ⟨_, List.getElem?_eq_getElem (by rw [hlen]; exact hlt)⟩
      obtain ⟨q1, q2⟩ := HD.out.1.at hx
      have OS := hide (HD.out.1.set k (-77))
      have KS : Hid (Keep (fun _ => False) w (wr.setCell ⟨g, k, none⟩ (.int .i64 (-77)))) := HD.out.2.trans (keep_cell _ _ _ _) fun j e => .inr (by omega)
      clear hx hlen
      go_wp2_with fail
      go_roundw
      · refine ⟨k + 1, by omega, by omega, rfl, ?_, KS.out⟩
        have h := OS.out
        rw [lentTo_step (by have := HZL.out; omega) hlt] at h
        exact h
      · show m - ((k : Int) + 1).toNat < m - (k : Int).toNat
        omega
    · obtain rfl : k = m := by omega
      go_wp2_with fail
      go_ret
      refine ⟨g, ?_, by omega, ?_, HD.out.2⟩
      · rw [show n + 20 = k by have := HM.out; omega]; rfl
      · have h := HD.out.1
        rw [HM.out, ← HZL.out, lentTo_end] at h
        exact h
end Gr
end Go.Proofs.Ytpblmleodcaamaa
