/- Bytes in memory: blocks of the call's own; contracts of twin, lent, other, same, kept, pick. -/
import Derived.Test.YtciehainhhkikaaAwake
import Derived.Laws.CopyOwn
import Derived.Deep.OwnRows
namespace Go.Proofs.Ytciehainhhkikaa
open Go.RowKit

/-- bytes as cells -/
def B8 (l : List Nat) : List Value := l.map fun (d : Nat) => Value.int .u8 (d : Int)

theorem B8_length (l : List Nat) : (B8 l).length = l.length := by simp [B8]
theorem B8_one (l : List Nat) : ∀ v ∈ B8 l, v.oneCell' = true := by
  intro v hv
  simp only [B8, List.mem_map] at hv
  obtain ⟨d, _, rfl⟩ := hv
  rfl
theorem B8_at (l : List Nat) (i : Nat) (h : i < l.length) : (B8 l)[i]? = some (.int .u8 ((l.getD i 0 : Nat) : Int)) := by
  simp [B8, h]
theorem B8_append (a b : List Nat) : B8 (a ++ b) = B8 a ++ B8 b := by simp [B8]
theorem B8_take (a : List Nat) (n : Nat) : (B8 a).take n = B8 (a.take n) := by simp [B8, List.map_take]
theorem B8_drop (a : List Nat) (n : Nat) : (B8 a).drop n = B8 (a.drop n) := by simp [B8, List.map_drop]

/-- a block of bytes that may be written -/
def Own (w : World) (g : Nat) (l : List Nat) : Prop := w.heap[g]? = some (.cells (B8 l).toArray 5 (0, 0))

theorem Own.cell {w : World} {g : Nat} {l : List Nat} (h : Own w g l) (i : Nat) (hi : i < l.length) : w.cell? ⟨g, i, none⟩ = some (.int .u8 ((l.getD i 0 : Nat) : Int)) := by
  rw [cell_of_row _ _ i _ _ _ h, List.getElem?_toArray, B8_at l i hi]

theorem Own.free {w : World} {g : Nat} {l : List Nat} (h : Own w g l) (i : Nat) : w.frozen? ⟨g, i, none⟩ = false := frozen_of_row w g i _ _ h

theorem Own.lt {w : World} {g : Nat} {l : List Nat} (h : Own w g l) : g < w.heap.size := by
  rcases Nat.lt_or_ge g w.heap.size with h' | h'
  · exact h'
  · rw [Own, Array.getElem?_eq_none h'] at h; cases h

theorem Own.below {w w' : World} {g : Nat} {l : List Nat} {B : Nat} (h : Own w g l) (hb : Below B w w') (hg : g < B) : Own w' g l := by
  rw [Own, hb.block g hg]; exact h

theorem Own.rd {w : World} {g : Nat} {l : List Nat} (h : Own w g l) (hs : l.length < 281474976710656) (hd : ∀ d ∈ l, d < 256) : Rd w (some ⟨g, 0, none⟩) l.length l :=
  ⟨rfl, hs, hd, .inr ⟨g, 0, rfl, fun i hi => by rw [Nat.zero_add]; exact h.cell i hi⟩⟩

/-- the part of a block from a place on -/
theorem Own.rd_part {w : World} {g : Nat} {l : List Nat} (h : Own w g l) (hs : l.length < 281474976710656) (hd : ∀ d ∈ l, d < 256) (at_ n : Nat) (hn : at_ + n ≤ l.length) : Rd w (some ⟨g, at_, none⟩) n ((l.drop at_).take n) := by
  refine ⟨by simp; omega, by omega, fun d hd' => hd d (List.mem_of_mem_drop (List.mem_of_mem_take hd')), .inr ⟨g, at_, rfl, fun i hi => ?_⟩⟩
  rw [h.cell (at_ + i) (by omega)]
  simp [List.getD_eq_getElem?_getD, hi]

theorem Own.set {w : World} {g : Nat} {l : List Nat} (h : Own w g l) (i d : Nat) : Own (w.setCell ⟨g, i, none⟩ (.int .u8 (d : Int))) g (l.set i d) := by
  unfold Own
  rw [heap_setCell_same w g i _ _ _ h]
  simp [B8, List.map_set]

theorem made (n : Nat) : madeCells #[Value.int .u8 0] n = (B8 (List.replicate n 0)).toArray := by
  apply Array.ext_getElem?
  intro i
  simp only [madeCells, B8, List.map_replicate]
  by_cases h : i < n
  · simp [h, Nat.mod_one]
  · simp [h]

theorem info_u8 : (Try.prog.info? 5).map (fun i => (i.zero, i.size, i.bytes)) = some (some (.int .u8 0), 1, 1) := by kernel_rfl
theorem size_u8 : (Try.prog.info? 5).map (·.size) = some 1 := by kernel_rfl

theorem make_run (n : Nat) (hn : n ≤ 281474976710656) (w : World) :
    (Instr.makeSlice 22 (.int .i64 (n : Int)) (.int .i64 (n : Int))).run Try.prog w = .ok (.slice (some ⟨w.heap.size, 0, none⟩) n n) (w.alloc (.cells (B8 (List.replicate n 0)).toArray 5)) := by
  rw [← made]
  exact run_make_row' 22 5 (.int .u8 0) 1 Try.underlying22 info_u8 rfl .i64 .i64 n (by omega) (by omega) w

/-- what came in, as the law on copy asks it -/
theorem Rd.src {w : World} {a : Option Addr} {n : Nat} {l : List Nat} (h : Rd w a n l) (m : Nat) : 0 < (B8 (l.take m)).length → ∃ ad, a = some ad ∧ ∀ j v, (B8 (l.take m))[j]? = some v → w.cell? (ad.add j) = some v := by
  obtain ⟨hl, _, _, hrow⟩ := h
  intro hpos
  rcases hrow with h0 | ⟨b, off, rfl, hrow⟩
  · rw [B8_length, List.length_take] at hpos; omega
  · refine ⟨_, rfl, fun j v hv => ?_⟩
    have hj : j < (l.take m).length := by
      rcases Nat.lt_or_ge j (l.take m).length with h' | h'
      · exact h'
      · rw [List.getElem?_eq_none (by rw [B8_length]; exact h')] at hv; cases hv
    rw [B8_at _ _ hj] at hv
    injection hv with hv
    subst hv
    have hadd : (⟨b, off, none⟩ : Addr).add j = ⟨b, off + j, none⟩ := by unfold Addr.add; split <;> simp_all
    rw [hadd, hrow j (by rw [List.length_take] at hj; omega)]
    rw [List.length_take] at hj
    simp [List.getD_eq_getElem?_getD, show j < m by omega]

theorem splice_all (n : Nat) (l : List Nat) (h : n = l.length) : splice (B8 (List.replicate n 0)) 0 (B8 l) = B8 l := by
  unfold splice
  rw [List.drop_eq_nil_of_le (by rw [B8_length, B8_length, List.length_replicate]; omega)]
  simp

set_option maxHeartbeats 400000 in
theorem twin_any (a : Option Addr) (n c : Nat) (l : List Nat) (w : World) (h : Rd w a n l) :
    Calls Try.prog 22 #[.slice a n c] w fun e w' => e = .returned (.slice (some ⟨w.heap.size, 0, none⟩) n n) ∧ w.heap.size < w'.heap.size ∧ Own w' w.heap.size l ∧ Below w.heap.size w w' := by
  have hn := h.2.1
  have hmk := make_run n (by omega)
  have hb0 : Below w.heap.size w (w.alloc (.cells (B8 (List.replicate n 0)).toArray 5)) := (Below.refl _ _).alloc (Nat.le_refl _) _
  have hsrc := (h.below (Nat.le_refl _) hb0).src n
  rw [List.take_of_length_le (by have := h.1; omega)] at hsrc
  have H1 : Hid ((B8 l).length = Nat.min n n) := by show _ = min n n; rw [B8_length, Nat.min_self]; exact h.1.symm
  have H2 : Hid (0 < (B8 l).length → some (⟨w.heap.size, 0, none⟩ : Addr) = some ⟨w.heap.size, 0, none⟩ ∧ ∃ ad, a = some ad ∧ ∀ j v, (B8 l)[j]? = some v → (w.alloc (.cells (B8 (List.replicate n 0)).toArray 5)).cell? (ad.add j) = some v) := fun hp => ⟨rfl, hsrc hp⟩
  have H3 : Hid (0 + (B8 l).length ≤ (B8 (List.replicate n 0)).length) := by show 0 + _ ≤ _; rw [B8_length, B8_length, List.length_replicate]; have := h.1; omega
  have H4 : Hid (splice (B8 (List.replicate n 0)) 0 (B8 l) = B8 l) := splice_all n l h.1
  have H5 := hide (B8_one l)
  have H6 := hide hb0
  clear h hsrc hb0
  go_enter Try.func22, Try.ntmps22
  go_wp2_with (refine wpList_copy_splice rfl _ _ 22 22 rfl 5 Try.underlying22 size_u8 _ a n n n c rfl rfl w.heap.size 0 (B8 (List.replicate n 0)) 5 (heap_alloc_new _ _) (B8 l) H1.out H2.out H3.out H5.out w.heap.size w H6.out (Nat.le_refl _) ?_; rintro w1 hh hb1)
  go_ret
  have hh' := hh.out
  rw [H4.out] at hh'
  exact ⟨rfl, Own.lt hh', hh', hb1⟩

theorem pick_any (c n : Int) (h0 : -9223372036854775808 ≤ c) (h1 : c ≤ 9223372036854775807) (hn : 0 < n) (hn' : n ≤ 9223372036854775807) (w : World) :
    Calls Try.prog 21 #[.int .i64 c, .int .i64 n] w fun e w' => ∃ m : Nat, e = .returned (.int .i64 (m : Int)) ∧ (m : Int) < n ∧ w' = w := by
  have hz : (n == 0) = false := by simp; omega
  by_cases hc : c < 0
  · have h2 := Int.emod_nonneg (-(c + 1)) (show n ≠ 0 by omega)
    have h3 := Int.emod_lt_of_pos (-(c + 1)) hn
    have h5 : Hid (-((c + 1).tmod n) = -(c + 1) % n) := by show _ = _; rw [← Int.neg_tmod, Int.tmod_eq_emod_of_nonneg (by omega)]
    go_enter Try.func21, Try.ntmps21
    go_wp2
    go_ret
    exact ⟨(-(c + 1) % n).toNat, ret_int (by have := h5.out; omega), by omega, rfl⟩
  · have h2 := Int.emod_nonneg c (show n ≠ 0 by omega)
    have h3 := Int.emod_lt_of_pos c hn
    go_enter Try.func21, Try.ntmps21
    go_wp2
    go_ret
    exact ⟨(c % n).toNat, ret_int (by omega), by omega, rfl⟩

/-- a part of what a slice of bytes reads -/
theorem Rd.cut {w : World} {a : Option Addr} {n : Nat} {l : List Nat} (h : Rd w a n l) (c lo hi : Nat) (hc : n ≤ c) (h1 : lo ≤ hi) (h2 : hi ≤ n) : Rd w (if c = lo then a else a.map (·.add lo)) (hi - lo) ((l.take hi).drop lo) := by
  obtain ⟨hl, hn, hd, hrow⟩ := h
  refine ⟨by simp; omega, by omega, fun d hd' => hd d (List.mem_of_mem_take (List.mem_of_mem_drop hd')), ?_⟩
  by_cases h0 : hi - lo = 0
  · exact .inl h0
  · right
    rcases hrow with h0' | ⟨b, off, rfl, hrow⟩
    · omega
    · rw [if_neg (by omega)]
      refine ⟨b, off + lo, ?_, fun i hi' => ?_⟩
      · simp only [Option.map_some]
        congr 1
        unfold Addr.add; split <;> simp_all
      · rw [Nat.add_assoc, hrow (lo + i) (by omega)]
        congr 2
        rw [List.getD_eq_getElem?_getD, List.getD_eq_getElem?_getD, List.getElem?_drop, List.getElem?_take, if_pos (by omega)]

theorem slice_run (a : Option Addr) (n c lo hi : Nat) (h1 : lo ≤ hi) (h2 : hi ≤ c) (w : World) :
    (Instr.slice 22 (.slice a n c) (some (.int .i64 (lo : Int))) (some (.int .i64 (hi : Int))) none).run Try.prog w = .ok (.slice (if c = lo then a else a.map (·.add lo)) (hi - lo) (c - lo)) w := by
  go_simp

/-- a part of a slice, its address by a name -/
theorem slice_rd {w : World} {a : Option Addr} {n : Nat} {l : List Nat} (h : Rd w a n l) (c lo hi : Nat) (hc : n ≤ c) (h1 : lo ≤ hi) (h2 : hi ≤ n) :
    ∃ a', (∀ wx, (Instr.slice 22 (.slice a n c) (some (.int .i64 (lo : Int))) (some (.int .i64 (hi : Int))) none).run Try.prog wx = .ok (.slice a' (hi - lo) (c - lo)) wx) ∧ Rd w a' (hi - lo) ((l.take hi).drop lo) :=
  ⟨_, slice_run a n c lo hi h1 (by omega), h.cut c lo hi hc h1 h2⟩

theorem slice0_run (a : Option Addr) (n c hi : Nat) (h2 : hi ≤ c) (w : World) :
    (Instr.slice 22 (.slice a n c) none (some (.int .i64 (hi : Int))) none).run Try.prog w = .ok (.slice (if c = 0 then a else a.map (·.add 0)) hi c) w := by
  go_simp

/-- the front of a slice -/
theorem slice0_rd {w : World} {a : Option Addr} {n : Nat} {l : List Nat} (h : Rd w a n l) (c hi : Nat) (hc : n ≤ c) (h2 : hi ≤ n) :
    ∃ a', (∀ wx, (Instr.slice 22 (.slice a n c) none (some (.int .i64 (hi : Int))) none).run Try.prog wx = .ok (.slice a' hi c) wx) ∧ Rd w a' hi (l.take hi) :=
  ⟨_, slice0_run a n c hi (by omega), by simpa using h.cut c 0 hi hc (Nat.zero_le _) h2⟩

theorem Own.rdn {w : World} {g : Nat} {l : List Nat} (h : Own w g l) (n : Nat) (hn : n = l.length) (hs : n < 281474976710656) (hd : ∀ d ∈ l, d < 256) : Rd w (some ⟨g, 0, none⟩) n l := by
  subst hn; exact h.rd hs hd

/-- twin, its block by a name -/
theorem twin_ex (a : Option Addr) (n c : Nat) (l : List Nat) (w : World) (h : Rd w a n l) :
    Calls Try.prog 22 #[.slice a n c] w fun e w' => ∃ g, e = .returned (.slice (some ⟨g, 0, none⟩) n n) ∧ w.heap.size ≤ g ∧ Own w' g l ∧ Rd w' (some ⟨g, 0, none⟩) n l ∧ Below w.heap.size w w' :=
  (twin_any a n c l w h).mono fun _ _ ⟨he, _, ho, hb⟩ => ⟨_, he, Nat.le_refl _, ho, ho.rdn n h.1 h.2.1 h.2.2.1, hb⟩

theorem Own.keep {w w' : World} {g : Nat} {l : List Nat} (h : Own w g l) (hb : Below w.heap.size w w') : Own w' g l := h.below hb h.lt
theorem Rd.keep {w w' : World} {a : Option Addr} {n : Nat} {l : List Nat} (h : Rd w a n l) (hb : Below w.heap.size w w') : Rd w' a n l := h.below (Nat.le_refl _) hb
theorem further {w0 w w' : World} (h : Below w0.heap.size w0 w) (hb : Below w.heap.size w w') : Below w0.heap.size w0 w' := h.trans (hb.mono h.size)

/-- the rest of a slice of the call's own -/
theorem slice_tail (g n p : Nat) (hp : p ≤ n) : ∃ a', (∀ wx, (Instr.slice 22 (.slice (some ⟨g, 0, none⟩) n n) (some (.int .i64 (p : Int))) none none).run Try.prog wx = .ok (.slice a' (n - p) (n - p)) wx) ∧ (0 < n - p → a' = some ⟨g, p, none⟩) := by
  refine ⟨if n = p then some ⟨g, 0, none⟩ else some ⟨g, p, none⟩, fun wx => ?_, fun h => by rw [if_neg (by omega)]⟩
  by_cases h : n = p
  · subst h; go_simp
  · rw [if_neg h]
    go_simp

theorem min_run (x y : Int) (q : Int) (h : (if y < x then y else x) = q) : ∀ (ts : Array TypeId) (t : TypeId) (w : World), (Builtin.min_ ts t #[.int .i64 x, .int .i64 y]).run Try.prog w = .ok (.int .i64 q) w := fun ts t w => by
  rw [run_min_int2, h]

theorem Rd.srcAll {w : World} {a : Option Addr} {n : Nat} {l : List Nat} (h : Rd w a n l) : 0 < (B8 l).length → ∃ ad, a = some ad ∧ ∀ j v, (B8 l)[j]? = some v → w.cell? (ad.add j) = some v := by
  have := h.src n
  rwa [List.take_of_length_le (by have := h.1; omega)] at this

theorem splice_B8 (l m : List Nat) (p : Nat) : splice (B8 l) p (B8 m) = B8 (l.take p ++ (m ++ l.drop (p + m.length))) := by
  unfold splice
  rw [B8_take, B8_length, B8_drop, B8_append, B8_append]

end Go.Proofs.Ytciehainhhkikaa
