/- Contracts of the document's by, Moved, Join. -/
import Derived.Test.YtciehainhhkikaaRef
import Derived.Deep.WholeRow
import Derived.Deep.RegionHeld3
namespace Go.Proofs.Ytciehainhhkikaa
open Go.RowKit

theorem bit32_at (m k : Nat) (hm : m < 4294967296) : bits .and .u32 ((m : Int) / 2 ^ k) 1 = ((m / 2 ^ k % 2 : Nat) : Int) := by
  have h := u32_and_nat (m / 2 ^ k) 1 (Nat.lt_of_le_of_lt (Nat.div_le_self _ _) hm) (by decide)
  rw [nat_mask1] at h
  rw [← h]
  congr 1

/-- 32 numbers as cells -/
def A32 (T : Nat → Nat) : Array Value := Array.ofFn (n := 32) fun i => .int .u32 ((T i.val : Nat) : Int)
theorem A32_size (T : Nat → Nat) : (A32 T).size = 32 := by simp [A32]
theorem A32_at (T : Nat → Nat) (i : Nat) (h : i < 32) : (A32 T)[i]? = some (.int .u32 ((T i : Nat) : Int)) := by simp [A32, h]
theorem A32_one (T : Nat → Nat) : (A32 T).all (·.oneCell') = true := by
  have h : ∀ v ∈ A32 T, v.oneCell' = true := by
    intro v hv
    unfold A32 at hv
    rw [Array.mem_ofFn] at hv
    obtain ⟨i, rfl⟩ := hv
    rfl
  rw [Array.all_eq_true']
  exact h
theorem A32_set (T : Nat → Nat) (k x : Nat) (h : k < 32) : (A32 T).setIfInBounds k (.int .u32 ((x : Nat) : Int)) = A32 (fun i => if i = k then x else T i) := by
  apply Array.ext_getElem?
  intro i
  rw [Array.getElem?_setIfInBounds]
  by_cases hi : i < 32
  · rw [A32_at _ _ hi, A32_at _ _ hi]
    by_cases e : k = i
    · subst e; simp [A32_size, h]
    · rw [if_neg e, if_neg (fun e' => e e'.symm)]
  · have hs := A32_size T
    have hs' := A32_size (fun i => if i = k then x else T i)
    rw [if_neg (by omega), Array.getElem?_eq_none (by omega), Array.getElem?_eq_none (by omega)]

set_option maxHeartbeats 1000000 in
theorem by_any (T : Nat → Nat) (x : Nat) (hT : ∀ i, i < 32 → T i < 4294967296) (hx : x < 4294967296) (w : World) :
    Calls Try.prog 32 #[.agg (A32 T), .int .u32 (x : Int)] w fun e w' => e = .returned (.int .u32 (M.byTo T x 32 : Nat)) ∧ Below w.heap.size w w' := by
  have hat := A32_at T
  have HA := hide hat
  have HT := hide hT
  clear hat hT
  generalize A32 T = t at *
  go_enter Try.func32, Try.ntmps32
  go_wp2
  go_loop [5, 6] (fun y i => ∃ k : Nat, k ≤ 32 ∧ i = .int .i64 k ∧ y = .int .u32 (M.byTo T x k : Nat)) (fun _ i => 32 - (intOf i).toNat)
  case atStart => exact ⟨0, by omega, rfl, rfl⟩
  case round =>
    obtain ⟨k, hk, rfl, rfl⟩ := hrel
    by_cases hlt : k < 32
    · have hb := bit32_at x k hx
      have hc := HA.out k hlt
      have hl := M.byTo_lt T x k (fun j hj => HT.out j (by omega))
      have hx2 := xor32 _ _ hl (HT.out k hlt)
      by_cases h1 : x / 2 ^ k % 2 = 1
      · have HB : Hid (M.byTo T x (k + 1) = M.byTo T x k ^^^ T k) := by show _ = _; rw [M.byTo, if_pos h1]
        rw [h1] at hb
        clear h1
        go_wp2
        exact ⟨⟨k + 1, by omega, by go_num, by rw [HB.out]⟩, by simp [intOf]; omega⟩
      · have HB : Hid (M.byTo T x (k + 1) = M.byTo T x k) := by show _ = _; rw [M.byTo, if_neg h1, Nat.xor_zero]
        rw [show x / 2 ^ k % 2 = 0 by omega] at hb
        clear h1
        go_wp2
        exact ⟨⟨k + 1, by omega, by go_num, by rw [HB.out]⟩, by simp [intOf]; omega⟩
    · obtain rfl : k = 32 := by omega
      go_wp2
      go_ret
      exact ⟨rfl, (Below.refl _ _).alloc (Nat.le_refl _) _⟩

theorem info_a32 : (Try.prog.info? 51).map (fun i => (i.zero, i.size)) = some (some (.agg (Array.replicate 32 (.int .u32 0))), 32) := by kernel_rfl
theorem zero_a32 (w : World) : (zeroValue 51).run Try.prog w = .ok (.agg (A32 fun _ => 0)) w := by
  have e : (Array.replicate 32 (Value.int .u32 0)) = A32 fun _ => 0 := by
    unfold A32
    apply Array.ext
    · simp
    · intro i h1 h2
      simp
  rw [← e]; exact (zero_of_info info_a32).1 w
theorem size_a32 (T : Nat → Nat) : (Try.prog.info? 51).map (·.size) = some (A32 T).size := by rw [A32_size]; exact (zero_of_info info_a32).2

/-- a block of 32 numbers -/
def Own32 (w : World) (g : Nat) (T : Nat → Nat) : Prop := w.heap[g]? = some (.cells (A32 T) 51 (0, 0))

theorem Own32.lt {w : World} {g : Nat} {T : Nat → Nat} (h : Own32 w g T) : g < w.heap.size := by
  rcases Nat.lt_or_ge g w.heap.size with h' | h'
  · exact h'
  · rw [Own32, Array.getElem?_eq_none h'] at h; cases h
theorem Own32.keep {w w' : World} {g : Nat} {T : Nat → Nat} (h : Own32 w g T) (hb : Below w.heap.size w w') : Own32 w' g T := by
  rw [Own32, hb.block g h.lt]; exact h
theorem Own32.cell {w : World} {g : Nat} {T : Nat → Nat} (h : Own32 w g T) (i : Nat) (hi : i < 32) : w.cell? ⟨g, i, none⟩ = some (.int .u32 ((T i : Nat) : Int)) := by
  rw [cell_of_row _ _ i _ _ _ h, A32_at T i hi]
theorem Own32.free {w : World} {g : Nat} {T : Nat → Nat} (h : Own32 w g T) (i : Nat) : w.frozen? ⟨g, i, none⟩ = false := frozen_of_row w g i _ _ h
theorem Own32.set {w : World} {g : Nat} {T : Nat → Nat} (h : Own32 w g T) (k x : Nat) (hk : k < 32) : Own32 (w.setCell ⟨g, k, none⟩ (.int .u32 (x : Int))) g (fun i => if i = k then x else T i) := by
  rw [Own32, heap_setCell_same w g k _ _ _ h, A32_set T k x hk]
theorem Own32.other {w : World} {g g' : Nat} {T : Nat → Nat} (h : Own32 w g T) (hg : g ≠ g') (k : Nat) (v : Value) : Own32 (w.setCell ⟨g', k, none⟩ v) g T := by
  rw [Own32, heap_setCell_other w ⟨g', k, none⟩ g v hg]; exact h
theorem Own32.ext {w : World} {g : Nat} {T U : Nat → Nat} (h : Own32 w g T) (e : ∀ i, i < 32 → T i = U i) : Own32 w g U := by
  have : A32 T = A32 U := by
    unfold A32
    apply Array.ext
    · simp
    · intro i h1 h2
      simp at h1
      simp [e i h1]
  rw [Own32, ← this]; exact h

theorem one_byte (w : World) (t : TypeId) : Rd (w.alloc (.cells #[.int .u8 0] t)) (some ⟨w.heap.size, 0, none⟩) 1 [0] := by
  refine ⟨rfl, by decide, by decide, .inr ⟨_, _, rfl, fun i hi => ?_⟩⟩
  obtain rfl : i = 0 := by omega
  rw [World.cell?_alloc_at _ _ _ _ rfl]
  rfl

theorem shl_one (k : Nat) (h : k < 32) : (2 ^ k % 4294967296 : Int) = ((2 ^ k : Nat) : Int) := by
  have hp : 2 ^ k < 4294967296 := Nat.pow_lt_pow_right (n := 32) (by omega) h
  have e : ((2 ^ k : Nat) : Int) = (2 : Int) ^ k := by simp
  rw [← e]
  exact Int.emod_eq_of_lt (Int.natCast_nonneg _) (Int.ofNat_lt.2 hp)

/-- 32 numbers as the region takes them: a list of cells by a name -/
structure Cells32 (p : Nat) (cs : List Value) : Prop where
  info : (Try.prog.info? 51).map (·.size) = some cs.length
  len : cs.length = 32
  one : ∀ v ∈ cs, v.oneCell' = true
  range : ∀ w g, Own32 w g (fun i => M.itZ p (2 ^ i)) → w.rangeAt g 0 cs
  call : ∀ k, k < 32 → ∀ W, Calls Try.prog 32 #[.agg cs.toArray, .int .u32 ((M.itZ p (2 ^ k) : Nat) : Int)] W fun e w' => e = .returned (.int .u32 ((M.itZ (2 * p) (2 ^ k) : Nat) : Int)) ∧ Below W.heap.size W w'

theorem cells32 (p : Nat) : ∃ cs, Cells32 p cs := by
  refine ⟨(A32 fun i => M.itZ p (2 ^ i)).toList, ?_, ?_, ?_, ?_, ?_⟩
  · rw [Array.length_toList]; exact size_a32 _
  · rw [Array.length_toList, A32_size]
  · exact fun v hv => (Array.all_eq_true_iff_forall_mem.1 (A32_one _)) v (by simpa using hv)
  · intro w g h j v hj
    rw [Nat.zero_add, cell_of_row _ _ j _ _ _ h]
    rw [Array.getElem?_toList] at hj
    exact hj
  · intro k hk W
    have hlt : ∀ i, i < 32 → M.itZ p (2 ^ i) < 4294967296 := fun i hi => M.itZ_lt p (Nat.pow_lt_pow_right (n := 32) (by omega) hi)
    have h := by_any (fun i => M.itZ p (2 ^ i)) (M.itZ p (2 ^ k)) hlt (hlt k hk) W
    rw [M.by_all _ _ p (hlt k hk) (fun j _ => rfl), ← M.itZ_add, ← Nat.two_mul] at h
    have e : (A32 fun i => M.itZ p (2 ^ i)).toList.toArray = A32 fun i => M.itZ p (2 ^ i) := Array.toArray_toList
    rw [e]
    exact h

/-- what the inner loop's region reads, behind the call -/
theorem held_call {W w2 : World} {g k : Nat} {cs : List Value} {v : Value} (hb : Below W.heap.size W w2) (h1 : W.rangeAt g 0 cs) (h2 : W.cell? ⟨g, k, none⟩ = some v) :
    w2.rangeAt g 0 cs ∧ w2.cell? ⟨g, k, none⟩ = some v := by
  refine ⟨fun j x hj => ?_, ?_⟩
  · have := h1 j x hj
    rw [hb.cell (p := ⟨g, 0 + j, none⟩) (block_lt_of_cell this)]; exact this
  · rw [hb.cell (p := ⟨g, k, none⟩) (block_lt_of_cell h2)]; exact h2

/-- .. and behind the store -/
theorem held_store {w2 : World} {g g7 k k7 : Nat} {cs : List Value} {v : Value} (u : Value) (hg : g < g7) (h : w2.rangeAt g 0 cs ∧ w2.cell? ⟨g, k, none⟩ = some v) :
    (w2.setCell ⟨g7, k7, none⟩ u).rangeAt g 0 cs ∧ (w2.setCell ⟨g7, k7, none⟩ u).cell? ⟨g, k, none⟩ = some v := by
  have hc : ∀ i, (w2.setCell ⟨g7, k7, none⟩ u).cell? ⟨g, i, none⟩ = w2.cell? ⟨g, i, none⟩ := fun i => World.cell?_of_block (w := w2) (heap_setCell_other w2 ⟨g7, k7, none⟩ g u (by show g ≠ g7; omega))
  exact ⟨fun j x hj => by rw [hc]; exact h.1 j x hj, by rw [hc]; exact h.2⟩

set_option maxHeartbeats 2000000 in
set_option maxRecDepth 100000 in
theorem refMoved_any (x n : Nat) (hx : x < 4294967296) (hn : n < 9223372036854775808) (w : World) :
    Calls Try.prog 28 #[.int .u32 (x : Int), .int .i64 (n : Int)] w fun e w' => e = .returned (.int .u32 (M.itZ (8 * n) x : Nat)) ∧ Below w.heap.size w w' := by
  have hz := zero_a32
  go_enter Try.func28, Try.ntmps28
  go_wp2
  have ho1 : Own32 (w.alloc (.cells (A32 fun _ => 0) 51)) w.heap.size (fun i => if i < 0 then M.itZ 8 (2 ^ i) else 0) := heap_alloc_new _ _
  have hb1 : Below w.heap.size w (w.alloc (.cells (A32 fun _ => 0) 51)) := (Below.refl _ _).alloc (Nat.le_refl _) _
  have hg : w.heap.size ≤ w.heap.size := Nat.le_refl _
  generalize w.alloc (.cells (A32 fun _ => 0) 51) = w1 at *
  generalize hgg : w.heap.size = g at *
  have HGG := hide hgg
  clear hgg hg
  go_loopw [6] (fun i wx => ∃ k : Nat, k ≤ 32 ∧ i = .int .i64 k ∧ Own32 wx g (fun i => if i < k then M.itZ 8 (2 ^ i) else 0) ∧ Below g w wx) (fun i _ => 32 - (intOf i).toNat)
  case atStart => exact ⟨0, by omega, rfl, ho1, hb1⟩
  case round =>
    obtain ⟨k, hk, rfl, ho, hb⟩ := hrel
    have HO := hide ho
    have HB := hide hb
    clear ho hb ho1 hb1
    by_cases hlt : k < 32
    · have hc := HO.out.cell k hlt
      have hf := HO.out.free k
      have hgl := HO.out.lt
      obtain ⟨q, hq⟩ : ∃ q, q = 2 ^ k := ⟨_, rfl⟩
      have hsh := shl_one k hlt
      rw [← hq] at hsh
      have hq32 : q < 4294967296 := by rw [hq]; exact Nat.pow_lt_pow_right (n := 32) (by omega) hlt
      have HQ := hide hq
      clear hq
      rw [if_neg (by omega)] at hc
      go_wp2_with fail
      refine (take_any q hq32 _ _ _ _ _ (one_byte wr _)).mono ?_
      rintro e w' ⟨rfl, hw'⟩
      subst hw'
      go_wp2
      have he : M.eat q [0] = M.itZ 8 (2 ^ k) := by rw [← HQ.out]; show M.itZ 8 (q ^^^ 0) = _; rw [Nat.xor_zero]
      refine ⟨⟨k + 1, by omega, by go_num, ?_, ?_⟩, by simp [intOf]; omega⟩
      · refine ((HO.out.set k _ hlt).keep ((Below.refl _ _).alloc (Nat.le_refl _) _)).ext fun i hi => ?_
        rw [he]
        by_cases e : i = k
        · rw [if_pos e, if_pos (by omega), e]
        · rw [if_neg e]
          by_cases e2 : i < k
          · rw [if_pos e2, if_pos (by omega)]
          · rw [if_neg e2, if_neg (by omega)]
      · exact (HB.out.setCell (Nat.le_refl _) _).alloc (by simp; omega) _
    · obtain rfl : k = 32 := by omega
      have ho2 := HO.out.ext (U := fun i => M.itZ 8 (2 ^ i)) (fun i hi => by rw [if_pos hi])
      have HO2 := hide ho2
      clear ho2 HO
      rw [show ((32 : Nat) : Int) = 32 from rfl]
      go_wp2
      go_loopw [0, 1] (fun x' n' wx => ∃ m y p : Nat, m < 9223372036854775808 ∧ y < 4294967296 ∧ x' = .int .u32 (y : Nat) ∧ n' = .int .i64 (m : Nat) ∧ Own32 wx g (fun i => M.itZ p (2 ^ i)) ∧ Below g w wx ∧ M.itZ (m * p) y = M.itZ (8 * n) x) (fun _ n' _ => (intOf n').toNat)
      case atStart => exact ⟨n, x, 8, hn, hx, rfl, rfl, HO2.out, HB.out, by rw [Nat.mul_comm]⟩
      case round =>
        obtain ⟨m, y, p, hm, hy, rfl, rfl, ho, hb, hq⟩ := hrel
        have HO := hide ho
        have HBB := hide hb
        have HQ := hide hq
        clear ho hb hq HB HO2
        by_cases hlt : 0 < m
        · have hpos : decide ((0 : Int) < (m : Int)) = true := decide_eq_true (by omega)
          by_cases hodd : m % 2 = 1
          · have hod : ((m : Int) % 2 == 1) = true := by rw [beq_iff_eq]; omega
            have HS : Hid (M.itZ (m / 2 * (2 * p)) (M.itZ p y) = M.itZ (m * p) y) := by
              have h := step_odd m p y hodd hy
              rw [M.tm_moved y p hy] at h; exact h
            have HBY : Hid (M.byTo (fun i => M.itZ p (2 ^ i)) y 32 = M.itZ p y) := M.by_all _ y p hy (fun j _ => rfl)
            have HLT : Hid (∀ i, i < 32 → (fun i => M.itZ p (2 ^ i)) i < 4294967296) := fun i hi => M.itZ_lt p (Nat.pow_lt_pow_right (n := 32) (by omega) hi)
            clear hodd
            go_wp2_with (refine wpList_load_row rfl 51 _ rfl g rfl 51 (A32 fun i => M.itZ p (2 ^ i)) (0, 0) _ HO.out Try.underlying51 rfl (size_a32 _) ?_)
            refine (by_any _ y HLT.out hy _).mono ?_
            rintro e w2 ⟨rfl, hb2⟩
            rw [HBY.out]
            have HO2 := hide (HO.out.keep hb2)
            have HB2 := hide (HBB.out.trans (hb2.mono (by have h1 := HBB.out.size; have h2 := HGG.out; omega)))
            clear hb2 HBB HO HBY
            have ho3 : Own32 (w2.alloc (.cells (A32 fun _ => 0) 51)) w2.heap.size (fun i => if i < 0 then M.itZ (2 * p) (2 ^ i) else 0) := heap_alloc_new _ _
            have hb3 : Below w2.heap.size w2 (w2.alloc (.cells (A32 fun _ => 0) 51)) := (Below.refl _ _).alloc (Nat.le_refl _) _
            have ho5 := HO2.out.keep hb3
            have hb4 := HB2.out.trans (hb3.mono (by have h1 := HB2.out.size; have h2 := HGG.out; omega))
            have hg7 : g < w2.heap.size := HO2.out.lt
            clear hb3
            go_wp2_with fail
            generalize w2.alloc (.cells (A32 fun _ => 0) 51) = w3 at *
            generalize w2.heap.size = g7 at *
            have HLT : Hid (∀ i, i < 32 → (fun i => M.itZ p (2 ^ i)) i < 4294967296) := fun i hi => M.itZ_lt p (Nat.pow_lt_pow_right (n := 32) (by omega) hi)
            go_loopw [8] (fun i wx => ∃ k : Nat, k ≤ 32 ∧ i = .int .i64 k ∧ Own32 wx g (fun i => M.itZ p (2 ^ i)) ∧ Own32 wx g7 (fun i => if i < k then M.itZ (2 * p) (2 ^ i) else 0) ∧ Below g w wx) (fun i _ => 32 - (intOf i).toNat)
            case atStart => exact ⟨0, by omega, rfl, ho5, ho3, hb4⟩
            case round =>
              obtain ⟨k, hk, rfl, h5, h7, hb5⟩ := hrel
              have H5 := hide h5
              have H7 := hide h7
              have HB5 := hide hb5
              have HG7 := hide hg7
              clear h5 h7 hb5 ho3 ho5 hb4 hg7
              by_cases hk32 : k < 32
              · have hdk : decide ((k : Int) < 32) = true := decide_eq_true (by omega)
                have hk0 : (0 : Int) ≤ (k : Int) := Int.natCast_nonneg _
                have hki : (k : Int) < 32 := by omega
                have hu := Try.underlying51
                obtain ⟨cs, HCS⟩ := cells32 p
                have hi := HCS.info
                have hl := HCS.len
                have h1c := HCS.one
                have hrange := HCS.range _ _ H5.out
                have HC := hide (HCS.call k hk32)
                have hc5 := H5.out.cell k hk32
                have hc7 := H7.out.cell k hk32
                have hf7 := H7.out.free k
                clear HCS
                generalize M.itZ p (2 ^ k) = tv at *
                generalize hnv : M.itZ (2 * p) (2 ^ k) = nv at *
                have HNV := hide hnv
                clear hnv
                generalize (Value.int .u32 ((if k < k then nv else 0 : Nat) : Int)) = ov at *
                go_wp2_with fail
                go_region_held3 (fun w' => w'.rangeAt g 0 cs ∧ w'.cell? ⟨g, k, none⟩ = some (.int .u32 (tv : Int))) (first | go_keep_ranges | (exact held_call (W := wr.drew) hb6 hrange hc5) | (exact held_store _ HG7.out (held_call (W := wr.drew) hb6 hrange hc5))) ((go_at_call 32; refine (HC.out _).mono ?_; rintro e w6 ⟨rfl, hb6⟩; have c7 := (hb6.cell (p := ⟨g7, k, none⟩) (block_lt_of_cell hc7)).trans hc7; have f7 := (hb6.frozen (p := ⟨g7, k, none⟩) (block_lt_of_cell hc7)).trans hf7))
                have hb6' : Below wr.heap.size wr w6 := (Below.refl wr.heap.size wr).drew.trans hb6
                go_wp2
                refine ⟨⟨k + 1, by omega, by go_num, ?_, ?_, ?_⟩, by simp [intOf]; omega⟩
                · exact (H5.out.keep hb6').other (by have := HG7.out; omega) _ _
                · refine ((H7.out.keep hb6').set k nv hk32).ext fun i _ => ?_
                  by_cases e : i = k
                  · rw [if_pos e, if_pos (by omega), e, HNV.out]
                  · rw [if_neg e]
                    by_cases e2 : i < k
                    · rw [if_pos e2, if_pos (by omega)]
                    · rw [if_neg e2, if_neg (by omega)]
                · exact (HB5.out.trans (hb6'.mono (by have h1 := HB5.out.size; have h2 := HGG.out; omega))).setCell (by show g ≤ g7; have := HG7.out; omega) _
              · obtain rfl : k = 32 := by omega
                have h7 := H7.out.ext (U := fun i => M.itZ (2 * p) (2 ^ i)) (fun i hi => by rw [if_pos hi])
                have H7' := hide h7
                have HSZ : Hid ((A32 fun i => M.itZ p (2 ^ i)).size = (A32 fun i => M.itZ (2 * p) (2 ^ i)).size) := by show _ = _; rw [A32_size, A32_size]
                clear h7 H7
                go_wp2_with (first | (refine wpList_load_row rfl 51 _ rfl g7 rfl 51 (A32 fun i => M.itZ (2 * p) (2 ^ i)) (0, 0) _ H7'.out Try.underlying51 rfl (size_a32 _) ?_) | (refine wpList_store_row rfl 51 _ _ rfl g (A32 fun i => M.itZ (2 * p) (2 ^ i)) rfl rfl 51 _ H5.out (size_a32 _) HSZ.out (A32_one _) ?_))
                exact ⟨⟨m / 2, M.itZ p y, 2 * p, by omega, M.itZ_lt p hy, rfl, by go_num, setRow_heap _ _ _ _ _ _ H5.out, below_setRow HB5.out _ _ (Nat.le_refl _), by rw [HS.out, HQ.out]⟩, by simp [intOf]; omega⟩
          · have hod : ((m : Int) % 2 == 1) = false := by rw [beq_eq_false_iff_ne]; omega
            have HS : Hid (M.itZ (m / 2 * (2 * p)) y = M.itZ (m * p) y) := step_even m p y hodd
            clear hodd
            have ho3 : Own32 (wr.alloc (.cells (A32 fun _ => 0) 51)) wr.heap.size (fun i => if i < 0 then M.itZ (2 * p) (2 ^ i) else 0) := heap_alloc_new _ _
            have hb3 : Below wr.heap.size wr (wr.alloc (.cells (A32 fun _ => 0) 51)) := (Below.refl _ _).alloc (Nat.le_refl _) _
            have ho5 := HO.out.keep hb3
            have hb4 := HBB.out.trans (hb3.mono (by have h1 := HBB.out.size; have h2 := HGG.out; omega))
            have hg7 : g < wr.heap.size := HO.out.lt
            clear hb3
            go_wp2_with fail
            clear hod
            generalize wr.alloc (.cells (A32 fun _ => 0) 51) = w3 at *
            generalize wr.heap.size = g7 at *
            have HLT : Hid (∀ i, i < 32 → (fun i => M.itZ p (2 ^ i)) i < 4294967296) := fun i hi => M.itZ_lt p (Nat.pow_lt_pow_right (n := 32) (by omega) hi)
            go_loopw [8] (fun i wx => ∃ k : Nat, k ≤ 32 ∧ i = .int .i64 k ∧ Own32 wx g (fun i => M.itZ p (2 ^ i)) ∧ Own32 wx g7 (fun i => if i < k then M.itZ (2 * p) (2 ^ i) else 0) ∧ Below g w wx) (fun i _ => 32 - (intOf i).toNat)
            case atStart => exact ⟨0, by omega, rfl, ho5, ho3, hb4⟩
            case round =>
              obtain ⟨k, hk, rfl, h5, h7, hb5⟩ := hrel
              have H5 := hide h5
              have H7 := hide h7
              have HB5 := hide hb5
              have HG7 := hide hg7
              clear h5 h7 hb5 ho3 ho5 hb4 hg7
              by_cases hk32 : k < 32
              · have hdk : decide ((k : Int) < 32) = true := decide_eq_true (by omega)
                have hk0 : (0 : Int) ≤ (k : Int) := Int.natCast_nonneg _
                have hki : (k : Int) < 32 := by omega
                have hu := Try.underlying51
                obtain ⟨cs, HCS⟩ := cells32 p
                have hi := HCS.info
                have hl := HCS.len
                have h1c := HCS.one
                have hrange := HCS.range _ _ H5.out
                have HC := hide (HCS.call k hk32)
                have hc5 := H5.out.cell k hk32
                have hc7 := H7.out.cell k hk32
                have hf7 := H7.out.free k
                clear HCS
                generalize M.itZ p (2 ^ k) = tv at *
                generalize hnv : M.itZ (2 * p) (2 ^ k) = nv at *
                have HNV := hide hnv
                clear hnv
                generalize (Value.int .u32 ((if k < k then nv else 0 : Nat) : Int)) = ov at *
                go_wp2_with fail
                go_region_held3 (fun w' => w'.rangeAt g 0 cs ∧ w'.cell? ⟨g, k, none⟩ = some (.int .u32 (tv : Int))) (first | go_keep_ranges | (exact held_call (W := wr.drew) hb6 hrange hc5) | (exact held_store _ HG7.out (held_call (W := wr.drew) hb6 hrange hc5))) ((go_at_call 32; refine (HC.out _).mono ?_; rintro e w6 ⟨rfl, hb6⟩; have c7 := (hb6.cell (p := ⟨g7, k, none⟩) (block_lt_of_cell hc7)).trans hc7; have f7 := (hb6.frozen (p := ⟨g7, k, none⟩) (block_lt_of_cell hc7)).trans hf7))
                have hb6' : Below wr.heap.size wr w6 := (Below.refl wr.heap.size wr).drew.trans hb6
                go_wp2
                refine ⟨⟨k + 1, by omega, by go_num, ?_, ?_, ?_⟩, by simp [intOf]; omega⟩
                · exact (H5.out.keep hb6').other (by have := HG7.out; omega) _ _
                · refine ((H7.out.keep hb6').set k nv hk32).ext fun i _ => ?_
                  by_cases e : i = k
                  · rw [if_pos e, if_pos (by omega), e, HNV.out]
                  · rw [if_neg e]
                    by_cases e2 : i < k
                    · rw [if_pos e2, if_pos (by omega)]
                    · rw [if_neg e2, if_neg (by omega)]
                · exact (HB5.out.trans (hb6'.mono (by have h1 := HB5.out.size; have h2 := HGG.out; omega))).setCell (by show g ≤ g7; have := HG7.out; omega) _
              · obtain rfl : k = 32 := by omega
                have h7 := H7.out.ext (U := fun i => M.itZ (2 * p) (2 ^ i)) (fun i hi => by rw [if_pos hi])
                have H7' := hide h7
                have HSZ : Hid ((A32 fun i => M.itZ p (2 ^ i)).size = (A32 fun i => M.itZ (2 * p) (2 ^ i)).size) := by show _ = _; rw [A32_size, A32_size]
                clear h7 H7
                go_wp2_with (first | (refine wpList_load_row rfl 51 _ rfl g7 rfl 51 (A32 fun i => M.itZ (2 * p) (2 ^ i)) (0, 0) _ H7'.out Try.underlying51 rfl (size_a32 _) ?_) | (refine wpList_store_row rfl 51 _ _ rfl g (A32 fun i => M.itZ (2 * p) (2 ^ i)) rfl rfl 51 _ H5.out (size_a32 _) HSZ.out (A32_one _) ?_))
                exact ⟨⟨m / 2, y, 2 * p, by omega, hy, rfl, by go_num, setRow_heap _ _ _ _ _ _ H5.out, below_setRow HB5.out _ _ (Nat.le_refl _), by rw [HS.out, HQ.out]⟩, by simp [intOf]; omega⟩
        · obtain rfl : m = 0 := by omega
          go_wp2
          go_ret
          refine ⟨ret_int (by rw [← HQ.out, Nat.zero_mul]; rfl), ?_⟩
          rw [HGG.out]; exact HBB.out

theorem refMoved_int (x : Nat) (n : Int) (hx : x < 4294967296) (h0 : 0 ≤ n) (hn : n ≤ 9223372036854775807) (w : World) :
    Calls Try.prog 28 #[.int .u32 (x : Int), .int .i64 n] w fun e w' => e = .returned (.int .u32 (M.itZ (8 * n.toNat) x : Nat)) ∧ Below w.heap.size w w' := by
  obtain ⟨m, rfl⟩ := Int.eq_ofNat_of_zero_le h0
  rw [Int.toNat_natCast]
  exact refMoved_any x m hx (by omega) w

theorem refJoin_any (a b n : Nat) (ha : a < 4294967296) (hb : b < 4294967296) (hn : n < 9223372036854775808) (w : World) :
    Calls Try.prog 18 #[.int .u32 (a : Int), .int .u32 (b : Int), .int .i64 (n : Int)] w fun e w' => e = .returned (.int .u32 (M.itZ (8 * n) a ^^^ b : Nat)) ∧ Below w.heap.size w w' := by
  have hx := xor32 _ _ (M.itZ_lt (8 * n) ha) hb
  go_enter Try.func18, Try.ntmps18
  go_wp2_with fail
  refine (refMoved_any _ _ ha hn _).mono ?_
  rintro e w1 ⟨rfl, hb1⟩
  go_wp2
  go_ret
  exact ⟨rfl, hb1⟩

theorem refJoin_neg (a b : Int) (n : Int) (hn : n < 0) (w : World) :
    Calls Try.prog 18 #[.int .u32 a, .int .u32 b, .int .i64 n] w fun e w' => e = .returned (.int .u32 0) ∧ w' = w := by
  go_enter Try.func18, Try.ntmps18
  go_wp2
  go_ret
  exact ⟨rfl, rfl⟩

end Go.Proofs.Ytciehainhhkikaa
