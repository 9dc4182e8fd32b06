/- Contracts of the sum, as chapter 1's texts have them, over the memory's words of chapter 5: zeroBit, table, More, Sum. -/
import Derived.Test.YthfnpbkclmkkeaaDOp
import Derived.Test.YthfnpbkclmkkeaaMath
import Derived.Deep.WholeRow
namespace Go.Proofs.Ythfnpbkclmkkeaa
open Go.RowKit

theorem xor32 (a b : Nat) (ha : a < 4294967296) (hb : b < 4294967296) : bits .xor .u32 (a : Int) (b : Int) = ((a ^^^ b : Nat) : Int) := u32_xor_nat a b ha hb

theorem zeroBit_any (r : Nat) (hr : r < 4294967296) (w : World) :
    Calls Try.prog 95 #[.int .u32 (r : Int)] w fun e w' => e = .returned (.int .u32 (M.Z r : Nat)) ∧ w' = w := by
  have ha : bits .and .u32 (r : Int) 1 = ((r % 2 : Nat) : Int) := by
    have := u32_and_nat r 1 hr (by decide)
    rw [nat_mask1] at this; exact this
  have hx : bits .xor .u32 ((r : Int) / 2) 2197175160 = ((r / 2 ^^^ 2197175160 : Nat) : Int) := xor32 (r / 2) 2197175160 (by omega) (by decide)
  by_cases h : r % 2 = 1
  · have hz : M.Z r = r / 2 ^^^ 2197175160 := by unfold M.Z; rw [if_pos h]
    go_enter Try.func95, Try.ntmps95
    go_wp2
    go_ret
    exact ⟨ret_int (by rw [hz]), rfl⟩
  · have hz : M.Z r = r / 2 := by unfold M.Z; rw [if_neg h]
    go_enter Try.func95, Try.ntmps95
    go_wp2
    go_ret
    exact ⟨ret_int (by omega), rfl⟩

/-- the cells of the table when k of them are done -/
def tabTo (k : Nat) : Array Value := Array.ofFn (n := 256) fun i => .int .u32 ((if i.val < k then M.itZ 8 i.val else 0 : Nat) : Int)
def zeroRow : Array Value := tabTo 0

theorem zeroRow_eq : (Array.replicate 256 (Value.int .u32 0)) = zeroRow := by
  unfold zeroRow tabTo
  apply Array.ext
  · simp
  · intro i h1 h2
    simp

theorem tab_size (k : Nat) : (tabTo k).size = 256 := by simp [tabTo]

theorem tab_at (k i : Nat) (h : i < 256) : (tabTo k)[i]? = some (.int .u32 ((if i < k then M.itZ 8 i else 0 : Nat) : Int)) := by
  simp [tabTo, h]

theorem tab_set (k : Nat) (h : k < 256) : (tabTo k).setIfInBounds k (.int .u32 ((M.itZ 8 k : Nat) : Int)) = tabTo (k + 1) := by
  apply Array.ext_getElem?
  intro i
  rw [Array.getElem?_setIfInBounds]
  by_cases hi : i < 256
  · rw [tab_at _ _ hi, tab_at _ _ hi]
    by_cases e : k = i
    · subst e; simp [tab_size, h]
    · rw [if_neg e]
      congr 3
      by_cases h1 : i < k
      · rw [if_pos h1, if_pos (by omega)]
      · rw [if_neg h1, if_neg (by omega)]
  · have hs := tab_size k
    have hs' := tab_size (k + 1)
    rw [if_neg (by omega), Array.getElem?_eq_none (by omega), Array.getElem?_eq_none (by omega)]

theorem tab_one (k : Nat) : (tabTo k).all (·.oneCell') = true := by
  have h : ∀ v ∈ tabTo k, v.oneCell' = true := by
    intro v hv
    unfold tabTo at hv
    rw [Array.mem_ofFn] at hv
    obtain ⟨i, rfl⟩ := hv
    rfl
  rw [Array.all_eq_true']
  exact h

theorem info_tab : (Try.prog.info? 127).map (fun i => (i.zero, i.size)) = some (some (.agg (Array.replicate 256 (.int .u32 0))), 256) := by kernel_rfl
theorem zero_tab (w : World) : (zeroValue 127).run Try.prog w = .ok (.agg zeroRow) w := by rw [← zeroRow_eq]; exact (zero_of_info info_tab).1 w
theorem size_tab : (Try.prog.info? 127).map (·.size) = some 256 := (zero_of_info info_tab).2

theorem heap_setRow_other (w : World) (g k : Nat) (cs : Array Value) (h : k ≠ g) : (w.setRow g cs).heap[k]? = w.heap[k]? := by
  simp only [World.setRow, Array.getElem?_modify]
  rw [if_neg (fun e => h e.symm)]

theorem below_setRow {B : Nat} {a w : World} (h : Below B a w) (g : Nat) (cs : Array Value) (hg : B ≤ g) : Below B a (w.setRow g cs) :=
  ⟨h.os, h.tape, h.output, by rw [size_setRow]; exact h.size, fun k hk => by rw [heap_setRow_other _ _ _ _ (by omega)]; exact h.block k hk⟩

set_option maxHeartbeats 400000 in
set_option maxRecDepth 100000 in
theorem table_any (w : World) :
    Calls Try.prog 88 #[] w fun e w' => e = .returned (.agg (tabTo 256)) ∧ Below w.heap.size w w' := by
  have hz := zero_tab
  go_enter Try.func88, Try.ntmps88
  go_wp2
  go_loopw [4] (fun i wx => ∃ k : Nat, k ≤ 256 ∧ i = .int .i64 k ∧ wx = (w.alloc (.cells zeroRow 127)).alloc (.cells (tabTo k) 127)) (fun i _ => 256 - (intOf i).toNat)
  case atStart => exact ⟨0, by omega, rfl, rfl⟩
  case round =>
    obtain ⟨k, hk, rfl, rfl⟩ := hrel
    by_cases hlt : k < 256
    · have hd : decide ((k : Int) < 256) = true := decide_eq_true (by omega)
      have hkt : k < (tabTo k).size := by rw [tab_size]; exact hlt
      have HS : Hid ((tabTo k).setIfInBounds k (.int .u32 ((M.itZ 8 k : Nat) : Int)) = tabTo (k + 1)) := tab_set k hlt
      generalize tabTo k = t at *
      go_wp2
      go_loop [3, 9] (fun r j => ∃ m : Nat, m ≤ 8 ∧ j = .int .i64 m ∧ r = .int .u32 (M.itZ m k : Nat)) (fun _ j => 8 - (intOf j).toNat)
      case atStart => exact ⟨0, by omega, rfl, rfl⟩
      case round =>
        obtain ⟨m, hm, rfl, rfl⟩ := hrel
        by_cases hm8 : m < 8
        · go_wp2_with (go_at_call 95; refine (zeroBit_any _ (M.itZ_lt _ (by omega)) _).mono ?_; rintro e w' ⟨rfl, rfl⟩)
          exact ⟨⟨m + 1, by omega, by go_num, by rw [M.itZ_succ]⟩, by simp [intOf]; omega⟩
        · obtain rfl : m = 8 := by omega
          go_wp2_with fail
          exact ⟨⟨k + 1, by omega, by go_num, by rw [HS.out]⟩, by simp [intOf]; omega⟩
    · obtain rfl : k = 256 := by omega
      have h1 := heap_alloc2_new w (.cells zeroRow 127) (.cells (tabTo 256) 127)
      have h2 := heap_alloc2_old w (.cells zeroRow 127) (.cells (tabTo 256) 127)
      have h3 : (Try.prog.info? 127).map (·.size) = some (tabTo 256).size := by rw [tab_size]; exact size_tab
      have h4 : zeroRow.size = (tabTo 256).size := by unfold zeroRow; rw [tab_size, tab_size]
      have h5 := tab_one 256
      have B0 : Below w.heap.size w ((w.alloc (.cells zeroRow 127)).alloc (.cells (tabTo 256) 127)) := ((Below.refl _ _).alloc (Nat.le_refl _) _).alloc (by simp) _
      have B1 := below_setRow B0 w.heap.size (tabTo 256) (Nat.le_refl _)
      have h6 : (((w.alloc (.cells zeroRow 127)).alloc (.cells (tabTo 256) 127)).setRow w.heap.size (tabTo 256)).heap[w.heap.size]? = some (.cells (tabTo 256) 127) := setRow_heap _ _ _ _ _ _ h2
      have H1 := hide h1
      have H2 := hide h2
      have H3 := hide h3
      have H4 := hide h4
      have H5 := hide h5
      have H6 := hide h6
      clear h1 h2 h3 h4 h5 h6 B0
      generalize ht : tabTo 256 = t at *
      have HT := hide ht
      clear ht
      go_wp2_with (first | (refine wpList_load_row rfl 127 _ rfl (w.heap.size + 1) rfl 127 t (0, 0) _ H1.out Try.underlying127 rfl H3.out ?_) | (refine wpList_store_row rfl 127 _ _ rfl w.heap.size t rfl rfl 127 _ H2.out H3.out H4.out H5.out ?_))
      refine bodyPost_ret (v := .agg t) ?_ rfl ⟨by rw [HT.out], B1⟩
      exact results_cell_row (P := Try.prog) (fn := Try.f88) rfl _ _ w.heap.size 127 t (0, 0) _ rfl H6.out Try.underlying127 rfl H3.out

theorem take_snoc (l : List Nat) (k : Nat) (h : k < l.length) : l.take (k + 1) = l.take k ++ [l.getD k 0] := by
  rw [List.take_succ_eq_append_getElem h]
  simp [List.getD_eq_getElem?_getD, h]

theorem getD_lt (l : List Nat) (hl : ∀ d ∈ l, d < 256) (k : Nat) : l.getD k 0 < 256 := by
  by_cases h : k < l.length
  · simp only [List.getD_eq_getElem?_getD, List.getElem?_eq_getElem h, Option.getD_some]; exact hl _ (List.getElem_mem h)
  · simp only [List.getD_eq_getElem?_getD, List.getElem?_eq_none (show l.length ≤ k by omega), Option.getD_none]; omega

theorem take_lt (l : List Nat) (hl : ∀ d ∈ l, d < 256) (k : Nat) : ∀ d ∈ l.take k, d < 256 := fun d hd => hl d (List.mem_of_mem_take hd)

/-- what More's walk is told of the table, whatever its cells are called -/
structure TabIs (t z0 : Array Value) : Prop where
  call : ∀ w, Calls Try.prog 88 #[] w fun e w' => e = .returned (.agg t) ∧ Below w.heap.size w w'
  info : (Try.prog.info? 127).map (·.size) = some t.size
  zero : ∀ w, (zeroValue 127).run Try.prog w = .ok (.agg z0) w
  size : z0.size = t.size
  one : t.all (·.oneCell') = true
  at_ : ∀ i, i < 256 → t[i]? = some (.int .u32 ((M.itZ 8 i : Nat) : Int))

theorem tabIs : ∃ t z0, TabIs t z0 := ⟨tabTo 256, zeroRow, table_any, by rw [tab_size]; exact size_tab, zero_tab, by unfold zeroRow; rw [tab_size, tab_size], tab_one 256, fun i hi => by rw [tab_at 256 i hi, if_pos hi]⟩

theorem neg_max (s : Nat) (hs : s < 4294967296) : bits .xor .u32 IntKind.u32.max (s : Int) = ((M.neg s : Nat) : Int) := by
  rw [M.neg_xor hs, Nat.xor_comm]
  exact xor32 4294967295 s (by decide) hs

set_option maxHeartbeats 400000 in
set_option maxRecDepth 10000 in
theorem more_any (s : Nat) (hs : s < 4294967296) (a : Option Addr) (n c : Nat) (l : List Nat) (w : World) (h : Rd w a n l) :
    Calls Try.prog 76 #[.int .u32 (s : Int), .slice a n c] w fun e w' => e = .returned (.int .u32 (M.more s l : Nat)) ∧ Below w.heap.size w w' := by
  obtain ⟨t, z0, HT⟩ := tabIs
  have hz := HT.zero
  have hn := h.2.1
  have HH := hide h
  have hng := neg_max s hs
  clear h
  go_enter Try.func76, Try.ntmps76
  go_wp2_with (first | (go_at_call 88; refine (HT.call _).mono ?_; rintro e w1 ⟨rfl, hb1⟩) | (refine wpList_store_row rfl 127 _ _ rfl _ t rfl rfl 127 z0 (heap_alloc_new _ _) HT.info HT.size HT.one ?_))
  have hcell : ∀ i, i < 256 → ((w1.alloc (.cells z0 127)).setRow w1.heap.size t).cell? ⟨w1.heap.size, i, none⟩ = some (.int .u32 ((M.itZ 8 i : Nat) : Int)) := fun i hi => by
    rw [cell_of_row _ _ i t 127 (0, 0) (setRow_heap _ _ _ _ _ _ (heap_alloc_new _ _))]
    exact HT.at_ i hi
  have hb2 : Below w.heap.size w ((w1.alloc (.cells z0 127)).setRow w1.heap.size t) := below_setRow (hb1.alloc hb1.size _) _ _ hb1.size
  generalize (w1.alloc (.cells z0 127)).setRow w1.heap.size t = w2 at *
  clear hb1
  generalize w1.heap.size = B at *
  obtain ⟨hl, hn', hd, hrow⟩ := (HH.out).below (Nat.le_refl _) hb2
  have HL := hide hl
  have HD := hide hd
  have HC := hide hcell
  have HB := hide hb2
  clear hl hn' hd HH hz hcell hb2
  rcases hrow with h0 | ⟨b, off, rfl, hrow⟩
  · subst h0
    go_loop [6, 14] (fun r i => r = .int .u32 (M.neg s : Nat) ∧ i = .int .i64 0) (fun _ _ => 0)
    case atStart => exact ⟨rfl, rfl⟩
    case round =>
      obtain ⟨rfl, rfl⟩ := hrel
      have hng2 := neg_max (M.neg s) (M.neg_lt s)
      go_wp2
      go_ret
      exact ⟨ret_int (by rw [List.length_eq_zero_iff.1 HL.out.symm]; rfl), HB.out⟩
  · have HW := hide hrow
    clear hrow
    go_loop [6, 14] (fun r i => ∃ k : Nat, k ≤ n ∧ i = .int .i64 k ∧ r = .int .u32 (M.eat (M.neg s) (l.take k) : Nat)) (fun _ i => n - (intOf i).toNat)
    case atStart => exact ⟨0, Nat.zero_le _, rfl, rfl⟩
    case round =>
      obtain ⟨k, hk, rfl, rfl⟩ := hrel
      have hr := M.eat_lt (l.take k) (take_lt l HD.out k) (M.neg_lt s)
      by_cases hlt : k < n
      · have hc := HW.out k hlt
        have hd := getD_lt l HD.out k
        have hsn : M.eat (M.neg s) (l.take (k + 1)) = M.itZ 8 (M.eat (M.neg s) (l.take k) ^^^ l.getD k 0) := by rw [take_snoc l k (by have := HL.out; omega), M.eat_snoc]
        have HS := hide hsn
        clear hsn
        generalize M.eat (M.neg s) (l.take k) = r at *
        generalize l.getD k 0 = d at *
        have hj : r % 256 ^^^ d < 256 := Nat.xor_lt_two_pow (n := 8) (by omega) (by omega)
        have hx8 : bits .xor .u8 ((r : Int) % 256) (d : Int) = ((r % 256 ^^^ d : Nat) : Int) := u8_xor_nat (r % 256) d (by omega) hd
        have hct := HC.out _ hj
        have hz8 := M.itZ_lt 8 (show r % 256 ^^^ d < 4294967296 by omega)
        have hx : bits .xor .u32 ((M.itZ 8 (r % 256 ^^^ d) : Nat) : Int) ((r : Int) / 256) = ((M.itZ 8 (r % 256 ^^^ d) ^^^ r / 256 : Nat) : Int) := xor32 _ (r / 256) hz8 (by omega)
        have HX : Hid (M.itZ 8 (r % 256 ^^^ d) ^^^ r / 256 = M.itZ 8 (r ^^^ d)) := M.table_step r d
        generalize r % 256 ^^^ d = j at *
        go_wp2
        exact ⟨⟨k + 1, by omega, by go_num, by rw [HS.out, HX.out]⟩, by simp [intOf]; omega⟩
      · have hng2 := neg_max _ hr
        go_wp2
        go_ret
        exact ⟨ret_int (by rw [List.take_of_length_le (by have := HL.out; omega)]; rfl), HB.out⟩

theorem sum_any (a : Option Addr) (n c : Nat) (l : List Nat) (w : World) (h : Rd w a n l) :
    Calls Try.prog 72 #[.slice a n c] w fun e w' => e = .returned (.int .u32 (M.more 0 l : Nat)) ∧ Below w.heap.size w w' := by
  have HH := hide h
  clear h
  go_enter Try.func72, Try.ntmps72
  go_wp2_with (go_at_call 76; refine (more_any 0 (by decide) a n c l _ HH.out).mono ?_; rintro e w1 ⟨rfl, hb1⟩)
  go_ret
  exact ⟨rfl, hb1⟩

end Go.Proofs.Ythfnpbkclmkkeaa
