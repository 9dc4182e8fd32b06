/- Contract of table: the 256 numbers. -/
import Derived.Test.YtgjiaajeionofaaPrims
import Derived.Deep.WholeRow
namespace Go.Proofs.Ytgjiaajeionofaa
open Go.RowKit

/-- the cells of the table when k of them are done -/
def tabTo (k : Nat) : Array Value := Array.ofFn (n := 256) fun i => .int .u32 ((if i.val < k then M.itZ 8 i.val else 0 : Nat) : Int)
def zeroRow : Array Value := tabTo 0

theorem zeroRow_eq : (Array.replicate 256 (Value.int .u32 0)) = zeroRow := by
  unfold zeroRow tabTo
  apply Array.ext
  · simp
  · intro i h1 h2
    simp

theorem tab_size (k : Nat) : (tabTo k).size = 256 := by simp [tabTo]

theorem tab_at (k i : Nat) (h : i < 256) : (tabTo k)[i]? = some (.int .u32 ((if i < k then M.itZ 8 i else 0 : Nat) : Int)) := by
  simp [tabTo, h]

theorem tab_set (k : Nat) (h : k < 256) : (tabTo k).setIfInBounds k (.int .u32 ((M.itZ 8 k : Nat) : Int)) = tabTo (k + 1) := by
  apply Array.ext_getElem?
  intro i
  rw [Array.getElem?_setIfInBounds]
  by_cases hi : i < 256
  · rw [tab_at _ _ hi, tab_at _ _ hi]
    by_cases e : k = i
    · subst e; simp [tab_size, h]
    · rw [if_neg e]
      congr 3
      by_cases h1 : i < k
      · rw [if_pos h1, if_pos (by omega)]
      · rw [if_neg h1, if_neg (by omega)]
  · have hs := tab_size k
    have hs' := tab_size (k + 1)
    rw [if_neg (by omega), Array.getElem?_eq_none (by omega), Array.getElem?_eq_none (by omega)]

theorem tab_one (k : Nat) : (tabTo k).all (·.oneCell') = true := by
  have h : ∀ v ∈ tabTo k, v.oneCell' = true := by
    intro v hv
    unfold tabTo at hv
    rw [Array.mem_ofFn] at hv
    obtain ⟨i, rfl⟩ := hv
    rfl
  rw [Array.all_eq_true']
  exact h

theorem info_tab : (Try.prog.info? 61).map (fun i => (i.zero, i.size)) = some (some (.agg (Array.replicate 256 (.int .u32 0))), 256) := by kernel_rfl
theorem zero_tab (w : World) : (zeroValue 61).run Try.prog w = .ok (.agg zeroRow) w := by rw [← zeroRow_eq]; exact (zero_of_info info_tab).1 w
theorem size_tab : (Try.prog.info? 61).map (·.size) = some 256 := (zero_of_info info_tab).2

theorem heap_setRow_other (w : World) (g k : Nat) (cs : Array Value) (h : k ≠ g) : (w.setRow g cs).heap[k]? = w.heap[k]? := by
  simp only [World.setRow, Array.getElem?_modify]
  rw [if_neg (fun e => h e.symm)]

theorem below_setRow {B : Nat} {a w : World} (h : Below B a w) (g : Nat) (cs : Array Value) (hg : B ≤ g) : Below B a (w.setRow g cs) :=
  ⟨h.os, h.tape, h.output, by rw [size_setRow]; exact h.size, fun k hk => by rw [heap_setRow_other _ _ _ _ (by omega)]; exact h.block k hk⟩

set_option maxHeartbeats 400000 in
set_option maxRecDepth 100000 in
theorem table_any (w : World) :
    Calls Try.prog 34 #[] w fun e w' => e = .returned (.agg (tabTo 256)) ∧ Below w.heap.size w w' := by
  have hz := zero_tab
  go_enter Try.func34, Try.ntmps34
  go_wp2
  go_loopw [4] (fun i wx => ∃ k : Nat, k ≤ 256 ∧ i = .int .i64 k ∧ wx = (w.alloc (.cells zeroRow 61)).alloc (.cells (tabTo k) 61)) (fun i _ => 256 - (intOf i).toNat)
  case atStart => exact ⟨0, by omega, rfl, rfl⟩
  case round =>
    obtain ⟨k, hk, rfl, rfl⟩ := hrel
    by_cases hlt : k < 256
    · have hd : decide ((k : Int) < 256) = true := decide_eq_true (by omega)
      have hkt : k < (tabTo k).size := by rw [tab_size]; exact hlt
      have HS : Hid ((tabTo k).setIfInBounds k (.int .u32 ((M.itZ 8 k : Nat) : Int)) = tabTo (k + 1)) := tab_set k hlt
      generalize tabTo k = t at *
      go_wp2
      go_loop [3, 9] (fun r j => ∃ m : Nat, m ≤ 8 ∧ j = .int .i64 m ∧ r = .int .u32 (M.itZ m k : Nat)) (fun _ j => 8 - (intOf j).toNat)
      case atStart => exact ⟨0, by omega, rfl, rfl⟩
      case round =>
        obtain ⟨m, hm, rfl, rfl⟩ := hrel
        by_cases hm8 : m < 8
        · go_wp2_with (go_at_call 46; refine (zeroBit_any _ (M.itZ_lt _ (by omega)) _).mono ?_; rintro e w' ⟨rfl, rfl⟩)
          exact ⟨⟨m + 1, by omega, by go_num, by rw [M.itZ_succ]⟩, by simp [intOf]; omega⟩
        · obtain rfl : m = 8 := by omega
          go_wp2_with fail
          exact ⟨⟨k + 1, by omega, by go_num, by rw [HS.out]⟩, by simp [intOf]; omega⟩
    · obtain rfl : k = 256 := by omega
      have h1 := heap_alloc2_new w (.cells zeroRow 61) (.cells (tabTo 256) 61)
      have h2 := heap_alloc2_old w (.cells zeroRow 61) (.cells (tabTo 256) 61)
      have h3 : (Try.prog.info? 61).map (·.size) = some (tabTo 256).size := by rw [tab_size]; exact size_tab
      have h4 : zeroRow.size = (tabTo 256).size := by unfold zeroRow; rw [tab_size, tab_size]
      have h5 := tab_one 256
      have B0 : Below w.heap.size w ((w.alloc (.cells zeroRow 61)).alloc (.cells (tabTo 256) 61)) := ((Below.refl _ _).alloc (Nat.le_refl _) _).alloc (by simp) _
      have B1 := below_setRow B0 w.heap.size (tabTo 256) (Nat.le_refl _)
      have h6 : (((w.alloc (.cells zeroRow 61)).alloc (.cells (tabTo 256) 61)).setRow w.heap.size (tabTo 256)).heap[w.heap.size]? = some (.cells (tabTo 256) 61) := setRow_heap _ _ _ _ _ _ h2
      have H1 := hide h1
      have H2 := hide h2
      have H3 := hide h3
      have H4 := hide h4
      have H5 := hide h5
      have H6 := hide h6
      clear h1 h2 h3 h4 h5 h6 B0
      generalize ht : tabTo 256 = t at *
      have HT := hide ht
      clear ht
      go_wp2_with (first | (refine wpList_load_row rfl 61 _ rfl (w.heap.size + 1) rfl 61 t (0, 0) _ H1.out Try.underlying61 rfl H3.out ?_) | (refine wpList_store_row rfl 61 _ _ rfl w.heap.size t rfl rfl 61 _ H2.out H3.out H4.out H5.out ?_))
      refine bodyPost_ret (v := .agg t) ?_ rfl ⟨by rw [HT.out], B1⟩
      exact results_cell_row (P := Try.prog) (fn := Try.f34) rfl _ _ w.heap.size 61 t (0, 0) _ rfl H6.out Try.underlying61 rfl H3.out

end Go.Proofs.Ytgjiaajeionofaa
