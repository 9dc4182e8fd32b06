/- Contracts of More and Sum. -/
import Derived.Test.YtgjiaajeionofaaTable
namespace Go.Proofs.Ytgjiaajeionofaa
open Go.RowKit

/-- What a slice of bytes reads: n bytes l from an address on (or none at all). -/
def Rd (w : World) (a : Option Addr) (n : Nat) (l : List Nat) : Prop :=
  n = l.length ∧ n < 281474976710656 ∧ (∀ d ∈ l, d < 256) ∧ (n = 0 ∨ ∃ b off, a = some ⟨b, off, none⟩ ∧ ∀ i, i < n → w.cell? ⟨b, off + i, none⟩ = some (.int .u8 ((l.getD i 0 : Nat) : Int)))

theorem Rd.below {w w' : World} {a : Option Addr} {n : Nat} {l : List Nat} {B : Nat} (h : Rd w a n l) (hB : w.heap.size ≤ B) (hb : Below B w w') : Rd w' a n l := by
  obtain ⟨h1, h2, h3, h4⟩ := h
  refine ⟨h1, h2, h3, ?_⟩
  rcases h4 with h4 | ⟨b, off, rfl, h4⟩
  · exact .inl h4
  · refine .inr ⟨b, off, rfl, fun i hi => ?_⟩
    have := h4 i hi
    rw [hb.cell (p := ⟨b, off + i, none⟩) (Nat.lt_of_lt_of_le (block_lt_of_cell this) hB)]
    exact this

theorem take_snoc (l : List Nat) (k : Nat) (h : k < l.length) : l.take (k + 1) = l.take k ++ [l.getD k 0] := by
  rw [List.take_succ_eq_append_getElem h]
  simp [List.getD_eq_getElem?_getD, h]

theorem getD_lt (l : List Nat) (hl : ∀ d ∈ l, d < 256) (k : Nat) : l.getD k 0 < 256 := by
  by_cases h : k < l.length
  · simp only [List.getD_eq_getElem?_getD, List.getElem?_eq_getElem h, Option.getD_some]; exact hl _ (List.getElem_mem h)
  · simp only [List.getD_eq_getElem?_getD, List.getElem?_eq_none (show l.length ≤ k by omega), Option.getD_none]; omega

theorem take_lt (l : List Nat) (hl : ∀ d ∈ l, d < 256) (k : Nat) : ∀ d ∈ l.take k, d < 256 := fun d hd => hl d (List.mem_of_mem_take hd)

/-- what More's walk is told of the table, whatever its cells are called -/
structure TabIs (t z0 : Array Value) : Prop where
  call : ∀ w, Calls Try.prog 34 #[] w fun e w' => e = .returned (.agg t) ∧ Below w.heap.size w w'
  info : (Try.prog.info? 61).map (·.size) = some t.size
  zero : ∀ w, (zeroValue 61).run Try.prog w = .ok (.agg z0) w
  size : z0.size = t.size
  one : t.all (·.oneCell') = true
  at_ : ∀ i, i < 256 → t[i]? = some (.int .u32 ((M.itZ 8 i : Nat) : Int))

theorem tabIs : ∃ t z0, TabIs t z0 := ⟨tabTo 256, zeroRow, table_any, by rw [tab_size]; exact size_tab, zero_tab, by unfold zeroRow; rw [tab_size, tab_size], tab_one 256, fun i hi => by rw [tab_at 256 i hi, if_pos hi]⟩

theorem neg_max (s : Nat) (hs : s < 4294967296) : bits .xor .u32 IntKind.u32.max (s : Int) = ((M.neg s : Nat) : Int) := by
  rw [M.neg_xor hs, Nat.xor_comm]
  exact xor32 4294967295 s (by decide) hs

set_option maxHeartbeats 400000 in
set_option maxRecDepth 10000 in
theorem more_any (s : Nat) (hs : s < 4294967296) (a : Option Addr) (n c : Nat) (l : List Nat) (w : World) (h : Rd w a n l) :
    Calls Try.prog 24 #[.int .u32 (s : Int), .slice a n c] w fun e w' => e = .returned (.int .u32 (M.more s l : Nat)) ∧ Below w.heap.size w w' := by
  obtain ⟨t, z0, HT⟩ := tabIs
  have hz := HT.zero
  have hn := h.2.1
  have HH := hide h
  have hng := neg_max s hs
  clear h
  go_enter Try.func24, Try.ntmps24
  go_wp2_with (first | (go_at_call 34; refine (HT.call _).mono ?_; rintro e w1 ⟨rfl, hb1⟩) | (refine wpList_store_row rfl 61 _ _ rfl _ t rfl rfl 61 z0 (heap_alloc_new _ _) HT.info HT.size HT.one ?_))
  have hcell : ∀ i, i < 256 → ((w1.alloc (.cells z0 61)).setRow w1.heap.size t).cell? ⟨w1.heap.size, i, none⟩ = some (.int .u32 ((M.itZ 8 i : Nat) : Int)) := fun i hi => by
    rw [cell_of_row _ _ i t 61 (0, 0) (setRow_heap _ _ _ _ _ _ (heap_alloc_new _ _))]
    exact HT.at_ i hi
  have hb2 : Below w.heap.size w ((w1.alloc (.cells z0 61)).setRow w1.heap.size t) := below_setRow (hb1.alloc hb1.size _) _ _ hb1.size
  generalize (w1.alloc (.cells z0 61)).setRow w1.heap.size t = w2 at *
  clear hb1
  generalize w1.heap.size = B at *
  obtain ⟨hl, hn', hd, hrow⟩ := (HH.out).below (Nat.le_refl _) hb2
  have HL := hide hl
  have HD := hide hd
  have HC := hide hcell
  have HB := hide hb2
  clear hl hn' hd HH hz hcell hb2
  rcases hrow with h0 | ⟨b, off, rfl, hrow⟩
  · subst h0
    go_loop [6, 14] (fun r i => r = .int .u32 (M.neg s : Nat) ∧ i = .int .i64 0) (fun _ _ => 0)
    case atStart => exact ⟨rfl, rfl⟩
    case round =>
      obtain ⟨rfl, rfl⟩ := hrel
      have hng2 := neg_max (M.neg s) (M.neg_lt s)
      go_wp2
      go_ret
      exact ⟨ret_int (by rw [List.length_eq_zero_iff.1 HL.out.symm]; rfl), HB.out⟩
  · have HW := hide hrow
    clear hrow
    go_loop [6, 14] (fun r i => ∃ k : Nat, k ≤ n ∧ i = .int .i64 k ∧ r = .int .u32 (M.eat (M.neg s) (l.take k) : Nat)) (fun _ i => n - (intOf i).toNat)
    case atStart => exact ⟨0, Nat.zero_le _, rfl, rfl⟩
    case round =>
      obtain ⟨k, hk, rfl, rfl⟩ := hrel
      have hr := M.eat_lt (l.take k) (take_lt l HD.out k) (M.neg_lt s)
      by_cases hlt : k < n
      · have hc := HW.out k hlt
        have hd := getD_lt l HD.out k
        have hsn : M.eat (M.neg s) (l.take (k + 1)) = M.itZ 8 (M.eat (M.neg s) (l.take k) ^^^ l.getD k 0) := by rw [take_snoc l k (by have := HL.out; omega), M.eat_snoc]
        have HS := hide hsn
        clear hsn
        generalize M.eat (M.neg s) (l.take k) = r at *
        generalize l.getD k 0 = d at *
        have hj : r % 256 ^^^ d < 256 := Nat.xor_lt_two_pow (n := 8) (by omega) (by omega)
        have hx8 : bits .xor .u8 ((r : Int) % 256) (d : Int) = ((r % 256 ^^^ d : Nat) : Int) := u8_xor_nat (r % 256) d (by omega) hd
        have hct := HC.out _ hj
        have hz8 := M.itZ_lt 8 (show r % 256 ^^^ d < 4294967296 by omega)
        have hx : bits .xor .u32 ((M.itZ 8 (r % 256 ^^^ d) : Nat) : Int) ((r : Int) / 256) = ((M.itZ 8 (r % 256 ^^^ d) ^^^ r / 256 : Nat) : Int) := xor32 _ (r / 256) hz8 (by omega)
        have HX : Hid (M.itZ 8 (r % 256 ^^^ d) ^^^ r / 256 = M.itZ 8 (r ^^^ d)) := M.table_step r d
        generalize r % 256 ^^^ d = j at *
        go_wp2
        exact ⟨⟨k + 1, by omega, by go_num, by rw [HS.out, HX.out]⟩, by simp [intOf]; omega⟩
      · have hng2 := neg_max _ hr
        go_wp2
        go_ret
        exact ⟨ret_int (by rw [List.take_of_length_le (by have := HL.out; omega)]; rfl), HB.out⟩

theorem sum_any (a : Option Addr) (n c : Nat) (l : List Nat) (w : World) (h : Rd w a n l) :
    Calls Try.prog 17 #[.slice a n c] w fun e w' => e = .returned (.int .u32 (M.more 0 l : Nat)) ∧ Below w.heap.size w w' := by
  have HH := hide h
  clear h
  go_enter Try.func17, Try.ntmps17
  go_wp2_with (go_at_call 24; refine (more_any 0 (by decide) a n c l _ HH.out).mono ?_; rintro e w1 ⟨rfl, hb1⟩)
  go_ret
  exact ⟨rfl, hb1⟩

end Go.Proofs.Ytgjiaajeionofaa
