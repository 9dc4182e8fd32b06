/- Package wheel: digitOf, begin, slot, place, ahead, Now, Len. -/
import Derived.Test.YtbjapgajbljhfaaWSt
import Derived.Test.YtbjapgajbljhfaaShelf
import Derived.BigQuiet
import Derived.Laws.ResultCell
import Derived.Laws.Rows
namespace Go.Proofs.Ytbjapgajbljhfaa
namespace Wh
open Go.RowKit

theorem hi_int (t l : Nat) : (t : Int) / 2 ^ (l * 6) = ((hi t l : Nat) : Int) := by
  unfold hi
  rw [p2, Nat.mul_comm 6 l, Int.natCast_ediv, Int.natCast_pow]
  rfl
theorem dg_int (t l : Nat) : ((t : Int) / 2 ^ (l * 6)).tmod 64 = ((dg t l : Nat) : Int) := by
  rw [hi_int, Int.tmod_eq_emod_of_nonneg (by omega)]
  unfold dg
  omega

set_option maxHeartbeats 1000000 in
theorem digitOf_any (t l : Nat) (w : World) (hl : l < 11) :
    Calls Try.prog 45 #[.int .i64 t, .int .i64 l] w fun e w' => e = .returned (.int .i64 (dg t l : Nat)) ∧ w' = w := by
  have h1 : wrap64 ((l : Int) * 6) = ((l * 6 : Nat) : Int) := by unfold wrap64; omega
  go_enter Try.func45, Try.ntmps45
  go_wp2
  go_ret
  exact ⟨ret_int (dg_int t l), rfl⟩

theorem bg_int (n l i : Nat) (hn : n < 2 ^ 63) (hb : bg n l i < 2 ^ 63) : wrap64 (wrap64 (wrap64 ((n : Int) / 2 ^ (l * 6) / 64 * 64) + i) * 2 ^ (l * 6)) = ((bg n l i : Nat) : Int) := by
  rw [hi_int]
  have h1 : (hi n l : Int) / 64 = ((hi n (l + 1) : Nat) : Int) := by rw [hi_succ]; omega
  rw [h1]
  have h2 : hi n (l + 1) * 64 ≤ n := by
    rw [hi_succ]
    have := Nat.div_mul_le_self (hi n l) 64
    have : hi n l ≤ n := Nat.div_le_self _ _
    omega
  have h3 : hi n (l + 1) * 64 + i ≤ bg n l i := Nat.le_mul_of_pos_right _ (p64 l)
  have e1 : wrap64 ((hi n (l + 1) : Int) * 64) = ((hi n (l + 1) * 64 : Nat) : Int) := by unfold wrap64; omega
  rw [e1]
  have e2 : wrap64 (((hi n (l + 1) * 64 : Nat) : Int) + i) = ((hi n (l + 1) * 64 + i : Nat) : Int) := by unfold wrap64; omega
  rw [e2]
  have e3 : (((hi n (l + 1) * 64 + i : Nat) : Int)) * 2 ^ (l * 6) = ((bg n l i : Nat) : Int) := by
    unfold bg
    rw [p2, Nat.mul_comm 6 l, Int.natCast_mul, Int.natCast_pow]
    rfl
  rw [e3]
  unfold wrap64; omega

theorem xor_i64 (a b : Nat) (ha : a < 2 ^ 63) (hb : b < 2 ^ 63) : bits .xor .i64 (a : Int) (b : Int) = ((a ^^^ b : Nat) : Int) := by
  have hx : a ^^^ b < 2 ^ 63 := Nat.xor_lt_two_pow ha hb
  show IntKind.i64.wrap ((BitVec.ofInt 64 (a : Int) ^^^ BitVec.ofInt 64 (b : Int)).toNat : Int) = _
  rw [BitVec.toNat_xor, ofInt_u64 a (by omega), ofInt_u64 b (by omega), IntKind.wrap_i64]
  omega

theorem res_place1 {fn : Func} {p : Tmp} (h : fn.results = #[.cell p 65]) (tmps : Array Value) (w : World) (g : Nat) (t : TypeId) (cs : Array Value) (fr : Nat × Nat)
    (hp : tmps.getD p undef = .pointer (some ⟨g, 0, none⟩)) (hg : w.heap[g]? = some (.cells cs t fr)) (hs : cs.size = 2) :
    (results fn tmps).run Try.prog w = .ok (.agg cs) w := by
  have hi : (Try.prog.info? 65).map (·.size) = some cs.size := by rw [hs]; kernel_rfl
  exact results_cell_row h tmps w g t cs fr _ hp hg Try.underlying65 rfl hi
theorem res_place2 {fn : Func} {p u : Tmp} (h : fn.results = #[.cell p 65, .tmp u]) (tmps : Array Value) (w : World) (g : Nat) (t : TypeId) (cs : Array Value) (fr : Nat × Nat)
    (hp : tmps.getD p undef = .pointer (some ⟨g, 0, none⟩)) (hg : w.heap[g]? = some (.cells cs t fr)) (hs : cs.size = 2) :
    (results fn tmps).run Try.prog w = .ok (.tuple #[.agg cs, tmps.getD u undef]) w := by
  rw [results_cell_tmp h, hp]
  have hi : (Try.prog.info? 65).map (·.size) = some cs.size := by rw [hs]; kernel_rfl
  simp [asAddr, run_loadVar_row w g t 65 cs fr _ hg Try.underlying65 rfl hi, Result.andThen]

set_option maxHeartbeats 2000000 in
theorem beginI {S : Nat → Prop} {P m : Nat} {at_ : Nat → Nat} {row : Nat → Nat → List Nat} {s : St} (l i : Nat) (w : World) (h : WIn 75 80 S w P m at_ row s) (hl : l < 11) (hn : s.now < 2 ^ 63) (hb : bg s.now l i < 2 ^ 63) :
    Calls Try.prog 46 #[.pointer (some ⟨P, 0, none⟩), .agg #[.int .i64 l, .int .i64 i]] w fun e w' => e = .returned (.int .i64 (bg s.now l i : Nat)) ∧ Keep (fun _ => False) w w' := by
  have h1 : wrap64 ((l : Int) * 6) = ((l * 6 : Nat) : Int) := by unfold wrap64; omega
  have c0 := h.cnow
  have hlt := h.ltP
  go_enter Try.func46, Try.ntmps46
  go_wp2
  go_region
  go_wp2
  go_ret
  exact ⟨ret_int (bg_int s.now l i hn hb), (Keep.alloc _ _ _).more (Keep.drew _ _)⟩

set_option maxHeartbeats 2000000 in
theorem slotI (P l i : Nat) (w : World) (hl : l < 11) (hi : i < 64) :
    Calls Try.prog 27 #[.pointer (some ⟨P, 0, none⟩), .agg #[.int .i64 l, .int .i64 i]] w fun e w' => e = .returned (.pointer (some ⟨P, so l i, none⟩)) ∧ Keep (fun _ => False) w w' := by
  go_enter Try.func27, Try.ntmps27
  go_wp2
  go_region
  go_wp2
  go_ret
  refine ⟨?_, (Keep.alloc _ _ _).more (Keep.drew _ _)⟩
  show Ending.returned (Value.pointer (some ⟨P, 3 + l * 128 + i * 2, none⟩)) = _
  rw [show 3 + l * 128 + i * 2 = so l i by unfold so; omega]
set_option maxHeartbeats 2000000 in
theorem aheadI {S : Nat → Prop} {P m : Nat} {at_ : Nat → Nat} {row : Nat → Nat → List Nat} {s : St} (t : Int) (w : World) (h : WIn 75 80 S w P m at_ row s) :
    Calls Try.prog 24 #[.pointer (some ⟨P, 0, none⟩), .int .i64 t] w fun e w' => e = .returned (.bool (decide ((s.now : Int) ≤ t ∧ t ≤ 4611686018427387904))) ∧ Keep (fun _ => False) w w' := by
  have c0 := h.cnow
  go_enter Try.func24, Try.ntmps24
  go_wp2
  all_goals go_ret
  all_goals exact ⟨by congr 2; simp; omega, Keep.refl _ _⟩
set_option maxHeartbeats 2000000 in
theorem placeI {S : Nat → Prop} {P m : Nat} {at_ : Nat → Nat} {row : Nat → Nat → List Nat} {s : St} (t : Nat) (w : World) (h : WIn 75 80 S w P m at_ row s) (hn : s.now ≤ M) (ht : t ≤ M) :
    Calls Try.prog 35 #[.pointer (some ⟨P, 0, none⟩), .int .i64 t] w fun e w' => e = .returned (.agg #[.int .i64 (lev s.now t : Nat), .int .i64 (dg t (lev s.now t) : Nat)]) ∧ Keep (fun _ => False) w w' := by
  have c0 := h.cnow
  have hlt := h.ltP
  have hx63 : t ^^^ s.now < 2 ^ 63 := Nat.xor_lt_two_pow (M_lt ht) (M_lt hn)
  have hxor := xor_i64 t s.now (M_lt ht) (M_lt hn)
  have hwr : IntKind.u64.wrap ((t ^^^ s.now : Nat) : Int) = ((t ^^^ s.now : Nat) : Int) := by rw [IntKind.wrap_u64]; omega
  have hL := lev_lt ht hn
  by_cases hz : Lib.bitLen (t ^^^ s.now) = 0
  · have hl0 : lev s.now t = 0 := by unfold lev; rw [hz]
    have d0 : ∀ w, Calls Try.prog 45 #[.int .i64 t, .int .i64 0] w fun e w' => e = .returned (.int .i64 (dg t 0 : Nat)) ∧ w' = w := fun w => digitOf_any t 0 w (by decide)
    rw [hl0]
    go_enter Try.func35, Try.ntmps35
    go_wp2_with (first
      | (go_at_call 50; refine (Try.bits_Len (t ^^^ s.now : Nat) _ (by omega) (by omega)).mono ?_; rintro e w' ⟨rfl, rfl⟩)
      | (go_at_call 45; refine (d0 _).mono ?_; rintro e w' ⟨rfl, rfl⟩))
    refine bodyPost_ret (res_place1 rfl _ _ w.heap.size _ _ _ rfl (heap_alloc_new _ _) rfl) rfl ⟨rfl, Keep.alloc _ _ _⟩
  · have hq : wrap64 ((wrap64 ((Lib.bitLen (t ^^^ s.now) : Int) - 1)).tdiv 6) = ((lev s.now t : Nat) : Int) := by
      have hb := Lib.bitLen_le (t ^^^ s.now) 63 (by decide) hx63
      have e1 : wrap64 ((Lib.bitLen (t ^^^ s.now) : Int) - 1) = ((Lib.bitLen (t ^^^ s.now) - 1 : Nat) : Int) := by unfold wrap64; omega
      rw [e1, Int.tdiv_eq_ediv_of_nonneg (by omega)]
      unfold lev wrap64; omega
    have hp : 0 < Lib.bitLen (t ^^^ s.now) := by omega
    go_enter Try.func35, Try.ntmps35
    go_wp2_with (first
      | (go_at_call 50; refine (Try.bits_Len (t ^^^ s.now : Nat) _ (by omega) (by omega)).mono ?_; rintro e w' ⟨rfl, rfl⟩)
      | (go_at_call 45; refine (digitOf_any t (lev s.now t) _ hL).mono ?_; rintro e w' ⟨rfl, rfl⟩))
    refine bodyPost_ret (res_place1 rfl _ _ w.heap.size _ _ _ rfl (heap_alloc_new _ _) rfl) rfl ⟨rfl, Keep.alloc _ _ _⟩
set_option maxHeartbeats 2000000 in
theorem beginS {S : Nat → Prop} {P m : Nat} {at_ : Nat → Nat} {row : Nat → Nat → List Nat} {s : St} (l i : Nat) (w : World) (h : WIn 95 97 S w P m at_ row s) (hl : l < 11) (hn : s.now < 2 ^ 63) (hb : bg s.now l i < 2 ^ 63) :
    Calls Try.prog 52 #[.pointer (some ⟨P, 0, none⟩), .agg #[.int .i64 l, .int .i64 i]] w fun e w' => e = .returned (.int .i64 (bg s.now l i : Nat)) ∧ Keep (fun _ => False) w w' := by
  have h1 : wrap64 ((l : Int) * 6) = ((l * 6 : Nat) : Int) := by unfold wrap64; omega
  have c0 := h.cnow
  have hlt := h.ltP
  go_enter Try.func52, Try.ntmps52
  go_wp2
  go_region
  go_wp2
  go_ret
  exact ⟨ret_int (bg_int s.now l i hn hb), (Keep.alloc _ _ _).more (Keep.drew _ _)⟩

set_option maxHeartbeats 2000000 in
theorem slotS (P l i : Nat) (w : World) (hl : l < 11) (hi : i < 64) :
    Calls Try.prog 38 #[.pointer (some ⟨P, 0, none⟩), .agg #[.int .i64 l, .int .i64 i]] w fun e w' => e = .returned (.pointer (some ⟨P, so l i, none⟩)) ∧ Keep (fun _ => False) w w' := by
  go_enter Try.func38, Try.ntmps38
  go_wp2
  go_region
  go_wp2
  go_ret
  refine ⟨?_, (Keep.alloc _ _ _).more (Keep.drew _ _)⟩
  show Ending.returned (Value.pointer (some ⟨P, 3 + l * 128 + i * 2, none⟩)) = _
  rw [show 3 + l * 128 + i * 2 = so l i by unfold so; omega]
set_option maxHeartbeats 2000000 in
theorem aheadS {S : Nat → Prop} {P m : Nat} {at_ : Nat → Nat} {row : Nat → Nat → List Nat} {s : St} (t : Int) (w : World) (h : WIn 95 97 S w P m at_ row s) :
    Calls Try.prog 37 #[.pointer (some ⟨P, 0, none⟩), .int .i64 t] w fun e w' => e = .returned (.bool (decide ((s.now : Int) ≤ t ∧ t ≤ 4611686018427387904))) ∧ Keep (fun _ => False) w w' := by
  have c0 := h.cnow
  go_enter Try.func37, Try.ntmps37
  go_wp2
  all_goals go_ret
  all_goals exact ⟨by congr 2; simp; omega, Keep.refl _ _⟩
set_option maxHeartbeats 2000000 in
theorem placeS {S : Nat → Prop} {P m : Nat} {at_ : Nat → Nat} {row : Nat → Nat → List Nat} {s : St} (t : Nat) (w : World) (h : WIn 95 97 S w P m at_ row s) (hn : s.now ≤ M) (ht : t ≤ M) :
    Calls Try.prog 39 #[.pointer (some ⟨P, 0, none⟩), .int .i64 t] w fun e w' => e = .returned (.agg #[.int .i64 (lev s.now t : Nat), .int .i64 (dg t (lev s.now t) : Nat)]) ∧ Keep (fun _ => False) w w' := by
  have c0 := h.cnow
  have hlt := h.ltP
  have hx63 : t ^^^ s.now < 2 ^ 63 := Nat.xor_lt_two_pow (M_lt ht) (M_lt hn)
  have hxor := xor_i64 t s.now (M_lt ht) (M_lt hn)
  have hwr : IntKind.u64.wrap ((t ^^^ s.now : Nat) : Int) = ((t ^^^ s.now : Nat) : Int) := by rw [IntKind.wrap_u64]; omega
  have hL := lev_lt ht hn
  by_cases hz : Lib.bitLen (t ^^^ s.now) = 0
  · have hl0 : lev s.now t = 0 := by unfold lev; rw [hz]
    have d0 : ∀ w, Calls Try.prog 45 #[.int .i64 t, .int .i64 0] w fun e w' => e = .returned (.int .i64 (dg t 0 : Nat)) ∧ w' = w := fun w => digitOf_any t 0 w (by decide)
    rw [hl0]
    go_enter Try.func39, Try.ntmps39
    go_wp2_with (first
      | (go_at_call 50; refine (Try.bits_Len (t ^^^ s.now : Nat) _ (by omega) (by omega)).mono ?_; rintro e w' ⟨rfl, rfl⟩)
      | (go_at_call 45; refine (d0 _).mono ?_; rintro e w' ⟨rfl, rfl⟩))
    refine bodyPost_ret (res_place1 rfl _ _ w.heap.size _ _ _ rfl (heap_alloc_new _ _) rfl) rfl ⟨rfl, Keep.alloc _ _ _⟩
  · have hq : wrap64 ((wrap64 ((Lib.bitLen (t ^^^ s.now) : Int) - 1)).tdiv 6) = ((lev s.now t : Nat) : Int) := by
      have hb := Lib.bitLen_le (t ^^^ s.now) 63 (by decide) hx63
      have e1 : wrap64 ((Lib.bitLen (t ^^^ s.now) : Int) - 1) = ((Lib.bitLen (t ^^^ s.now) - 1 : Nat) : Int) := by unfold wrap64; omega
      rw [e1, Int.tdiv_eq_ediv_of_nonneg (by omega)]
      unfold lev wrap64; omega
    have hp : 0 < Lib.bitLen (t ^^^ s.now) := by omega
    go_enter Try.func39, Try.ntmps39
    go_wp2_with (first
      | (go_at_call 50; refine (Try.bits_Len (t ^^^ s.now : Nat) _ (by omega) (by omega)).mono ?_; rintro e w' ⟨rfl, rfl⟩)
      | (go_at_call 45; refine (digitOf_any t (lev s.now t) _ hL).mono ?_; rintro e w' ⟨rfl, rfl⟩))
    refine bodyPost_ret (res_place1 rfl _ _ w.heap.size _ _ _ rfl (heap_alloc_new _ _) rfl) rfl ⟨rfl, Keep.alloc _ _ _⟩
set_option maxHeartbeats 2000000 in
theorem nowI {S : Nat → Prop} {P m : Nat} {at_ : Nat → Nat} {row : Nat → Nat → List Nat} {s : St} (w : World) (h : WIn 75 80 S w P m at_ row s) :
    Calls Try.prog 11 #[.pointer (some ⟨P, 0, none⟩)] w fun e w' => e = .returned (.int .i64 (s.now : Nat)) ∧ w' = w := by
  have c0 := h.cnow
  go_enter Try.func11, Try.ntmps11
  go_wp2
  go_ret
  exact ⟨rfl, rfl⟩

end Wh
end Go.Proofs.Ytbjapgajbljhfaa
