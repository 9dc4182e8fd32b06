/- Package wheel: New, Len. -/
import Derived.Test.YtbjapgajbljhfaaWRmv
import Derived.Maps.OwnSet
namespace Go.Proofs.Ytbjapgajbljhfaa
namespace Wh
open Go.RowKit

/-- a new wheel -/
def fresh (n : Nat) : St := { now := n, last := 0, ids := [], due := fun _ => 0, what := fun _ => undef }

/-- the cells of a wheel just made -/
def zcsN (k : Nat) : List Value := [.int .i64 0, .int .i64 0, .map none] ++ List.replicate k (.pointer none)
theorem zcsN_get (k j : Nat) (h : 3 ≤ j) (h2 : j < k + 3) : (zcsN k)[j]? = some (.pointer none) := by
  unfold zcsN
  rw [List.getElem?_append_right (by simpa using h), List.getElem?_replicate_of_lt (by simp; omega)]
theorem zcsN_one (k : Nat) : (zcsN k)[1]? = some (.int .i64 0) := rfl
theorem zcsN_length (k : Nat) : (zcsN k).length = k + 3 := by simp [zcsN]
def zcs : List Value := zcsN 1408
theorem zcs_get (j : Nat) (h : 3 ≤ j) (h2 : j < 1411) : zcs[j]? = some (.pointer none) := zcsN_get 1408 j h h2
theorem zcs_one : zcs[1]? = some (.int .i64 0) := zcsN_one 1408
theorem zcs_size : zcs.toArray.size = 1411 := zcsN_length 1408
theorem fresh_ok {n : Nat} (hn : n ≤ M) : Ok (fresh n) := ⟨hn, List.Pairwise.nil, fun id h => by cases h⟩
theorem fresh_row (n l i : Nat) : (fresh n).row l i = [] := by simp [St.row, rowAt, fresh]
theorem fresh_cells (n m : Nat) (at_ : Nat → Nat) : WCells ((zcs.toArray.setIfInBounds 0 (.int .i64 n)).setIfInBounds 2 (.map (some m))) m at_ (fresh n).row n 0 := by
  have hz := zcs_size
  have hz2 : ∀ v, (zcs.toArray.setIfInBounds 0 v).size = 1411 := fun v => by rw [Array.size_setIfInBounds]; exact hz
  refine ⟨by rw [Array.size_setIfInBounds]; exact hz2 _, ?_, ?_, ?_, fun l i hl hi => ?_⟩
  · rw [set_get _ _ _ _ (by rw [hz2]; omega), set_get _ _ _ _ (by omega), if_neg (by decide), if_pos rfl]
  · rw [set_get _ _ _ _ (by rw [hz2]; omega), set_get _ _ _ _ (by omega), if_neg (by decide), if_neg (by decide)]
    simp only [List.getElem?_toArray]
    exact zcs_one
  · rw [set_get _ _ _ _ (by rw [hz2]; omega), if_pos rfl]
  · have h1 := so_lt hl hi
    rw [fresh_row]
    constructor
    · rw [set_get _ _ _ _ (by rw [hz2]; omega), set_get _ _ _ _ (by omega), if_neg (by unfold so; omega), if_neg (by unfold so; omega)]
      simp only [List.getElem?_toArray]
      exact zcs_get _ (by unfold so; omega) (by omega)
    · rw [set_get _ _ _ _ (by rw [hz2]; omega), set_get _ _ _ _ (by omega), if_neg (by unfold so; omega), if_neg (by unfold so; omega)]
      simp only [List.getElem?_toArray]
      exact zcs_get _ (by unfold so; omega) (by omega)
theorem fresh_at {tw te : TypeId} (w : World) {n : Nat} (hn : n ≤ M) : WAt tw te (fun k => w.heap.size ≤ k) ((w.alloc (.map #[] 0)).alloc (.cells ((zcs.toArray.setIfInBounds 0 (.int .i64 n)).setIfInBounds 2 (.map (some w.heap.size))) tw)) (w.heap.size + 1) (fresh n) := by
  refine ⟨fresh_ok hn, w.heap.size, fun _ => 0, ⟨⟨_, ?_, fresh_cells n w.heap.size _⟩, fun l i xs ys id e => ?_, ⟨_, (mapIs_made w).keep (Keep.alloc (fun _ => False) _ _) (fun h => h), fun k v => ⟨(fun e => by cases e), fun ⟨id, h, _⟩ => (by cases h)⟩⟩, fun a h => (by cases h), fun a h => (by cases h), fun a h => (by cases h), Nat.le_succ _, Nat.le_refl _⟩⟩
  · have := heap_alloc_new (w.alloc (.map #[] 0)) (.cells ((zcs.toArray.setIfInBounds 0 (.int .i64 n)).setIfInBounds 2 (.map (some w.heap.size))) tw)
    rwa [World.size_alloc] at this
  · rw [fresh_row] at e
    simp at e

/-- how many there are -/
theorem WIn.len {tw te : TypeId} {S : Nat → Prop} {w : World} {P m : Nat} {at_ : Nat → Nat} {row : Nat → Nat → List Nat} {s : St} (h : WIn tw te S w P m at_ row s) (hok : Ok s) {t e : TypeId} (ht : Try.prog.underlying t = some (.map 3 e)) : ∀ ty, (Builtin.len_ #[t] ty #[.map (some m)]).run Try.prog w = .ok (.int .i64 (s.ids.length : Nat)) w := by
  obtain ⟨f, ⟨D, hD, ha⟩, hf⟩ := h.mp
  obtain ⟨l, h1, h2, h3⟩ := MapIs.keys hD ha
  have hp : l.length = (s.ids.map fun (id : Nat) => (id : Int)).length := by
    have hn : (s.ids.map fun (id : Nat) => (id : Int)).Nodup := by
      unfold List.Nodup
      rw [List.pairwise_map]
      exact hok.srt.imp fun h => by omega
    have hmem : ∀ k, k ∈ l ↔ k ∈ s.ids.map fun (id : Nat) => (id : Int) := fun k => by
      rw [h3, List.mem_map]
      constructor
      · intro hk
        cases e : f k with
        | none => exact absurd e hk
        | some v => obtain ⟨id, a, b, _⟩ := (hf k v).1 e; exact ⟨id, a, b.symm⟩
      · rintro ⟨id, a, rfl⟩ e
        have := (hf (id : Int) (ptr at_ (some id))).2 ⟨id, a, rfl, rfl⟩
        rw [this] at e; cases e
    exact ((List.perm_ext_iff_of_nodup h1 hn).2 hmem).length_eq
  rw [List.length_map] at hp
  intro ty
  rw [← hp, h2]
  exact hD.len ht ty

theorem zcI : Try.zeroCells75 = zcs.toArray := by kernel_rfl
set_option maxRecDepth 100000 in
set_option maxHeartbeats 4000000 in
theorem newI (n : Nat) (w : World) (hn : n ≤ M) :
    Calls Try.prog 23 #[.int .i64 n] w fun e w' => ∃ P, e = .returned (.tuple #[.pointer (some ⟨P, 0, none⟩), .int .i64 0]) ∧
      WAt 75 80 (fun k => w.heap.size ≤ k) w' P (fresh n) ∧ Keep (fun _ => False) w w' := by
  have h1 : ¬ ((n : Int) < 0) := by omega
  have h2 : ¬ ((4611686018427387904 : Int) < n) := by unfold M at hn; omega
  have hmm := @run_makeMap Try.prog
  go_enter Try.func23, Try.ntmps23
  go_wp2
  go_ret2
  refine ⟨_, rfl, ?_, (Keep.alloc _ _ _).more (Keep.alloc _ _ _)⟩
  rw [zcI]
  exact fresh_at w hn

set_option maxHeartbeats 2000000 in
theorem lenI {S : Nat → Prop} {P m : Nat} {at_ : Nat → Nat} {row : Nat → Nat → List Nat} {s : St} (w : World) (h : WIn 75 80 S w P m at_ row s) (hok : Ok s) :
    Calls Try.prog 17 #[.pointer (some ⟨P, 0, none⟩)] w fun e w' => e = .returned (.int .i64 (s.ids.length : Nat)) ∧ w' = w := by
  have c2 := h.cmap
  have hlen := h.len hok mapTI
  go_enter Try.func17, Try.ntmps17
  go_wp2
  go_ret
  exact ⟨rfl, rfl⟩
theorem zcS : Try.zeroCells95 = zcs.toArray := by kernel_rfl
set_option maxRecDepth 100000 in
set_option maxHeartbeats 4000000 in
theorem newS (n : Nat) (w : World) (hn : n ≤ M) :
    Calls Try.prog 19 #[.int .i64 n] w fun e w' => ∃ P, e = .returned (.tuple #[.pointer (some ⟨P, 0, none⟩), .int .i64 0]) ∧
      WAt 95 97 (fun k => w.heap.size ≤ k) w' P (fresh n) ∧ Keep (fun _ => False) w w' := by
  have h1 : ¬ ((n : Int) < 0) := by omega
  have h2 : ¬ ((4611686018427387904 : Int) < n) := by unfold M at hn; omega
  have hmm := @run_makeMap Try.prog
  go_enter Try.func19, Try.ntmps19
  go_wp2
  go_ret2
  refine ⟨_, rfl, ?_, (Keep.alloc _ _ _).more (Keep.alloc _ _ _)⟩
  rw [zcS]
  exact fresh_at w hn

set_option maxHeartbeats 2000000 in
theorem lenS {S : Nat → Prop} {P m : Nat} {at_ : Nat → Nat} {row : Nat → Nat → List Nat} {s : St} (w : World) (h : WIn 95 97 S w P m at_ row s) (hok : Ok s) :
    Calls Try.prog 22 #[.pointer (some ⟨P, 0, none⟩)] w fun e w' => e = .returned (.int .i64 (s.ids.length : Nat)) ∧ w' = w := by
  have c2 := h.cmap
  have hlen := h.len hok mapTS
  go_enter Try.func22, Try.ntmps22
  go_wp2
  go_ret
  exact ⟨rfl, rfl⟩

end Wh
end Go.Proofs.Ytbjapgajbljhfaa
