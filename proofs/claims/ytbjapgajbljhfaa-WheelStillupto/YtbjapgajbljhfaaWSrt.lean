/- Package wheel: a list of timers, sorted (slices.SortFunc at Timer[int]). -/
import Derived.Test.YtbjapgajbljhfaaSor
import Derived.Test.YtbjapgajbljhfaaWAl1
import Derived.Test.YtbjapgajbljhfaaWAlM
import Derived.Test.YtbjapgajbljhfaaWAdA
namespace Go.Proofs.Ytbjapgajbljhfaa
namespace Wh
open Go.RowKit Go.Shelf Go.Lib Go.Sort

theorem flat3_get {α : Type} [Inhabited α] {enc : α → List Value} (hk : ∀ x, (enc x).length = 3) : ∀ (l : List α) (t : Nat), t < l.length * 3 → (l.flatMap enc)[t]? = some ((enc l[t / 3]!)[t % 3]!)
  | [], t, h => by simp at h
  | a :: r, t, h => by
    rw [List.flatMap_cons]
    by_cases ht : t < 3
    · rw [List.getElem?_append_left (by rw [hk]; exact ht), Nat.div_eq_of_lt ht, Nat.mod_eq_of_lt ht, List.getElem?_eq_getElem (by rw [hk]; exact ht)]
      simp [getElem!_pos, hk, ht]
    · rw [List.getElem?_append_right (by rw [hk]; omega), hk, flat3_get hk r (t - 3) (by simp at h; omega)]
      have e1 : t / 3 = (t - 3) / 3 + 1 := by omega
      have e2 : t % 3 = (t - 3) % 3 := by omega
      rw [e1, e2]
      simp
theorem flatK_list {α : Type} [Inhabited α] {enc : α → List Value} (hk : ∀ x, (enc x).length = 3) (l : List α) : (flatK enc 3 l.toArray).toList = l.flatMap enc := by
  apply List.ext_getElem?
  intro t
  by_cases h : t < l.length * 3
  · rw [flat3_get hk l t h, Array.getElem?_toList, Array.getElem?_eq_getElem (by simpa using h)]
    have := get_flatK enc 3 l.toArray t (by simpa using h)
    rw [getElem!_pos _ t (by simpa using h)] at this
    rw [this]
    simp
  · rw [Array.getElem?_toList, Array.getElem?_eq_none (by simpa using h), List.getElem?_eq_none]
    have hl : ∀ l : List α, (l.flatMap enc).length = l.length * 3 := fun l => by
      induction l with
      | nil => rfl
      | cons a r ih => rw [List.flatMap_cons, List.length_append, hk, ih, List.length_cons]; omega
    rw [hl]
    omega

/-- the row behind a contract in the sort's words -/
theorem sorted_own {w : World} {base : Nat} {e : TypeId} {g n cap q : Nat} {xs ys : List Value} {os : Array Obj} (h : w.ownsRow base e 3 (.slice (some ⟨g, 0, none⟩) n cap) n xs) (hy : ys.length = n * 3) :
    (grow (putRow id (Sort.ahead w q) g 0 ys.toArray) os).ownsRow base e 3 (.slice (some ⟨g, 0, none⟩) n cap) n ys ∧ Keep (fun k => k = g) w (grow (putRow id (Sort.ahead w q) g 0 ys.toArray) os) := by
  rcases h.2 with ⟨e0, _⟩ | ⟨g', cap', cur, e0, hb, hg, hn, hm, hs, ht⟩
  · cases e0
  · injection e0 with e1 _ e3
    injection e1 with e1
    injection e1 with e1
    subst e1; subst e3
    have hgl := (Array.getElem?_eq_some_iff.1 hg).1
    have h1 : (putRow id (Sort.ahead w q) g 0 ys.toArray).heap[g]? = some (.cells (putCells id 0 ys.toArray cur) e (0, 0)) := by simp [putRow, mapBlock, Sort.ahead, Array.getElem?_modify, hg, onCells]
    refine ⟨⟨hy, .inr ⟨g, cap, putCells id 0 ys.toArray cur, rfl, hb, ?_, hn, hm, by simpa [putCells] using hs, ?_⟩⟩, rfl, rfl, rfl, ?_, fun k hk hne => ?_⟩
    · unfold grow
      rw [Array.getElem?_append_left (by simpa [Sort.ahead] using hgl)]
      exact h1
    · apply List.ext_getElem?
      intro j
      rw [List.getElem?_take, Array.getElem?_toList]
      by_cases hj : j < n * 3
      · have hjc : j < cur.size := by rw [hs]; exact Nat.lt_of_lt_of_le hj (Nat.mul_le_mul_right 3 hn)
        simp only [if_pos hj, putCells, Array.getElem?_mapIdx, Array.getElem?_eq_getElem hjc, Option.map_some]
        rw [if_pos (by simp; omega), List.getElem?_eq_getElem (by omega)]
        simp [getElem!_pos, show j < ys.length by omega]
      · simp [hj, show ys.length ≤ j by omega]
    · have : (grow (putRow id (Sort.ahead w q) g 0 ys.toArray) os).heap.size = w.heap.size + os.size := by simp [grow, Sort.ahead]
      omega
    · unfold grow
      rw [Array.getElem?_append_left (by simpa [Sort.ahead] using hk)]
      simp [putRow, mapBlock, Sort.ahead, Array.getElem?_modify, Ne.symm hne]

set_option maxRecDepth 100000 in
set_option maxHeartbeats 4000000 in
theorem sort_any {base g n cap : Nat} {s : St} {ids : List Nat} (wi : Nat → Int) (w : World) (hwt : ∀ id ∈ ids, s.what id = .int .i64 (wi id)) (h : w.ownsRow base 32 3 (.slice (some ⟨g, 0, none⟩) n cap) n (cells3 s ids)) (hn : n = ids.length) (hn2 : n ≤ 1048580) :
    Calls Try.prog 30 #[.slice (some ⟨g, 0, none⟩) n cap, .func (.func 31) #[] #[]] w fun e w' => e = .returned (.tuple #[]) ∧
      w'.ownsRow base 32 3 (.slice (some ⟨g, 0, none⟩) n cap) n (cells3 s (ids.mergeSort fun x y => !ltS s y x)) ∧ Keep (fun k => k = g) w w' := by
  have hk : ∀ x : Nat, ([.int .i64 (x : Nat), .int .i64 (s.due x : Nat), .int .i64 (wi x)] : List Value).length = 3 := fun _ => rfl
  have hc : ∀ l : List Nat, (∀ x ∈ l, x ∈ ids) → cells3 s l = l.flatMap fun x => [.int .i64 (x : Nat), .int .i64 (s.due x : Nat), .int .i64 (wi x)] := fun l hl => by
    unfold cells3
    rw [List.flatMap_def, List.flatMap_def]
    congr 1
    exact List.map_congr_left fun x hx => by rw [hwt x (hl x hx)]
  have hH : HoldsK (fun x : Nat => [Value.int .i64 (x : Nat), .int .i64 (s.due x : Nat), .int .i64 (wi x)]) 3 w g 0 ids.toArray := by
    intro j hj
    rcases h.2 with ⟨e0, _⟩ | ⟨g', cap', cur, e0, hb, hg, hnn, hm, hs, ht⟩
    · cases e0
    · injection e0 with e1 _ e3
      injection e1 with e1
      injection e1 with e1
      subst e1
      refine ⟨?_, frozen_blk hg _⟩
      have hj' : j < ids.length * 3 := by simpa using hj
      have e1 := flat3_get hk ids j hj'
      rw [← hc ids (fun _ h => h), ← ht, List.getElem?_take, if_pos (by rw [hn]; exact hj')] at e1
      rw [Nat.zero_add]
      refine cell_blk hg j ?_
      rw [get_flatK _ 3 _ j (by simpa using hj')]
      simpa using e1
  have hlt : g < w.heap.size := by
    rcases h.2 with ⟨e0, _⟩ | ⟨g', cap', cur, e0, hb, hg, hnn, hm, hs, ht⟩
    · cases e0
    · injection e0 with e1 _ e3
      injection e1 with e1
      injection e1 with e1
      subst e1
      exact (Array.getElem?_eq_some_iff.1 hg).1
  have hcon := AnyQ.slices_SortFunc_total Try.sortT 3 Try.isAgg32 Try.sizeOf32 (fun x : Nat => [.int .i64 (x : Nat), .int .i64 (s.due x : Nat), .int .i64 (wi x)]) (fun _ => rfl) (fun x v hv => by simp at hv; rcases hv with rfl | rfl | rfl <;> rfl) (cmpS s) (ltS_swo s) 31 #[] g 0 cap ids.toArray w (enters_of Try.func31 (by kernel_rfl) rfl)
    (fun m os dk hdk x y => (all1_any (x, s.due x, wi x) (y, s.due y, wi y) _).mono fun e w' ⟨h1, h2⟩ => ⟨h1, h2⟩) hH hlt (by simp; omega) (fun x y h1 h2 => ltS_total h1 h2)
  have hsz : ids.toArray.size = n := by simp [hn]
  rw [hsz] at hcon
  refine Calls.mono hcon ?_
  rintro e w' ⟨rfl, q, os, rfl⟩
  have hperm := List.mergeSort_perm ids (fun x y => !ltS s y x)
  have hfl : flatK (fun x : Nat => [Value.int .i64 (x : Nat), .int .i64 (s.due x : Nat), .int .i64 (wi x)]) 3 (ids.mergeSort fun x y => !ltS s y x).toArray = (cells3 s (ids.mergeSort fun x y => !ltS s y x)).toArray := by
    apply Array.toList_inj.1
    rw [flatK_list hk, hc _ (fun x hx => hperm.mem_iff.1 hx)]
  have hso := sorted_own (q := q) (os := os) h (ys := cells3 s (ids.mergeSort fun x y => !ltS s y x)) (by rw [cells3_length, hperm.length_eq, hn])
  rw [← hfl] at hso
  exact ⟨rfl, hso.1, hso.2⟩

end Wh
end Go.Proofs.Ytbjapgajbljhfaa
