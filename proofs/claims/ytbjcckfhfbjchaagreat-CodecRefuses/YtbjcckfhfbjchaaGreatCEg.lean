/- Codec: partsOf, allWays (written by ceg_gen.py). -/
import Derived.Test.YtbjcckfhfbjchaaGreatCEf
import Derived.Great.BuildSlice
namespace Go.Proofs.YtbjcckfhfbjchaaGreat
namespace Cd
open Go.RowKit Go.Deep

/-- the parts that a kind uses -/
def prts (k : Int) : List Nat := if k = 1 then [0, 1] else if k = 2 then [2, 3] else if k = 3 then [4] else if k = 4 then [4, 5] else if k = 5 then [4] else if k = 6 then [6] else if k = 7 then [6] else if k = 8 then [7] else if k = 9 then [8] else []
/-- what partsOf gives -/
def Prts (w : World) (k : Int) (en : Ending) (w' : World) : Prop :=
  ∃ a, en = .returned (.slice a (prts k).length (prts k).length) ∧ Below w.heap.size w w' ∧ (prts k ≠ [] → a = some ⟨w.heap.size, 0, none⟩ ∧ w'.heap[w.heap.size]? = some (.cells ((prts k).map fun p => Value.int .i64 (p : Nat)).toArray 98 (0, 0)))
theorem parts1 (w : World) : Calls Tryz.prog 30 #[.int .i64 1] w (Prts w 1) := by
  have hbw : Below w.heap.size w (w.alloc (.cells #[.int .i64 0, .int .i64 1] 98)) := (Below.refl _ _).alloc (Nat.le_refl _) _
  have hx := heap_alloc_new w (.cells #[.int .i64 0, .int .i64 1] 98)
  have HB := hide hbw
  have HX := hide hx
  clear hbw hx
  go_enter Tryz.func30, Tryz.ntmps30
  go_wp2
  refine bodyPost_ret (results_tmp rfl _ _ _) rfl ?_
  exact ⟨_, rfl, HB.out, fun _ => ⟨rfl, HX.out⟩⟩
theorem parts2 (w : World) : Calls Tryz.prog 30 #[.int .i64 2] w (Prts w 2) := by
  have hbw : Below w.heap.size w (w.alloc (.cells #[.int .i64 2, .int .i64 3] 98)) := (Below.refl _ _).alloc (Nat.le_refl _) _
  have hx := heap_alloc_new w (.cells #[.int .i64 2, .int .i64 3] 98)
  have HB := hide hbw
  have HX := hide hx
  clear hbw hx
  go_enter Tryz.func30, Tryz.ntmps30
  go_wp2
  refine bodyPost_ret (results_tmp rfl _ _ _) rfl ?_
  exact ⟨_, rfl, HB.out, fun _ => ⟨rfl, HX.out⟩⟩
theorem parts3 (w : World) : Calls Tryz.prog 30 #[.int .i64 3] w (Prts w 3) := by
  have hbw : Below w.heap.size w (w.alloc (.cells #[.int .i64 4] 98)) := (Below.refl _ _).alloc (Nat.le_refl _) _
  have hx := heap_alloc_new w (.cells #[.int .i64 4] 98)
  have HB := hide hbw
  have HX := hide hx
  clear hbw hx
  go_enter Tryz.func30, Tryz.ntmps30
  go_wp2
  refine bodyPost_ret (results_tmp rfl _ _ _) rfl ?_
  exact ⟨_, rfl, HB.out, fun _ => ⟨rfl, HX.out⟩⟩
theorem parts4 (w : World) : Calls Tryz.prog 30 #[.int .i64 4] w (Prts w 4) := by
  have hbw : Below w.heap.size w (w.alloc (.cells #[.int .i64 4, .int .i64 5] 98)) := (Below.refl _ _).alloc (Nat.le_refl _) _
  have hx := heap_alloc_new w (.cells #[.int .i64 4, .int .i64 5] 98)
  have HB := hide hbw
  have HX := hide hx
  clear hbw hx
  go_enter Tryz.func30, Tryz.ntmps30
  go_wp2
  refine bodyPost_ret (results_tmp rfl _ _ _) rfl ?_
  exact ⟨_, rfl, HB.out, fun _ => ⟨rfl, HX.out⟩⟩
theorem parts5 (w : World) : Calls Tryz.prog 30 #[.int .i64 5] w (Prts w 5) := by
  have hbw : Below w.heap.size w (w.alloc (.cells #[.int .i64 4] 98)) := (Below.refl _ _).alloc (Nat.le_refl _) _
  have hx := heap_alloc_new w (.cells #[.int .i64 4] 98)
  have HB := hide hbw
  have HX := hide hx
  clear hbw hx
  go_enter Tryz.func30, Tryz.ntmps30
  go_wp2
  refine bodyPost_ret (results_tmp rfl _ _ _) rfl ?_
  exact ⟨_, rfl, HB.out, fun _ => ⟨rfl, HX.out⟩⟩
theorem parts6 (w : World) : Calls Tryz.prog 30 #[.int .i64 6] w (Prts w 6) := by
  have hbw : Below w.heap.size w (w.alloc (.cells #[.int .i64 6] 98)) := (Below.refl _ _).alloc (Nat.le_refl _) _
  have hx := heap_alloc_new w (.cells #[.int .i64 6] 98)
  have HB := hide hbw
  have HX := hide hx
  clear hbw hx
  go_enter Tryz.func30, Tryz.ntmps30
  go_wp2
  refine bodyPost_ret (results_tmp rfl _ _ _) rfl ?_
  exact ⟨_, rfl, HB.out, fun _ => ⟨rfl, HX.out⟩⟩
theorem parts7 (w : World) : Calls Tryz.prog 30 #[.int .i64 7] w (Prts w 7) := by
  have hbw : Below w.heap.size w (w.alloc (.cells #[.int .i64 6] 98)) := (Below.refl _ _).alloc (Nat.le_refl _) _
  have hx := heap_alloc_new w (.cells #[.int .i64 6] 98)
  have HB := hide hbw
  have HX := hide hx
  clear hbw hx
  go_enter Tryz.func30, Tryz.ntmps30
  go_wp2
  refine bodyPost_ret (results_tmp rfl _ _ _) rfl ?_
  exact ⟨_, rfl, HB.out, fun _ => ⟨rfl, HX.out⟩⟩
theorem parts8 (w : World) : Calls Tryz.prog 30 #[.int .i64 8] w (Prts w 8) := by
  have hbw : Below w.heap.size w (w.alloc (.cells #[.int .i64 7] 98)) := (Below.refl _ _).alloc (Nat.le_refl _) _
  have hx := heap_alloc_new w (.cells #[.int .i64 7] 98)
  have HB := hide hbw
  have HX := hide hx
  clear hbw hx
  go_enter Tryz.func30, Tryz.ntmps30
  go_wp2
  refine bodyPost_ret (results_tmp rfl _ _ _) rfl ?_
  exact ⟨_, rfl, HB.out, fun _ => ⟨rfl, HX.out⟩⟩
theorem parts9 (w : World) : Calls Tryz.prog 30 #[.int .i64 9] w (Prts w 9) := by
  have hbw : Below w.heap.size w (w.alloc (.cells #[.int .i64 8] 98)) := (Below.refl _ _).alloc (Nat.le_refl _) _
  have hx := heap_alloc_new w (.cells #[.int .i64 8] 98)
  have HB := hide hbw
  have HX := hide hx
  clear hbw hx
  go_enter Tryz.func30, Tryz.ntmps30
  go_wp2
  refine bodyPost_ret (results_tmp rfl _ _ _) rfl ?_
  exact ⟨_, rfl, HB.out, fun _ => ⟨rfl, HX.out⟩⟩
theorem parts0 (k : Int) (h1 : k ≠ 1) (h2 : k ≠ 2) (h3 : k ≠ 3) (h4 : k ≠ 4) (h5 : k ≠ 5) (h6 : k ≠ 6) (h7 : k ≠ 7) (h8 : k ≠ 8) (h9 : k ≠ 9) (w : World) : Calls Tryz.prog 30 #[.int .i64 k] w (Prts w k) := by
  have HP : Hid (prts k = []) := by
    show _ = _
    unfold prts
    rw [if_neg h1, if_neg h2, if_neg h3, if_neg h4, if_neg h5, if_neg h6, if_neg h7, if_neg h8, if_neg h9]
  have e1 : ((k : Int) == 1) = false := by simpa using h1
  have e2 : ((k : Int) == 2) = false := by simpa using h2
  have e3 : ((k : Int) == 3) = false := by simpa using h3
  have e4 : ((k : Int) == 4) = false := by simpa using h4
  have e5 : ((k : Int) == 5) = false := by simpa using h5
  have e6 : ((k : Int) == 6) = false := by simpa using h6
  have e7 : ((k : Int) == 7) = false := by simpa using h7
  have e8 : ((k : Int) == 8) = false := by simpa using h8
  have e9 : ((k : Int) == 9) = false := by simpa using h9
  clear h1 h2 h3 h4 h5 h6 h7 h8 h9
  go_enter Tryz.func30, Tryz.ntmps30
  go_wp2
  refine bodyPost_ret (results_tmp rfl _ _ _) rfl ?_
  unfold Prts
  rw [HP.out]
  exact ⟨none, rfl, Below.refl _ _, fun h => absurd rfl h⟩
theorem partsOf_any (k : Int) (w : World) : Calls Tryz.prog 30 #[.int .i64 k] w (Prts w k) := by
  by_cases h1 : k = 1
  · subst h1
    exact parts1 w
  by_cases h2 : k = 2
  · subst h2
    exact parts2 w
  by_cases h3 : k = 3
  · subst h3
    exact parts3 w
  by_cases h4 : k = 4
  · subst h4
    exact parts4 w
  by_cases h5 : k = 5
  · subst h5
    exact parts5 w
  by_cases h6 : k = 6
  · subst h6
    exact parts6 w
  by_cases h7 : k = 7
  · subst h7
    exact parts7 w
  by_cases h8 : k = 8
  · subst h8
    exact parts8 w
  by_cases h9 : k = 9
  · subst h9
    exact parts9 w
  exact parts0 k h1 h2 h3 h4 h5 h6 h7 h8 h9 w
theorem prts_lt {k : Int} {i p : Nat} (h : (prts k)[i]? = some p) : p < 9 := by
  have h := List.mem_of_getElem? h
  unfold prts at h
  repeat' split at h
  all_goals simp at h
  all_goals omega
theorem prts_len (k : Int) : (prts k).length ≤ 2 := by
  unfold prts
  repeat' split
  all_goals simp
/-- the functions that put and take a part -/
def ptF : Nat → FuncId
  | 0 => 84
  | 1 => 86
  | 2 => 88
  | 3 => 90
  | 4 => 92
  | 5 => 94
  | 6 => 96
  | 7 => 98
  | _ => 100
def tkF : Nat → FuncId
  | 0 => 85
  | 1 => 87
  | 2 => 89
  | 3 => 91
  | 4 => 93
  | 5 => 95
  | 6 => 97
  | 7 => 99
  | _ => 101
def waysC : Array Value := #[.func (.func 84) #[] #[], .func (.func 85) #[] #[], .func (.func 86) #[] #[], .func (.func 87) #[] #[], .func (.func 88) #[] #[], .func (.func 89) #[] #[], .func (.func 90) #[] #[], .func (.func 91) #[] #[], .func (.func 92) #[] #[], .func (.func 93) #[] #[], .func (.func 94) #[] #[], .func (.func 95) #[] #[], .func (.func 96) #[] #[], .func (.func 97) #[] #[], .func (.func 98) #[] #[], .func (.func 99) #[] #[], .func (.func 100) #[] #[], .func (.func 101) #[] #[]]
def nilsC : Array Value := #[.nilFunc, .nilFunc, .nilFunc, .nilFunc, .nilFunc, .nilFunc, .nilFunc, .nilFunc, .nilFunc, .nilFunc, .nilFunc, .nilFunc, .nilFunc, .nilFunc, .nilFunc, .nilFunc, .nilFunc, .nilFunc]
theorem waysPut (p : Nat) (h : p < 9) : waysC[2 * p]? = some (.func (.func (ptF p)) #[] #[]) := by
  rcases (by omega : p = 0 ∨ p = 1 ∨ p = 2 ∨ p = 3 ∨ p = 4 ∨ p = 5 ∨ p = 6 ∨ p = 7 ∨ p = 8) with rfl | rfl | rfl | rfl | rfl | rfl | rfl | rfl | rfl <;> rfl
theorem waysTake (p : Nat) (h : p < 9) : waysC[2 * p + 1]? = some (.func (.func (tkF p)) #[] #[]) := by
  rcases (by omega : p = 0 ∨ p = 1 ∨ p = 2 ∨ p = 3 ∨ p = 4 ∨ p = 5 ∨ p = 6 ∨ p = 7 ∨ p = 8) with rfl | rfl | rfl | rfl | rfl | rfl | rfl | rfl | rfl <;> rfl
theorem sizeWy : (Tryz.prog.info? 96).map (·.size) = some 18 := by kernel_rfl
theorem onesWy : waysC.all (·.oneCell') = true := by simp [waysC, Value.oneCell']
theorem allWays_any (w : World) : Calls Tryz.prog 44 #[] w fun en w' => en = .returned (.agg waysC) ∧ Below w.heap.size w w' := by
  have hx := heap_alloc_new w (.cells nilsC 96)
  have HX := hide hx
  have HB : Hid (Below w.heap.size w ((w.alloc (.cells nilsC 96)).setRow w.heap.size waysC)) := ((Below.refl _ _).alloc (Nat.le_refl _) _).trans ((keep_row _ _ _).below (by simp) fun k e => by rw [e]; exact Nat.le_refl _)
  clear hx
  go_enter Tryz.func44, Tryz.ntmps44
  go_upto_region 1 with fail
  change Code.wp _ _ _ _ (w.alloc (.cells nilsC 96))
  generalize w.alloc (.cells nilsC 96) = w1 at *
  go_wp2_with (refine wpList_store_row rfl 96 _ _ rfl w.heap.size waysC rfl rfl 96 _ HX.out sizeWy rfl onesWy ?_)
  have HXs := hide (setRow_heap w1 w.heap.size _ waysC _ _ HX.out)
  exact bodyPost_ret (results_cell_row rfl _ _ w.heap.size 96 waysC (0, 0) _ rfl HXs.out Tryz.underlying96 rfl sizeWy) rfl ⟨rfl, HB.out⟩
end Cd
end Go.Proofs.YtbjcckfhfbjchaaGreat
