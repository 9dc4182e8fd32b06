/- Package cron: expressions in memory, the tables, the days. -/
import Derived.Test.YtbgioclbjbmicaaDoorCPrim
import Derived.Test.YtbgioclbjbmicaaDoorXPar
import Derived.Deep.WholeRow
namespace Go.Proofs.YtbgioclbjbmicaaDoor
open Go.RowKit

/-- The bounds of the fields, as the package's variable holds them. -/
def bnds : List Int := [0, 59, 0, 23, 1, 31, 1, 12, 0, 6]
/-- The variables that the calls read. -/
structure Env (w : World) : Prop where
  tab : Tab w
  bnd : ∀ i : Nat, i < 10 → w.cell? ⟨0, i, none⟩ = some (.int .i64 (bnds.getD i 0))
  bsz : 0 < w.heap.size
theorem Env.keep {w w' : World} (h : Env w) (b : Below w.heap.size w w') : Env w' :=
  ⟨h.tab.keep b, fun i hi => by rw [b.cell (p := ⟨0, i, none⟩) h.bsz]; exact h.bnd i hi, Nat.lt_of_lt_of_le h.bsz b.size⟩
theorem Env.alloc {w : World} (h : Env w) (o : Obj) : Env (w.alloc o) := h.keep ((Below.refl _ _).alloc (Nat.le_refl _) _)
theorem Env.drew {w : World} (h : Env w) (n : Nat) : Env (w.drewN n) := h.keep ⟨rfl, rfl, rfl, Nat.le_refl _, fun _ _ => rfl⟩

theorem Below.put {a w : World} (h : Below a.heap.size a w) (o : Obj) : Below a.heap.size a (w.alloc o) := h.alloc h.size o
/-- A date in memory. -/
structure DatAt (w : World) (g : Nat) (y m d h i s k : Int) : Prop where
  c0 : w.cell? ⟨g, 0, none⟩ = some (.int .i64 y)
  c1 : w.cell? ⟨g, 1, none⟩ = some (.int .i64 m)
  c2 : w.cell? ⟨g, 2, none⟩ = some (.int .i64 d)
  c3 : w.cell? ⟨g, 3, none⟩ = some (.int .i64 h)
  c4 : w.cell? ⟨g, 4, none⟩ = some (.int .i64 i)
  c5 : w.cell? ⟨g, 5, none⟩ = some (.int .i64 s)
  c6 : w.cell? ⟨g, 6, none⟩ = some (.int .i64 k)
  lt : g < w.heap.size
  fr : ∀ j, w.frozen? ⟨g, j, none⟩ = false
theorem DatAt.keep {w w' : World} {g : Nat} {y m d h i s k : Int} (a : DatAt w g y m d h i s k) (b : Below w.heap.size w w') : DatAt w' g y m d h i s k :=
  ⟨by rw [b.cell (p := ⟨g, 0, none⟩) a.lt]; exact a.c0, by rw [b.cell (p := ⟨g, 1, none⟩) a.lt]; exact a.c1, by rw [b.cell (p := ⟨g, 2, none⟩) a.lt]; exact a.c2, by rw [b.cell (p := ⟨g, 3, none⟩) a.lt]; exact a.c3,
   by rw [b.cell (p := ⟨g, 4, none⟩) a.lt]; exact a.c4, by rw [b.cell (p := ⟨g, 5, none⟩) a.lt]; exact a.c5, by rw [b.cell (p := ⟨g, 6, none⟩) a.lt]; exact a.c6, Nat.lt_of_lt_of_le a.lt b.size, fun j => by rw [b.frozen (p := ⟨g, j, none⟩) a.lt]; exact a.fr j⟩
theorem DatAt.new (w : World) (y m d h i s k : Int) (t : TypeId) : DatAt (w.alloc (.cells #[.int .i64 y, .int .i64 m, .int .i64 d, .int .i64 h, .int .i64 i, .int .i64 s, .int .i64 k] t)) w.heap.size y m d h i s k := by
  constructor
  case lt => exact Nat.lt_of_lt_of_le (Nat.lt_succ_self _) (Nat.le_of_eq (by show _ = (w.heap.push _).size; simp))
  case fr => intro j; simp
  all_goals (rw [cell_of_row _ _ _ _ t (0, 0) (heap_alloc_new w _)]; rfl)
theorem DatAt.alloc {w : World} {g : Nat} {y m d h i s k : Int} (a : DatAt w g y m d h i s k) (o : Obj) : DatAt (w.alloc o) g y m d h i s k := a.keep ((Below.refl _ _).alloc (Nat.le_refl _) _)
/-- An expression in memory. -/
structure ExprAt (w : World) (g : Nat) (S : X.Sets) : Prop where
  c : ∀ i, i < 300 → w.cell? ⟨g, i, none⟩ = some (.bool (S i))
theorem ExprAt.lt {w : World} {g : Nat} {S : X.Sets} (h : ExprAt w g S) : g < w.heap.size := World.block_lt_of_cell? _ ⟨g, 0, none⟩ (h.c 0 (by decide))
theorem ExprAt.keep {w w' : World} {g : Nat} {S : X.Sets} (h : ExprAt w g S) (b : Below w.heap.size w w') : ExprAt w' g S :=
  ⟨fun i hi => by rw [b.cell (p := ⟨g, i, none⟩) h.lt]; exact h.c i hi⟩
theorem ExprAt.alloc {w : World} {g : Nat} {S : X.Sets} (h : ExprAt w g S) (o : Obj) : ExprAt (w.alloc o) g S := h.keep ((Below.refl _ _).alloc (Nat.le_refl _) _)

/-- 60 bools as a value. -/
def row60 (f : Nat → Bool) : Array Value := Array.ofFn (n := 60) fun i => .bool (f i.val)
theorem row60_size (f : Nat → Bool) : (row60 f).size = 60 := by simp [row60]
theorem row60_at (f : Nat → Bool) (i : Nat) (h : i < 60) : (row60 f)[i]? = some (.bool (f i)) := by simp [row60, h]
theorem row60_congr {f g : Nat → Bool} (h : ∀ i, i < 60 → f i = g i) : row60 f = row60 g := by
  unfold row60
  congr 1
  funext i
  rw [h i.val i.isLt]
theorem row60_set (f g : Nat → Bool) (k : Nat) (b : Bool) (h : k < 60) (hg : ∀ i, i < 60 → g i = if i = k then b else f i) : (row60 f).setIfInBounds k (.bool b) = row60 g := by
  apply Array.ext_getElem?
  intro i
  rw [Array.getElem?_setIfInBounds]
  by_cases hi : i < 60
  · rw [row60_at _ _ hi, row60_at _ _ hi, hg i hi]
    by_cases e : k = i
    · subst e; simp [row60_size, h]
    · rw [if_neg e, if_neg (fun e' => e e'.symm)]
  · have hs := row60_size f
    have hs' := row60_size g
    rw [if_neg (by omega), Array.getElem?_eq_none (by omega), Array.getElem?_eq_none (by omega)]
theorem row60_one (f : Nat → Bool) : (row60 f).all (·.oneCell') = true := by
  have h : ∀ v ∈ row60 f, v.oneCell' = true := by
    intro v hv
    unfold row60 at hv
    rw [Array.mem_ofFn] at hv
    obtain ⟨i, rfl⟩ := hv
    rfl
  rw [Array.all_eq_true']
  exact h
def zero60 : Array Value := row60 fun _ => false
theorem zero60_eq : Array.replicate 60 (Value.bool false) = zero60 := by
  unfold zero60 row60
  apply Array.ext
  · simp
  · intro i h1 h2
    simp
theorem info_set : (Tryd.prog.info? 57).map (fun i => (i.zero, i.size)) = some (some (.agg (Array.replicate 60 (.bool false))), 60) := by kernel_rfl
theorem zero_set (w : World) : (zeroValue 57).run Tryd.prog w = .ok (.agg zero60) w := by rw [← zero60_eq]; exact (zero_of_info info_set).1 w
theorem size_set : (Tryd.prog.info? 57).map (·.size) = some 60 := (zero_of_info info_set).2
theorem heap_setRow_other (w : World) (g k : Nat) (cs : Array Value) (h : k ≠ g) : (w.setRow g cs).heap[k]? = w.heap[k]? := by
  simp only [World.setRow, Array.getElem?_modify]
  rw [if_neg (fun e => h e.symm)]
theorem below_setRow {B : Nat} {a w : World} (h : Below B a w) (g : Nat) (cs : Array Value) (hg : B ≤ g) : Below B a (w.setRow g cs) :=
  ⟨h.os, h.tape, h.output, by rw [size_setRow]; exact h.size, fun k hk => by rw [heap_setRow_other _ _ _ _ (by omega)]; exact h.block k hk⟩

theorem load_set {ops : Array Oper} {rest : List Oper} {a : Act} {w : World} {Q : Exit → Act → World → Prop} {o : Oper} (hgd : o.guard = none) (x : Operand) (ho : o.op = .load 57 x) (g : Nat) (t : Array Value) (fr : Nat × Nat)
    (hx : a.eval x = .pointer (some ⟨g, 0, none⟩)) (hg : w.heap[g]? = some (.cells t 57 fr)) (hs : t.size = 60) (h : wpList Tryd.prog ops Q rest (a.put o.dst (.agg t)) w) :
    wpList Tryd.prog ops Q (o :: rest) a w :=
  wpList_load_row hgd 57 x ho g hx 57 t fr _ hg Tryd.underlying57 rfl (by rw [hs]; exact size_set) h
theorem store_set {ops : Array Oper} {rest : List Oper} {a : Act} {w : World} {Q : Exit → Act → World → Prop} {o : Oper} (hgd : o.guard = none) (x y : Operand) (ho : o.op = .store 57 x y) (g : Nat) (t c : Array Value)
    (hx : a.eval x = .pointer (some ⟨g, 0, none⟩)) (hy : a.eval y = .agg t) (hg : w.heap[g]? = some (.cells c 57)) (hs : t.size = 60) (hc : c.size = 60) (h1 : t.all (·.oneCell') = true) (h : wpList Tryd.prog ops Q rest (a.put o.dst undef) (w.setRow g t)) :
    wpList Tryd.prog ops Q (o :: rest) a w :=
  wpList_store_row hgd 57 x y ho g t hx hy 57 c hg (by rw [hs]; exact size_set) (by rw [hc, hs]) h1 h

/-- The set of all values within bounds. -/
def allF (lo hi v : Nat) : Bool := decide (lo ≤ v) && decide (v ≤ hi)
def partF (lo k v : Nat) : Bool := decide (lo ≤ v) && decide (v < k)
set_option maxHeartbeats 400000 in
set_option maxRecDepth 100000 in
theorem all_any (lo hi : Nat) (hl : lo ≤ hi) (h : hi < 60) (w : World) :
    Calls Tryd.prog 41 #[.agg #[.int .i64 lo, .int .i64 hi]] w fun e w' => e = .returned (.agg (row60 (allF lo hi))) ∧ Below w.heap.size w w' := by
  have hz := zero_set
  go_enter Tryd.func41, Tryd.ntmps41
  go_wp2_with fail
  go_loopw [4] (fun i wx => ∃ k : Nat, lo ≤ k ∧ k ≤ hi + 1 ∧ i = .int .i64 k ∧ wx = ((w.alloc (.cells #[.int .i64 lo, .int .i64 hi] 54)).alloc (.cells zero60 57)).alloc (.cells (row60 (partF lo k)) 57)) (fun i _ => hi + 1 - (intOf i).toNat)
  case atStart => exact ⟨lo, by omega, by omega, rfl, by rw [show zero60 = row60 (partF lo lo) from row60_congr (fun i _ => by simp [partF] <;> omega)]⟩
  case round =>
    obtain ⟨k, hk0, hk, rfl, rfl⟩ := hrel
    by_cases hlt : k ≤ hi
    · have hkt : k < (row60 (partF lo k)).size := by rw [row60_size]; omega
      have HS : Hid ((row60 (partF lo k)).setIfInBounds k (.bool true) = row60 (partF lo (k + 1))) := row60_set _ _ k true (by omega) (fun i _ => by
        unfold partF
        by_cases e : i = k
        · subst e; simp; omega
        · rw [if_neg e, show decide (i < k + 1) = decide (i < k) from decide_eq_decide.2 (by omega)])
      have h60 : (k : Int) < 60 := by omega
      generalize row60 (partF lo k) = t at *
      go_wp2_with fail
      exact ⟨⟨k + 1, by omega, by omega, by go_num, by rw [HS.out]⟩, by simp [intOf]; omega⟩
    · have ht0 : row60 (partF lo k) = row60 (allF lo hi) := row60_congr (fun i _ => by
        obtain rfl : k = hi + 1 := by omega
        simp [partF, allF, Nat.lt_succ_iff])
      rw [ht0]
      have h1 := heap_alloc2_new (w.alloc (.cells #[.int .i64 lo, .int .i64 hi] 54)) (.cells zero60 57) (.cells (row60 (allF lo hi)) 57)
      have h2 := heap_alloc2_old (w.alloc (.cells #[.int .i64 lo, .int .i64 hi] 54)) (.cells zero60 57) (.cells (row60 (allF lo hi)) 57)
      have h3 : (Tryd.prog.info? 57).map (·.size) = some (row60 (allF lo hi)).size := by rw [row60_size]; exact size_set
      have h4 : zero60.size = (row60 (allF lo hi)).size := by unfold zero60; rw [row60_size, row60_size]
      have h5 := row60_one (allF lo hi)
      have hsz : (w.alloc (.cells #[.int .i64 lo, .int .i64 hi] 54)).heap.size = w.heap.size + 1 := by simp
      rw [hsz] at h1 h2
      have B0 : Below w.heap.size w (((w.alloc (.cells #[.int .i64 lo, .int .i64 hi] 54)).alloc (.cells zero60 57)).alloc (.cells (row60 (allF lo hi)) 57)) := Below.put (Below.put (Below.put (Below.refl _ _) _) _) _
      have hc : (((w.alloc (.cells #[.int .i64 lo, .int .i64 hi] 54)).alloc (.cells zero60 57)).alloc (.cells (row60 (allF lo hi)) 57)).cell? ⟨w.heap.size, 1, none⟩ = some (.int .i64 hi) := by
        rw [World.cell?_alloc_old _ _ _ (by simp <;> omega), World.cell?_alloc_old _ _ _ (by simp <;> omega), cell_of_row _ _ _ _ 54 (0, 0) (heap_alloc_new w _)]; rfl
      generalize (((w.alloc (.cells #[.int .i64 lo, .int .i64 hi] 54)).alloc (.cells zero60 57)).alloc (.cells (row60 (allF lo hi)) 57)) = W0 at *
      have B1 := below_setRow B0 (w.heap.size + 1) (row60 (allF lo hi)) (by omega)
      have h6 : (W0.setRow (w.heap.size + 1) (row60 (allF lo hi))).heap[w.heap.size + 1]? = some (.cells (row60 (allF lo hi)) 57) := setRow_heap _ _ _ _ _ _ h2
      have HB := hide B1
      generalize w.heap.size + 1 + 1 = g2 at *
      generalize w.heap.size + 1 = g1 at *
      have HSz := hide (row60_size (allF lo hi))
      have HSc := hide (show zero60.size = 60 from row60_size fun _ => false)
      have H1 := hide h1
      have H2 := hide h2
      have H3 := hide h3
      have H4 := hide h4
      have H5 := hide h5
      have H6 := hide h6
      clear h1 h2 h3 h4 h5 h6 B0 B1 ht0 hsz hl hk0 hk hz
      generalize ht : row60 (allF lo hi) = t at *
      have HT := hide ht
      clear ht
      go_wp2_with (first | (refine load_set rfl _ rfl g2 t (0, 0) rfl H1.out HSz.out ?_) | (refine store_set rfl _ _ rfl g1 t zero60 rfl rfl H2.out HSz.out HSc.out H5.out ?_))
      refine bodyPost_ret (v := .agg t) ?_ rfl ⟨by rw [HT.out], HB.out⟩
      exact results_cell_row (P := Tryd.prog) (fn := Tryd.f41) rfl _ _ g1 57 t (0, 0) _ rfl H6.out Tryd.underlying57 rfl H3.out
end Go.Proofs.YtbgioclbjbmicaaDoor
