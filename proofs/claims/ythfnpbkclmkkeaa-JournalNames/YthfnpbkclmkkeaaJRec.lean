/- Package journal: records and what is held, in memory. -/
import Derived.Test.YthfnpbkclmkkeaaJFirst
import Derived.Test.YthfnpbkclmkkeaaDPrt
import Derived.Deep.AppendLies
namespace Go.Proofs.Ythfnpbkclmkkeaa
open Go.RowKit Go.Lib

/-- records: a row of rows, all of them blocks of R -/
structure RecsX (R : Nat → Prop) (w : World) (v : Value) (rs : List (List Nat)) (xs : List Value) : Prop where
  own : w.ownsRow 0 32 1 v rs.length xs
  row : ∀ j (h : j < rs.length), ∃ u, xs[j]? = some u ∧ Row w u rs[j] ∧ ∀ g, u.ownBlock = some g → R g
  blk : ∀ g, v.ownBlock = some g → R g

theorem RecsX.nil (R : Nat → Prop) (w : World) : RecsX R w (.slice none 0 0) [] [] := ⟨World.ownsRow_nil w _ _ _, (fun j h => by cases h), (fun g e => by cases e)⟩
theorem RecsX.keep {R T : Nat → Prop} {w w' : World} {v : Value} {rs : List (List Nat)} {xs : List Value} (h : RecsX R w v rs xs) (hk : Keep T w w') (hT : ∀ g, R g → g < w.heap.size → ¬ T g) : RecsX R w' v rs xs :=
  ⟨ownsRow_keep h.own hk fun g e => hT g (h.blk g e) (h.own.lt g e).2, fun j hj => by
    obtain ⟨u, h1, h2, h3⟩ := h.row j hj
    exact ⟨u, h1, h2.keep hk fun g e => hT g (h3 g e) (h2.1.lt g e).2, h3⟩, h.blk⟩
theorem RecsX.mono {R R' : Nat → Prop} {w : World} {v : Value} {rs : List (List Nat)} {xs : List Value} (h : RecsX R w v rs xs) (hR : ∀ g, R g → R' g) : RecsX R' w v rs xs :=
  ⟨h.own, fun j hj => by
    obtain ⟨u, h1, h2, h3⟩ := h.row j hj
    exact ⟨u, h1, h2, fun g e => hR g (h3 g e)⟩, fun g e => hR g (h.blk g e)⟩
/-- a row of bytes lies elsewhere than a row of rows -/
theorem row_not {w : World} {v u : Value} {n : Nat} {xs : List Value} {r : List Nat} (h : w.ownsRow 0 32 1 v n xs) (hu : Row w u r) {g : Nat} (e : u.ownBlock = some g) : v.ownBlock ≠ some g := fun e2 => by
  obtain ⟨cs, hc⟩ := row_blk hu e
  rcases h.2 with ⟨h1, _⟩ | ⟨g', cap, cur, h1, _, h2, _⟩
  · rw [h1] at e2; cases e2
  · rw [h1] at e2
    have e3 : g' = g := by injection e2
    rw [e3, hc] at h2
    injection h2 with h2
    simp at h2
/-- records appended -/
theorem RecsX.adds {R : Nat → Prop} {w w' : World} {v v' : Value} {rs rs2 : List (List Nat)} {xs xs2 : List Value} (h : RecsX R w v rs xs)
    (h2 : ∀ j (h : j < rs2.length), ∃ u, xs2[j]? = some u ∧ Row w u rs2[j] ∧ ∀ g, u.ownBlock = some g → R g)
    (ho : w'.ownsRow 0 32 1 v' (rs.length + rs2.length) (xs ++ xs2)) (hgr : w.grownBy w' v.ownBlock) (hv' : ∀ g, v'.ownBlock = some g → R g) : RecsX R w' v' (rs ++ rs2) (xs ++ xs2) := by
  have hk : Keep (fun i => v.ownBlock = some i) w w' := Keep.grown hgr fun _ e => e
  have hxl : xs.length = rs.length := by have := h.own.1; omega
  refine ⟨by rw [List.length_append]; exact ho, fun j hj => ?_, hv'⟩
  rw [List.length_append] at hj
  by_cases e : j < rs.length
  · obtain ⟨u, h3, h4, h5⟩ := h.row j e
    rw [List.getElem_append_left e, List.getElem?_append_left (by omega)]
    exact ⟨u, h3, h4.keep hk fun g hg e' => row_not h.own h4 hg e', h5⟩
  · obtain ⟨u, h3, h4, h5⟩ := h2 (j - rs.length) (by omega)
    rw [List.getElem_append_right (by omega), List.getElem?_append_right (by omega), hxl]
    exact ⟨u, h3, h4.keep hk fun g hg e' => row_not h.own h4 hg e', h5⟩

/-- the cells of what is held -/
def HCells (R : Nat → Prop) (w : World) (cs : Array Value) (h : J.Held) : Prop :=
  ∃ vi vr xs, cs = #[.bool h.begun, vi, vr, .int .i64 (h.next : Nat)] ∧ Row w vi h.image ∧ (∀ g, vi.ownBlock = some g → R g) ∧ RecsX R w vr h.records xs

theorem HCells.keep {R T : Nat → Prop} {w w' : World} {cs : Array Value} {h : J.Held} (H : HCells R w cs h) (hk : Keep T w w') (hT : ∀ g, R g → g < w.heap.size → ¬ T g) : HCells R w' cs h := by
  obtain ⟨vi, vr, xs, h1, h2, h3, h4⟩ := H
  exact ⟨vi, vr, xs, h1, h2.keep hk fun g e => hT g (h3 g e) (h2.1.lt g e).2, h3, h4.keep hk hT⟩
theorem HCells.mono {R R' : Nat → Prop} {w : World} {cs : Array Value} {h : J.Held} (H : HCells R w cs h) (hR : ∀ g, R g → R' g) : HCells R' w cs h := by
  obtain ⟨vi, vr, xs, h1, h2, h3, h4⟩ := H
  exact ⟨vi, vr, xs, h1, h2, fun g e => hR g (h3 g e), h4.mono hR⟩

/-- a block of another type is none of a row's -/
theorem row_far {w : World} {v : Value} {l : List Nat} (h : Row w v l) {B : Nat} {cs : Array Value} {t : TypeId} (hb : w.heap[B]? = some (.cells cs t (0, 0))) (ht : t ≠ 5) {g : Nat} (e : v.ownBlock = some g) : g ≠ B := fun e' => by
  obtain ⟨c', hc⟩ := row_blk h e
  rw [e', hb] at hc
  injection hc with hc
  injection hc with _ hc _
  exact ht hc
theorem rows_far {w : World} {v : Value} {n : Nat} {xs : List Value} (h : w.ownsRow 0 32 1 v n xs) {B : Nat} {cs : Array Value} {t : TypeId} (hb : w.heap[B]? = some (.cells cs t (0, 0))) (ht : t ≠ 32) {g : Nat} (e : v.ownBlock = some g) : g ≠ B := fun e' => by
  rcases h.2 with ⟨h1, _⟩ | ⟨g', cap, cur, h1, _, h2, _⟩
  · rw [h1] at e; cases e
  · rw [h1] at e
    have e3 : g' = g := by injection e
    rw [e3, e', hb] at h2
    injection h2 with h2
    injection h2 with _ h2 _
    exact ht h2
theorem RecsX.far {R : Nat → Prop} {w w' : World} {v : Value} {rs : List (List Nat)} {xs : List Value} (h : RecsX R w v rs xs) {B : Nat} {cs : Array Value} {t : TypeId} (hb : w.heap[B]? = some (.cells cs t (0, 0))) (ht : t ≠ 5) (ht' : t ≠ 32) (hk : Keep (fun i => i = B) w w') : RecsX R w' v rs xs :=
  ⟨ownsRow_keep h.own hk fun g e e' => rows_far h.own hb ht' e e', fun j hj => by
    obtain ⟨u, h1, h2, h3⟩ := h.row j hj
    exact ⟨u, h1, h2.keep hk fun g e e' => row_far h2 hb ht e e', h3⟩, h.blk⟩
theorem HCells.far {R : Nat → Prop} {w w' : World} {cs : Array Value} {h : J.Held} (H : HCells R w cs h) {B : Nat} {c' : Array Value} {t : TypeId} (hb : w.heap[B]? = some (.cells c' t (0, 0))) (ht : t ≠ 5) (ht' : t ≠ 32) (hk : Keep (fun i => i = B) w w') : HCells R w' cs h := by
  obtain ⟨vi, vr, xs, h1, h2, h3, h4⟩ := H
  exact ⟨vi, vr, xs, h1, h2.keep hk fun g e e' => row_far h2 hb ht e e', h3, h4.far hb ht ht' hk⟩

theorem info_sl : (Try.prog.info? 32).map (fun i => (i.zero, i.size, i.bytes)) = some (some (.slice none 0 0), 1, 24) := by kernel_rfl

/-- a list of one list of bytes, just made -/
theorem one_part {w W : World} {t : TypeId} {v1 : Value} {l1 : List Nat} (hW : W = w.alloc (.cells #[v1] t)) (h1 : RdV w v1 l1) : RdL W (some ⟨w.heap.size, 0, none⟩) 1 [l1] := by
  have hb : W.heap[w.heap.size]? = some (.cells #[v1] t (0, 0)) := by rw [hW]; exact heap_alloc_new w _
  have hk : Keep (fun _ => False) w W := by rw [hW]; exact Keep.alloc _ _ _
  refine ⟨rfl, by decide, .inr ⟨w.heap.size, 0, rfl, fun j hj => ?_⟩⟩
  match j, hj with
  | 0, _ => exact ⟨v1, cell_blk hb 0 rfl, h1.keep hk⟩

/-- lay of one list -/
theorem jlay_one (w : World) (t : TypeId) (a : Option Addr) (n c : Nat) (l : List Nat) (h : Rd w a n l) (h0 : a = none → c = 0) (hn : n ≤ 35184372088832) :
    Calls Try.prog 43 #[.slice (some ⟨w.heap.size, 0, none⟩) 1 1] (w.alloc (.cells #[.slice a n c] t)) (LaidJ w l) := by
  obtain ⟨W, hW⟩ : ∃ W, W = w.alloc (.cells #[.slice a n c] t) := ⟨_, rfl⟩
  have hr := one_part hW ⟨a, n, c, rfl, h, h0⟩
  have hk : Keep (fun _ => False) w W := by rw [hW]; exact Keep.alloc _ _ _
  rw [← hW]
  have := jlay_any (some ⟨w.heap.size, 0, none⟩) 1 1 [l] W hr (by have := h.1; simp; omega)
  rw [show [l].flatten = l by simp] at this
  exact this.mono fun e w' ⟨v, e1, e2, e3, e4⟩ => ⟨v, e1, e2, hk.more e3, fun g e => Nat.le_trans hk.size (e4 g e)⟩

theorem jlay_one_drew (w : World) (t : TypeId) (a : Option Addr) (n c : Nat) (l : List Nat) (h : Rd w a n l) (h0 : a = none → c = 0) (hn : n ≤ 35184372088832) :
    Calls Try.prog 43 #[.slice (some ⟨w.heap.size, 0, none⟩) 1 1] (w.alloc (.cells #[.slice a n c] t)).drew (LaidJ w l) := by
  obtain ⟨W, hW⟩ : ∃ W, W = w.alloc (.cells #[.slice a n c] t) := ⟨_, rfl⟩
  have hr := (one_part hW ⟨a, n, c, rfl, h, h0⟩).keep (Keep.drew _ _)
  have hk : Keep (fun _ => False) w W.drew := by rw [hW]; exact (Keep.alloc _ _ _).more (Keep.drew _ _)
  rw [← hW]
  have := jlay_any (some ⟨w.heap.size, 0, none⟩) 1 1 [l] W.drew hr (by have := h.1; simp; omega)
  rw [show [l].flatten = l by simp] at this
  exact this.mono fun e w' ⟨v, e1, e2, e3, e4⟩ => ⟨v, e1, e2, hk.more e3, fun g e => Nat.le_trans hk.size (e4 g e)⟩

end Go.Proofs.Ythfnpbkclmkkeaa
