/- Package wheel: open: the timers of a slot, laid out over the levels below it. -/
import Derived.Test.YtbjapgajbljhfaaWOpI
import Derived.Deep.RegionHeld3
namespace Go.Proofs.Ytbjapgajbljhfaa
namespace Wh
open Go.RowKit Go.Lib Go.Sort Go.Shelf
attribute [local go_sem] Oper.semAt_some

/-- what open leaves -/
def Opens (tw te : TypeId) (S : Nat → Prop) (w : World) (P m : Nat) (at_ : Nat → Nat) (s : St) (l i : Nat) (e : Ending) (w' : World) : Prop :=
  e = .returned (.tuple #[]) ∧ WIn tw te S w' P m at_ (s.go (bg s.now l i)).row (s.go (bg s.now l i)) ∧ Keep (fun k => k = P ∨ ∃ id ∈ s.ids, k = at_ id) w w'

/-- the wheel's time is set -/
theorem WIn.setNow {tw te : TypeId} {S : Nat → Prop} {w : World} {P m : Nat} {at_ : Nat → Nat} {row : Nat → Nat → List Nat} {s : St} (ht : te ≠ tw) (h : WIn tw te S w P m at_ row s) (hsub : ∀ l i id, id ∈ row l i → id ∈ s.ids) (n : Nat) : WIn tw te S (w.setCell ⟨P, 0, none⟩ (.int .i64 (n : Nat))) P m at_ row (s.go n) := by
  have hk := keep_cell w P 0 (.int .i64 ((n : Nat) : Int))
  refine ⟨?_, fun l i xs ys id e => (h.lnk l i xs ys id e).keep hk (h.eeP ht (hsub l i id (by rw [e]; simp))), ?_, h.inj, fun id hid => ?_, h.own, h.sp, h.sm⟩
  · obtain ⟨cs, b1, b2⟩ := h.wb
    have hs := b2.1
    refine ⟨_, set_blk b1 0 _, by simp [hs], ?_, ?_, ?_, fun l i hl hi => ?_⟩
    · rw [set_get _ _ _ _ (by omega), if_pos rfl]; rfl
    · rw [set_get _ _ _ _ (by omega), if_neg (by decide)]; exact b2.2.2.1
    · rw [set_get _ _ _ _ (by omega), if_neg (by decide)]; exact b2.2.2.2.1
    · rw [set_get _ _ _ _ (by omega), set_get _ _ _ _ (by omega), if_neg (by unfold so; omega), if_neg (by unfold so; omega)]
      exact b2.2.2.2.2 l i hl hi
  · obtain ⟨f, h1, h2⟩ := h.mp
    exact ⟨f, h1.keep hk (Ne.symm h.ePm), h2⟩
  · obtain ⟨cs, h1⟩ := h.ent id hid
    exact ⟨cs, hk.blk h1 (h.eeP ht hid)⟩

/-- a slot is emptied: its timers stand in no row -/
theorem WIn.emptied {tw te : TypeId} {S : Nat → Prop} {w : World} {P m : Nat} {at_ : Nat → Nat} {s : St} {l i : Nat} (ht : te ≠ tw) (h : WIn tw te S w P m at_ s.row s) (hl : l < 11) (hi : i < 64) :
    WIn tw te S ((w.setCell ⟨P, so l i, none⟩ (.pointer none)).setCell ⟨P, so l i + 1, none⟩ (.pointer none)) P m at_ (opened s l i []) s := by
  have hk : Keep (fun k => k = P) w ((w.setCell ⟨P, so l i, none⟩ (.pointer none)).setCell ⟨P, so l i + 1, none⟩ (.pointer none)) := (keep_cell _ _ _ _).more (keep_cell _ _ _ _)
  have hop : opened s l i [] = put2 s.row l i [] := by funext l' i'; rw [opened_none]; rfl
  rw [hop]
  refine h.relink ?_ hk (Ne.symm h.ePm) (fun l' i' xs ys a e => ?_) (fun id hid e => absurd e (h.eeP ht hid))
  · obtain ⟨cs, b1, b2⟩ := h.wb
    have hsz := b2.1
    have hso := so_lt hl hi
    refine ⟨_, set_blk (set_blk b1 (so l i) (.pointer none)) (so l i + 1) (.pointer none), b2.set hi _ (by simp) (fun j j1 j2 => ?_) ?_ ?_⟩
    · rw [set_get _ _ _ _ (by simp; omega), set_get _ _ _ _ (by omega), if_neg j2, if_neg j1]
    · rw [set_get _ _ _ _ (by simp; omega), set_get _ _ _ _ (by omega), if_neg (by omega), if_pos rfl]; rfl
    · rw [set_get _ _ _ _ (by simp; omega), if_pos rfl]; rfl
  · by_cases hc : l' = l ∧ i' = i
    · obtain ⟨rfl, rfl⟩ := hc
      rw [put2_same] at e
      simp at e
    · rw [put2_other _ _ hc] at e
      exact (h.lnk l' i' xs ys a e).keep hk (h.eeP ht (mem_row.1 (show a ∈ s.row l' i' by rw [e]; simp)).1)

theorem keep_put (w : World) (r : Nat) (o : Obj) : Keep (fun k => k = r) w (w.putObj r o) := ⟨rfl, rfl, rfl, by simp, fun k _ h => World.putObj_heap_other h⟩
theorem keep_below {w w' : World} (k : Keep (fun _ => False) w w') : Below w.heap.size w w' := k.below (Nat.le_refl _) fun _ h => h.elim

set_option maxHeartbeats 1000000 in
theorem allfI (Bo : Nat) (w : World) : Calls Try.prog 48 #[.pointer (some ⟨Bo, 0, none⟩)] w fun e w' => e = .returned (.func (.func 55) #[] #[.pointer (some ⟨w.heap.size, 0, none⟩)]) ∧ w' = w.alloc (.cells #[.pointer (some ⟨Bo, 0, none⟩)] 76) := by
  go_enter Try.func48, Try.ntmps48
  go_wp2
  go_ret
  exact ⟨rfl, rfl⟩

set_option maxRecDepth 100000 in
set_option maxHeartbeats 4000000 in
theorem openI {S : Nat → Prop} {P m : Nat} {at_ : Nat → Nat} {s : St} (l i : Nat) (w : World) (hok : Ok s) (h : WIn 75 80 S w P m at_ s.row s) (hl : l < 11) (hi : i < 64) (h0 : l ≠ 0) (he : Emp s.row l i) (hne : s.row l i ≠ []) :
    Calls Try.prog 29 #[.pointer (some ⟨P, 0, none⟩), .agg #[.int .i64 l, .int .i64 i]] w (Opens 75 80 S w P m at_ s l i) := by
  have H := hide h
  have HO := hide hok
  have HE := hide (And.intro he hne)
  have hbg : bg s.now l i < 2 ^ 63 := by
    obtain ⟨x, hx⟩ := List.exists_mem_of_ne_nil _ hne
    exact M_lt ((hok.open_bg hx).resolve_right h0).1
  have c0 := h.cnow
  have c1 := h.cfst hl hi
  have c2 := h.clst hl hi
  have f0 := h.fz 0
  have f1 := h.fz (so l i)
  have f2 := h.fz (so l i + 1)
  have hltP := h.ltP
  have hso := so_lt hl hi
  have hs0 : 0 ≠ so l i := by unfold so; omega
  obtain ⟨fa, hfa⟩ : ∃ a, (s.row l i).head? = some a := by
    cases e : s.row l i with
    | nil => exact absurd e hne
    | cons a t => exact ⟨a, rfl⟩
  obtain ⟨fz, hfz⟩ : ∃ z, (s.row l i).getLast? = some z := by
    cases e : (s.row l i).getLast? with
    | none => exact absurd (List.getLast?_eq_none_iff.1 e) hne
    | some z => exact ⟨z, rfl⟩
  have HFA := hide hfa
  have HFZ := hide hfz
  clear h hok he hne hfa hfz
  refine (callsIn_wide (n := 3)).1 (callsIn_of_wp_marks Try.func29 rfl trivial ?_ rfl)
  simp only [Try.ntmps29, List.size_toArray, List.length_cons, List.length_nil, Nat.reduceAdd, Nat.reduceSub, Array.replicate_succ, Array.replicate_zero, List.push_toArray, List.append_toArray, List.nil_append, List.cons_append]
  refine wpIn_wide.2 ?_
  clear c0 c1 c2 f0 f1 f2
  go_wp2_with (go_at_call 27; refine (slotI P l i _ hl hi).mono ?_; rintro e w3 ⟨rfl, k3⟩
               have b0 := k3.cell (p := ⟨w.heap.size, 0, none⟩) (v := .pointer (some ⟨P, 0, none⟩)) ((Keep.alloc (fun _ => False) _ _).cell (cell_blk (heap_alloc_new _ _) 0 rfl) fun f => f) fun f => f
               have b1 := k3.cell (p := ⟨w.heap.size + 1, 0, none⟩) (v := .int .i64 (l : Int)) (cell_blk (by have := heap_alloc_new (w.alloc (.cells #[.pointer (some ⟨P, 0, none⟩)] 25)) (.cells #[.int .i64 (l : Int), .int .i64 (i : Int)] 65); rwa [World.size_alloc] at this) 0 rfl) fun f => f
               have b2 := k3.cell (p := ⟨w.heap.size + 1, 1, none⟩) (v := .int .i64 (i : Int)) (cell_blk (by have := heap_alloc_new (w.alloc (.cells #[.pointer (some ⟨P, 0, none⟩)] 25)) (.cells #[.int .i64 (l : Int), .int .i64 (i : Int)] 65); rwa [World.size_alloc] at this) 1 rfl) fun f => f
               have k03 : Keep (fun _ => False) w w3 := ((Keep.alloc _ _ _).more (Keep.alloc _ _ _)).more k3
               have K03 := hide k03
               have H3 := hide (H.out.stay k03 (fun _ _ _ h => h) HO.out.rows1.sub)
               have hw3 : w.heap.size + 1 < w3.heap.size := by have := k3.size; simp at this; omega
               have c0 := H3.out.cnow
               have c1 := H3.out.cfst hl hi
               have c2 := H3.out.clst hl hi
               rw [HFA.out] at c1
               rw [HFZ.out] at c2
               simp only [ptr] at c1 c2
               have f0 := H3.out.fz 0
               have f1 := H3.out.fz (so l i)
               have f2 := H3.out.fz (so l i + 1)
               have hP3 := H3.out.ltP
               clear k3 k03)
  obtain ⟨W4, hW4⟩ : ∃ W4, W4 = (((w3.setCell ⟨P, so l i, none⟩ (.pointer none)).setCell ⟨P, so l i + 1, none⟩ (.pointer none)).alloc (.cells #[.pointer (some ⟨at_ fa, 0, none⟩), .pointer (some ⟨at_ fz, 0, none⟩)] 71)) := ⟨_, rfl⟩
  rw [← hW4]
  have hsz0 : ((w3.setCell ⟨P, so l i, none⟩ (.pointer none)).setCell ⟨P, so l i + 1, none⟩ (.pointer none)).heap.size = w3.heap.size := by simp [World.setCell]
  have kP : Keep (fun k => k = P) w3 W4 := by rw [hW4]; exact ((keep_cell _ _ _ _).more (keep_cell _ _ _ _)).more (Keep.alloc _ _ _)
  have H4 := hide (show WIn 75 80 S W4 P m at_ (opened s l i []) s by
    rw [hW4]
    exact (H3.out.emptied (by decide) hl hi).stay (Keep.alloc (fun _ => False) _ _) (fun _ _ _ h => h) (HO.out.opened_rows (pre := []) (rest := s.row l i) rfl).1.sub)
  have HLK := hide (show ∀ xs ys id, s.row l i = xs ++ id :: ys → Ent 80 W4 at_ s id (ptr at_ xs.getLast?) (ptr at_ ys.head?) from fun xs ys id e => (H3.out.lnk l i xs ys id e).keep kP (H3.out.eeP (by decide) (mem_row.1 (show id ∈ s.row l i by rw [e]; simp)).1))
  have n0 : w.heap.size ≠ P := by omega
  have n1 : w.heap.size + 1 ≠ P := by omega
  have x0 := kP.cell b0 (by exact n0)
  have x1 := kP.cell b1 (by exact n1)
  have x2 := kP.cell b2 (by exact n1)
  have z0 : W4.heap[w3.heap.size]? = some (.cells #[.pointer (some ⟨at_ fa, 0, none⟩), .pointer (some ⟨at_ fz, 0, none⟩)] 71 (0, 0)) := by rw [hW4, ← hsz0]; exact heap_alloc_new _ _
  have hsz4 : W4.heap.size = w3.heap.size + 1 := by rw [hW4, World.size_alloc, hsz0]
  have KP := hide kP
  have Z0 := hide z0
  clear hW4 hsz0 b0 b1 b2 c0 c1 c2 f0 f1 f2 kP z0
  have H4d := hide (H4.out.stay (Keep.drew (fun _ => False) W4) (fun _ _ _ h => h) (HO.out.opened_rows (pre := []) (rest := s.row l i) rfl).1.sub)
  have x0' : W4.drew.cell? ⟨w.heap.size, 0, none⟩ = some (.pointer (some ⟨P, 0, none⟩)) := x0
  have x1' : W4.drew.cell? ⟨w.heap.size + 1, 0, none⟩ = some (.int .i64 (l : Int)) := x1
  have x2' : W4.drew.cell? ⟨w.heap.size + 1, 1, none⟩ = some (.int .i64 (i : Int)) := x2
  have XX := hide (And.intro x0' (And.intro x1' x2'))
  go_region_held3 (fun w' => w'.cell? ⟨w.heap.size, 0, none⟩ = some (.pointer (some ⟨P, 0, none⟩)) ∧ w'.cell? ⟨w.heap.size + 1, 0, none⟩ = some (.int .i64 (l : Int)) ∧ w'.cell? ⟨w.heap.size + 1, 1, none⟩ = some (.int .i64 (i : Int)))
    (first | (exact XX.out) | (exact ⟨k5.cell XX.out.1 fun f => f, k5.cell XX.out.2.1 fun f => f, k5.cell XX.out.2.2 fun f => f⟩) | (exact ⟨(keep_cell _ _ _ _).cell (k5.cell XX.out.1 fun f => f) n0, (keep_cell _ _ _ _).cell (k5.cell XX.out.2.1 fun f => f) n1, (keep_cell _ _ _ _).cell (k5.cell XX.out.2.2 fun f => f) n1⟩) | go_keep)
    ((go_at_call 46
      refine (beginI l i W4.drew H4d.out hl (M_lt HO.out.nowM) hbg).mono ?_
      rintro e w5 ⟨rfl, k5⟩
      have p0 := k5.cell H4d.out.cnow fun f => f
      have H5 := hide (H4d.out.stay k5 (fun _ _ _ h => h) (HO.out.opened_rows (pre := []) (rest := s.row l i) rfl).1.sub)
      have p1 := H5.out.fz 0
      have K5 := hide ((Keep.drew (fun _ => False) W4).more k5)))
  obtain ⟨W6, hW6⟩ : ∃ W6, W6 = w5.setCell ⟨P, 0, none⟩ (.int .i64 (bg s.now l i : Nat)) := ⟨_, rfl⟩
  rw [← hW6]
  have k6 : Keep (fun k => k = P) W4 W6 := by rw [hW6]; exact (K5.out.mono fun _ e => e.elim).more (keep_cell _ _ _ _)
  have H6 := hide (show WIn 75 80 S W6 P m at_ (opened s l i []) (s.go (bg s.now l i)) by rw [hW6]; exact H5.out.setNow (by decide) (HO.out.opened_rows (pre := []) (rest := s.row l i) rfl).1.sub _)
  have y0 : Hid (W6.cell? ⟨w.heap.size, 0, none⟩ = some (.pointer (some ⟨P, 0, none⟩))) := k6.cell x0 n0
  have K6 := hide k6
  clear x0' x1' x2' XX p0 p1 k5 hW6 k6 x0 x1 x2
  go_wp2_with (go_at_call 48; refine (allfI w3.heap.size _).mono ?_; rintro e w7 ⟨rfl, rfl⟩)
  obtain ⟨W7, hW7⟩ : ∃ W7, W7 = W6.alloc (.cells #[.pointer (some ⟨w3.heap.size, 0, none⟩)] 76) := ⟨_, rfl⟩
  rw [← hW7]
  have k7 : Keep (fun _ => False) W6 W7 := by rw [hW7]; exact Keep.alloc _ _ _
  have hsz6 := K6.out.size
  have hsz7 : W7.heap.size = W6.heap.size + 1 := by rw [hW7]; simp
  have hP7 : P < W7.heap.size := by omega
  have hm7 : m < W7.heap.size := by have := H.out.ltm; omega
  have hE7 : ∀ id ∈ s.ids, at_ id < W7.heap.size := fun id hid => by have := H.out.lte hid; omega
  have hEw : ∀ id ∈ s.ids, at_ id < w.heap.size := fun id hid => H.out.lte hid
  have hnT : ∀ k, w.heap.size ≤ k → ¬ (k = P ∨ ∃ id ∈ s.ids, k = at_ id) := fun k hk e => by
    rcases e with e | ⟨id, hid, e⟩
    · omega
    · have := hEw id hid; omega
  have I7 : Hid (OpI 75 80 S W7 P m at_ s l i [] W7) := by
    refine ⟨H6.out.stay k7 (fun _ _ _ h => h) (HO.out.opened_rows (pre := []) (rest := s.row l i) rfl).1.sub, Keep.refl _ _, s.row l i, rfl, fun xs ys id e => ⟨_, ((HLK.out xs ys id e).keep K6.out (H.out.eeP (by decide) (mem_row.1 (show id ∈ s.row l i by rw [e]; simp)).1)).keep k7 fun f => f⟩⟩
  have q0 : Hid (W7.cell? ⟨w.heap.size, 0, none⟩ = some (.pointer (some ⟨P, 0, none⟩))) := k7.cell y0.out fun f => f
  have q1 : Hid (W7.cell? ⟨W6.heap.size, 0, none⟩ = some (.pointer (some ⟨w3.heap.size, 0, none⟩))) := by rw [hW7]; exact cell_blk (heap_alloc_new _ _) 0 rfl
  have q2 : Hid (W7.cell? ⟨w3.heap.size, 0, none⟩ = some (ptr at_ (s.row l i).head?)) := by
    rw [HFA.out]
    exact k7.cell (K6.out.cell (cell_blk Z0.out 0 rfl) (show ¬ (w3.heap.size = P) by omega)) fun f => f
  have K7 := hide ((((K03.out.mono (T := fun k => k = P) fun _ e => e.elim).more KP.out).more K6.out).more (k7.mono fun _ e => e.elim))
  clear k7 hW7
  refine wpIn_wide.1 (wp_range1 (n := 3) (gf := 55) (lb := #[.pointer (some ⟨W6.heap.size, 0, none⟩)]) rfl (enters_of Try.func55 (by kernel_rfl) rfl) (encs := fun x : Nat => #[.pointer (some ⟨at_ x, 0, none⟩)]) (fun _ => rfl)
    (fun pre W => OpI 75 80 S W7 P m at_ s l i pre W) (fun pre x W => OpI 75 80 S W7 P m at_ s l i pre W ∧ ∃ r, s.row l i = pre ++ x :: r)
    (fun pre x a' W => a' = { tmps := #[.pointer (some ⟨P, 0, none⟩), .agg #[.int .i64 (l : Int), .int .i64 (i : Int)], .pointer (some ⟨w.heap.size, 0, none⟩), .pointer (some ⟨w.heap.size + 1, 0, none⟩), .pointer (some ⟨P, so l i, none⟩), .pointer (some ⟨w3.heap.size, 0, none⟩), .pointer (some ⟨at_ x, 0, none⟩), .pointer (some ⟨P, 0, none⟩), .agg #[.int .i64 (l : Int), .int .i64 (i : Int)], .pointer (some ⟨P, so l i, none⟩), .pointer (some ⟨P, so l i, none⟩), .pointer (some ⟨P, so l i, none⟩), .agg #[.pointer (some ⟨at_ fa, 0, none⟩), .pointer (some ⟨at_ fz, 0, none⟩)], .pointer (some ⟨P, so l i, none⟩), .agg #[.pointer none, .pointer none], .pointer (some ⟨P, so l i, none⟩), .pointer (some ⟨P, 0, none⟩), .pointer (some ⟨P, 0, none⟩), .agg #[.int .i64 (l : Int), .int .i64 (i : Int)], .int .i64 (bg s.now l i : Nat), .pointer (some ⟨P, 0, none⟩), .pointer (some ⟨P, 0, none⟩), .func (.func 55) #[] #[.pointer (some ⟨W6.heap.size, 0, none⟩)], .pointer (some ⟨at_ x, 0, none⟩), undef, undef, undef, undef, undef, undef, undef, undef, undef, undef, undef], defers := [] } ∧ OpI 75 80 S W7 P m at_ s l i pre W ∧ ∃ r, s.row l i = pre ++ x :: r)
    (fun xs W => xs = s.row l i ∧ OpI 75 80 S W7 P m at_ s l i xs W) ?h0 ?hY ?hI ?assign ?body ?iter ?done)
  case h0 => exact fun r => I7.out.new HO.out (T := fun _ => False) ((Keep.alloc _ _ _).more (Keep.alloc _ _ _)) (fun _ e => e.elim) hm7 hP7 hE7
  case hY => exact fun pre x a' W r ⟨h1, h2, h3⟩ => ⟨h1, h2.new HO.out (keep_put _ _ _) (fun k e => by omega) hm7 hP7 hE7, h3⟩
  case hI => exact fun pre W r h2 => h2.new HO.out (keep_put _ _ _) (fun k e => by omega) hm7 hP7 hE7
  case assign =>
    intro lr pre x W K hy hlt hK
    gi_wp2
    exact hK _ _ (Same2.refl _ _) ⟨rfl, hy⟩
  case iter =>
    intro L hLs hLz hR W hW hL
    exact all1I l i W6.heap.size w3.heap.size 3 HO.out L _ hR W hW hL (hW.keep.cell q1.out (hnT _ (by show w.heap.size ≤ W6.heap.size; omega))) (hW.keep.cell q2.out (hnT _ (by show w.heap.size ≤ w3.heap.size; omega)))
  case done =>
    rintro xs W r ⟨rfl, hW⟩ hlt hK
    have hw' := hW.new HO.out (keep_put W (W7.heap.size + 1) (.loop r)) (fun k e => by omega) hm7 hP7 hE7
    have hK' : (W.putObj (W7.heap.size + 1) (.loop r)).heap[W7.heap.size]? = some (.deferred (some [])) := (World.putObj_heap_other (by omega)).trans hK
    have hk2 := keep_put (W.putObj (W7.heap.size + 1) (.loop r)) W7.heap.size (.deferred none)
    have hw2 := hw'.new HO.out hk2 (fun k e => by omega) hm7 hP7 hE7
    obtain ⟨o1, o2⟩ := HO.out.opened_all h0 hi HE.out.1 HE.out.2
    refine ⟨by simp, .inl ⟨_, _, rfl, run_takeDeferred hK', ?_⟩⟩
    refine ⟨_, results_none rfl _ _ _, rfl, ?_, ?_⟩
    · rw [← o1]; exact hw2.inn
    · exact (K7.out.mono fun k e => .inl e).trans hw2.keep fun k e => .inl e
  case body =>
    rintro lr pre x a' W ⟨rfl, hI, rs, hrs⟩ hlt
    have HI := hide hI
    have HRS := hide hrs
    obtain ⟨rest, hr1, hr2⟩ := hI.rest
    obtain rfl : rest = x :: rs := List.append_cancel_left (hr1.symm.trans hrs)
    obtain ⟨bx, hEx⟩ := hr2 [] rs x rfl
    have HEX := hide hEx
    have hxr : x ∈ s.row l i := by rw [hrs]; simp
    have hxs := (mem_row.1 hxr).1
    have hxM := (HO.out.inn x hxs).2.2.2
    have hnM : bg s.now l i ≤ M := ((HO.out.open_bg hxr).resolve_right h0).1
    have x0 := hI.keep.cell q0.out (hnT _ (Nat.le_refl _))
    have e1 := hEx.c1
    have hL := lev_lt hxM hnM
    have hD := dg_lt (s.due x) (lev (bg s.now l i) (s.due x))
    have HR := hide (HO.out.opened_rows hrs)
    clear hI hrs hr1 hr2 hEx hxr
    have HQ1 : Hid (∀ (dd : Nat) (os : Array Obj), Calls Try.prog 35 #[.pointer (some ⟨P, 0, none⟩), .int .i64 (s.due x : Nat)] (grow (redrawn W dd) os) fun e w'' => e = .returned (.agg #[.int .i64 (lev (bg s.now l i) (s.due x) : Nat), .int .i64 (dg (s.due x) (lev (bg s.now l i) (s.due x)) : Nat)]) ∧ ∃ p : Regrown, w'' = grow (redrawn W p.d) p.os) :=
      fun dd os => Calls.regrown_of ((placeI (s := s.go (bg s.now l i)) (s.due x) _ (HI.out.inn.stay (Keep.ofBelow (S := fun _ => False) (below_regrown W dd os) (Nat.le_refl _)) (fun _ _ _ h => h) HR.out.1.sub) hnM hxM).mono fun e w' ⟨h1, h2⟩ => ⟨h1, keep_below h2⟩)
    have HQ2 : Hid (∀ (dd : Nat) (os : Array Obj), Calls Try.prog 27 #[.pointer (some ⟨P, 0, none⟩), .agg #[.int .i64 (lev (bg s.now l i) (s.due x) : Nat), .int .i64 (dg (s.due x) (lev (bg s.now l i) (s.due x)) : Nat)]] (grow (redrawn W dd) os) fun e w'' => e = .returned (.pointer (some ⟨P, so (lev (bg s.now l i) (s.due x)) (dg (s.due x) (lev (bg s.now l i) (s.due x))), none⟩)) ∧ ∃ p : Regrown, w'' = grow (redrawn W p.d) p.os) :=
      fun dd os => Calls.regrown_of ((slotI P _ _ _ hL hD).mono fun e w' ⟨h1, h2⟩ => ⟨h1, keep_below h2⟩)
    have r0 := fun dd os => cell_regrown x0 dd os
    have r1 := fun dd os => cell_regrown e1 dd os
    gi_wp2
    refine wpIn_region_last rfl (by kernel_rfl) (by kernel_rfl) (by kernel_rfl) (by kernel_rfl) ?hQ ?_
    case hQ =>
      rintro ⟨a, w, h⟩
      exact absurd (show (Exit.outgrown : Exit) = Exit.normal from h.1) (by simp)
    simp only [List.dropLast, List.cons_append, List.nil_append, still]
    repeat (quiet_step (first | exact HQ1.out _ _ | exact HQ2.out _ _))
    refine wpQuiet_nil ?_
    intro w' hw'
    obtain ⟨⟨dd, os⟩, rfl⟩ := hw'
    have e75 : ∀ args w, (callFunc 36 args).run Try.prog w = .ok (.enter 36 args) w := enters_of Try.func36 (by kernel_rfl) rfl
    simp only [List.getLast]
    unfold Oper.wp
    simp [go_sem, e75]
    have kb : Keep (fun _ => False) W (grow (redrawn W dd) os) := Keep.ofBelow (below_regrown W dd os) (Nat.le_refl _)
    refine (addI (s := s.go (bg s.now l i)) (lev (bg s.now l i) (s.due x)) (dg (s.due x) (lev (bg s.now l i) (s.due x))) x bx _ _ (HI.out.inn.stay kb (fun _ _ _ h => h) HR.out.1.sub) HR.out.1 hL hD hxs (HR.out.2 x (by simp)) (HEX.out.keep kb fun f => f)).mono ?_
    rintro e w9 ⟨rfl, A9, k9⟩
    have kT : Keep (fun k => k = P ∨ ∃ id ∈ s.ids, k = at_ id) W w9 := (kb.mono fun _ e => e.elim).more (k9.mono fun k e => by
      rcases e with e | e | ⟨z, hz, e⟩
      · exact .inl e
      · exact .inr ⟨x, hxs, e⟩
      · exact .inr ⟨z, HR.out.1.sub _ _ _ hz, e⟩)
    refine ⟨rfl, kT.same2 hlt (hnT _ (by omega)) (hnT _ (by omega)), ?_, HI.out.keep.more kT, rs, by rw [HRS.out]; simp, fun xs ys id e => ?_⟩
    · rw [opened_put] at A9
      exact A9
    · obtain ⟨rest, h1, h2⟩ := HI.out.rest
      obtain rfl : rest = x :: rs := List.append_cancel_left (h1.symm.trans HRS.out)
      obtain ⟨b, hb⟩ := h2 (x :: xs) ys id (by rw [e]; rfl)
      refine ⟨b, (hb.keep kb fun f => f).keep k9 ?_⟩
      have hidr : id ∈ x :: rs := by rw [e]; simp
      have hids : id ∈ s.ids := (mem_row.1 (show id ∈ s.row l i by rw [HRS.out]; simp only [List.mem_append]; exact .inr hidr)).1
      have hnd : (x :: rs).Nodup := (List.nodup_append.1 (HRS.out ▸ HO.out.rows1.nd l i)).2.1
      rintro (e' | e' | ⟨z, hz, e'⟩)
      · exact HI.out.inn.eeP (by decide) hids e'
      · have := HI.out.inn.inj id hids x hxs e'
        subst this
        exact (List.nodup_cons.1 hnd).1 (by rw [e]; simp)
      · have := HI.out.inn.inj id hids z (HR.out.1.sub _ _ _ hz) e'
        subst this
        exact HR.out.2 id hidr _ _ hz
set_option maxHeartbeats 1000000 in
theorem allfS (Bo : Nat) (w : World) : Calls Try.prog 54 #[.pointer (some ⟨Bo, 0, none⟩)] w fun e w' => e = .returned (.func (.func 66) #[] #[.pointer (some ⟨w.heap.size, 0, none⟩)]) ∧ w' = w.alloc (.cells #[.pointer (some ⟨Bo, 0, none⟩)] 98) := by
  go_enter Try.func54, Try.ntmps54
  go_wp2
  go_ret
  exact ⟨rfl, rfl⟩

set_option maxRecDepth 100000 in
set_option maxHeartbeats 4000000 in
theorem openS {S : Nat → Prop} {P m : Nat} {at_ : Nat → Nat} {s : St} (l i : Nat) (w : World) (hok : Ok s) (h : WIn 95 97 S w P m at_ s.row s) (hl : l < 11) (hi : i < 64) (h0 : l ≠ 0) (he : Emp s.row l i) (hne : s.row l i ≠ []) :
    Calls Try.prog 43 #[.pointer (some ⟨P, 0, none⟩), .agg #[.int .i64 l, .int .i64 i]] w (Opens 95 97 S w P m at_ s l i) := by
  have H := hide h
  have HO := hide hok
  have HE := hide (And.intro he hne)
  have hbg : bg s.now l i < 2 ^ 63 := by
    obtain ⟨x, hx⟩ := List.exists_mem_of_ne_nil _ hne
    exact M_lt ((hok.open_bg hx).resolve_right h0).1
  have c0 := h.cnow
  have c1 := h.cfst hl hi
  have c2 := h.clst hl hi
  have f0 := h.fz 0
  have f1 := h.fz (so l i)
  have f2 := h.fz (so l i + 1)
  have hltP := h.ltP
  have hso := so_lt hl hi
  have hs0 : 0 ≠ so l i := by unfold so; omega
  obtain ⟨fa, hfa⟩ : ∃ a, (s.row l i).head? = some a := by
    cases e : s.row l i with
    | nil => exact absurd e hne
    | cons a t => exact ⟨a, rfl⟩
  obtain ⟨fz, hfz⟩ : ∃ z, (s.row l i).getLast? = some z := by
    cases e : (s.row l i).getLast? with
    | none => exact absurd (List.getLast?_eq_none_iff.1 e) hne
    | some z => exact ⟨z, rfl⟩
  have HFA := hide hfa
  have HFZ := hide hfz
  clear h hok he hne hfa hfz
  refine (callsIn_wide (n := 3)).1 (callsIn_of_wp_marks Try.func43 rfl trivial ?_ rfl)
  simp only [Try.ntmps43, List.size_toArray, List.length_cons, List.length_nil, Nat.reduceAdd, Nat.reduceSub, Array.replicate_succ, Array.replicate_zero, List.push_toArray, List.append_toArray, List.nil_append, List.cons_append]
  refine wpIn_wide.2 ?_
  clear c0 c1 c2 f0 f1 f2
  go_wp2_with (go_at_call 38; refine (slotS P l i _ hl hi).mono ?_; rintro e w3 ⟨rfl, k3⟩
               have b0 := k3.cell (p := ⟨w.heap.size, 0, none⟩) (v := .pointer (some ⟨P, 0, none⟩)) ((Keep.alloc (fun _ => False) _ _).cell (cell_blk (heap_alloc_new _ _) 0 rfl) fun f => f) fun f => f
               have b1 := k3.cell (p := ⟨w.heap.size + 1, 0, none⟩) (v := .int .i64 (l : Int)) (cell_blk (by have := heap_alloc_new (w.alloc (.cells #[.pointer (some ⟨P, 0, none⟩)] 52)) (.cells #[.int .i64 (l : Int), .int .i64 (i : Int)] 65); rwa [World.size_alloc] at this) 0 rfl) fun f => f
               have b2 := k3.cell (p := ⟨w.heap.size + 1, 1, none⟩) (v := .int .i64 (i : Int)) (cell_blk (by have := heap_alloc_new (w.alloc (.cells #[.pointer (some ⟨P, 0, none⟩)] 52)) (.cells #[.int .i64 (l : Int), .int .i64 (i : Int)] 65); rwa [World.size_alloc] at this) 1 rfl) fun f => f
               have k03 : Keep (fun _ => False) w w3 := ((Keep.alloc _ _ _).more (Keep.alloc _ _ _)).more k3
               have K03 := hide k03
               have H3 := hide (H.out.stay k03 (fun _ _ _ h => h) HO.out.rows1.sub)
               have hw3 : w.heap.size + 1 < w3.heap.size := by have := k3.size; simp at this; omega
               have c0 := H3.out.cnow
               have c1 := H3.out.cfst hl hi
               have c2 := H3.out.clst hl hi
               rw [HFA.out] at c1
               rw [HFZ.out] at c2
               simp only [ptr] at c1 c2
               have f0 := H3.out.fz 0
               have f1 := H3.out.fz (so l i)
               have f2 := H3.out.fz (so l i + 1)
               have hP3 := H3.out.ltP
               clear k3 k03)
  obtain ⟨W4, hW4⟩ : ∃ W4, W4 = (((w3.setCell ⟨P, so l i, none⟩ (.pointer none)).setCell ⟨P, so l i + 1, none⟩ (.pointer none)).alloc (.cells #[.pointer (some ⟨at_ fa, 0, none⟩), .pointer (some ⟨at_ fz, 0, none⟩)] 91)) := ⟨_, rfl⟩
  rw [← hW4]
  have hsz0 : ((w3.setCell ⟨P, so l i, none⟩ (.pointer none)).setCell ⟨P, so l i + 1, none⟩ (.pointer none)).heap.size = w3.heap.size := by simp [World.setCell]
  have kP : Keep (fun k => k = P) w3 W4 := by rw [hW4]; exact ((keep_cell _ _ _ _).more (keep_cell _ _ _ _)).more (Keep.alloc _ _ _)
  have H4 := hide (show WIn 95 97 S W4 P m at_ (opened s l i []) s by
    rw [hW4]
    exact (H3.out.emptied (by decide) hl hi).stay (Keep.alloc (fun _ => False) _ _) (fun _ _ _ h => h) (HO.out.opened_rows (pre := []) (rest := s.row l i) rfl).1.sub)
  have HLK := hide (show ∀ xs ys id, s.row l i = xs ++ id :: ys → Ent 97 W4 at_ s id (ptr at_ xs.getLast?) (ptr at_ ys.head?) from fun xs ys id e => (H3.out.lnk l i xs ys id e).keep kP (H3.out.eeP (by decide) (mem_row.1 (show id ∈ s.row l i by rw [e]; simp)).1))
  have n0 : w.heap.size ≠ P := by omega
  have n1 : w.heap.size + 1 ≠ P := by omega
  have x0 := kP.cell b0 (by exact n0)
  have x1 := kP.cell b1 (by exact n1)
  have x2 := kP.cell b2 (by exact n1)
  have z0 : W4.heap[w3.heap.size]? = some (.cells #[.pointer (some ⟨at_ fa, 0, none⟩), .pointer (some ⟨at_ fz, 0, none⟩)] 91 (0, 0)) := by rw [hW4, ← hsz0]; exact heap_alloc_new _ _
  have hsz4 : W4.heap.size = w3.heap.size + 1 := by rw [hW4, World.size_alloc, hsz0]
  have KP := hide kP
  have Z0 := hide z0
  clear hW4 hsz0 b0 b1 b2 c0 c1 c2 f0 f1 f2 kP z0
  have H4d := hide (H4.out.stay (Keep.drew (fun _ => False) W4) (fun _ _ _ h => h) (HO.out.opened_rows (pre := []) (rest := s.row l i) rfl).1.sub)
  have x0' : W4.drew.cell? ⟨w.heap.size, 0, none⟩ = some (.pointer (some ⟨P, 0, none⟩)) := x0
  have x1' : W4.drew.cell? ⟨w.heap.size + 1, 0, none⟩ = some (.int .i64 (l : Int)) := x1
  have x2' : W4.drew.cell? ⟨w.heap.size + 1, 1, none⟩ = some (.int .i64 (i : Int)) := x2
  have XX := hide (And.intro x0' (And.intro x1' x2'))
  go_region_held3 (fun w' => w'.cell? ⟨w.heap.size, 0, none⟩ = some (.pointer (some ⟨P, 0, none⟩)) ∧ w'.cell? ⟨w.heap.size + 1, 0, none⟩ = some (.int .i64 (l : Int)) ∧ w'.cell? ⟨w.heap.size + 1, 1, none⟩ = some (.int .i64 (i : Int)))
    (first | (exact XX.out) | (exact ⟨k5.cell XX.out.1 fun f => f, k5.cell XX.out.2.1 fun f => f, k5.cell XX.out.2.2 fun f => f⟩) | (exact ⟨(keep_cell _ _ _ _).cell (k5.cell XX.out.1 fun f => f) n0, (keep_cell _ _ _ _).cell (k5.cell XX.out.2.1 fun f => f) n1, (keep_cell _ _ _ _).cell (k5.cell XX.out.2.2 fun f => f) n1⟩) | go_keep)
    ((go_at_call 52
      refine (beginS l i W4.drew H4d.out hl (M_lt HO.out.nowM) hbg).mono ?_
      rintro e w5 ⟨rfl, k5⟩
      have p0 := k5.cell H4d.out.cnow fun f => f
      have H5 := hide (H4d.out.stay k5 (fun _ _ _ h => h) (HO.out.opened_rows (pre := []) (rest := s.row l i) rfl).1.sub)
      have p1 := H5.out.fz 0
      have K5 := hide ((Keep.drew (fun _ => False) W4).more k5)))
  obtain ⟨W6, hW6⟩ : ∃ W6, W6 = w5.setCell ⟨P, 0, none⟩ (.int .i64 (bg s.now l i : Nat)) := ⟨_, rfl⟩
  rw [← hW6]
  have k6 : Keep (fun k => k = P) W4 W6 := by rw [hW6]; exact (K5.out.mono fun _ e => e.elim).more (keep_cell _ _ _ _)
  have H6 := hide (show WIn 95 97 S W6 P m at_ (opened s l i []) (s.go (bg s.now l i)) by rw [hW6]; exact H5.out.setNow (by decide) (HO.out.opened_rows (pre := []) (rest := s.row l i) rfl).1.sub _)
  have y0 : Hid (W6.cell? ⟨w.heap.size, 0, none⟩ = some (.pointer (some ⟨P, 0, none⟩))) := k6.cell x0 n0
  have K6 := hide k6
  clear x0' x1' x2' XX p0 p1 k5 hW6 k6 x0 x1 x2
  go_wp2_with (go_at_call 54; refine (allfS w3.heap.size _).mono ?_; rintro e w7 ⟨rfl, rfl⟩)
  obtain ⟨W7, hW7⟩ : ∃ W7, W7 = W6.alloc (.cells #[.pointer (some ⟨w3.heap.size, 0, none⟩)] 98) := ⟨_, rfl⟩
  rw [← hW7]
  have k7 : Keep (fun _ => False) W6 W7 := by rw [hW7]; exact Keep.alloc _ _ _
  have hsz6 := K6.out.size
  have hsz7 : W7.heap.size = W6.heap.size + 1 := by rw [hW7]; simp
  have hP7 : P < W7.heap.size := by omega
  have hm7 : m < W7.heap.size := by have := H.out.ltm; omega
  have hE7 : ∀ id ∈ s.ids, at_ id < W7.heap.size := fun id hid => by have := H.out.lte hid; omega
  have hEw : ∀ id ∈ s.ids, at_ id < w.heap.size := fun id hid => H.out.lte hid
  have hnT : ∀ k, w.heap.size ≤ k → ¬ (k = P ∨ ∃ id ∈ s.ids, k = at_ id) := fun k hk e => by
    rcases e with e | ⟨id, hid, e⟩
    · omega
    · have := hEw id hid; omega
  have I7 : Hid (OpI 95 97 S W7 P m at_ s l i [] W7) := by
    refine ⟨H6.out.stay k7 (fun _ _ _ h => h) (HO.out.opened_rows (pre := []) (rest := s.row l i) rfl).1.sub, Keep.refl _ _, s.row l i, rfl, fun xs ys id e => ⟨_, ((HLK.out xs ys id e).keep K6.out (H.out.eeP (by decide) (mem_row.1 (show id ∈ s.row l i by rw [e]; simp)).1)).keep k7 fun f => f⟩⟩
  have q0 : Hid (W7.cell? ⟨w.heap.size, 0, none⟩ = some (.pointer (some ⟨P, 0, none⟩))) := k7.cell y0.out fun f => f
  have q1 : Hid (W7.cell? ⟨W6.heap.size, 0, none⟩ = some (.pointer (some ⟨w3.heap.size, 0, none⟩))) := by rw [hW7]; exact cell_blk (heap_alloc_new _ _) 0 rfl
  have q2 : Hid (W7.cell? ⟨w3.heap.size, 0, none⟩ = some (ptr at_ (s.row l i).head?)) := by
    rw [HFA.out]
    exact k7.cell (K6.out.cell (cell_blk Z0.out 0 rfl) (show ¬ (w3.heap.size = P) by omega)) fun f => f
  have K7 := hide ((((K03.out.mono (T := fun k => k = P) fun _ e => e.elim).more KP.out).more K6.out).more (k7.mono fun _ e => e.elim))
  clear k7 hW7
  refine wpIn_wide.1 (wp_range1 (n := 3) (gf := 66) (lb := #[.pointer (some ⟨W6.heap.size, 0, none⟩)]) rfl (enters_of Try.func66 (by kernel_rfl) rfl) (encs := fun x : Nat => #[.pointer (some ⟨at_ x, 0, none⟩)]) (fun _ => rfl)
    (fun pre W => OpI 95 97 S W7 P m at_ s l i pre W) (fun pre x W => OpI 95 97 S W7 P m at_ s l i pre W ∧ ∃ r, s.row l i = pre ++ x :: r)
    (fun pre x a' W => a' = { tmps := #[.pointer (some ⟨P, 0, none⟩), .agg #[.int .i64 (l : Int), .int .i64 (i : Int)], .pointer (some ⟨w.heap.size, 0, none⟩), .pointer (some ⟨w.heap.size + 1, 0, none⟩), .pointer (some ⟨P, so l i, none⟩), .pointer (some ⟨w3.heap.size, 0, none⟩), .pointer (some ⟨at_ x, 0, none⟩), .pointer (some ⟨P, 0, none⟩), .agg #[.int .i64 (l : Int), .int .i64 (i : Int)], .pointer (some ⟨P, so l i, none⟩), .pointer (some ⟨P, so l i, none⟩), .pointer (some ⟨P, so l i, none⟩), .agg #[.pointer (some ⟨at_ fa, 0, none⟩), .pointer (some ⟨at_ fz, 0, none⟩)], .pointer (some ⟨P, so l i, none⟩), .agg #[.pointer none, .pointer none], .pointer (some ⟨P, so l i, none⟩), .pointer (some ⟨P, 0, none⟩), .pointer (some ⟨P, 0, none⟩), .agg #[.int .i64 (l : Int), .int .i64 (i : Int)], .int .i64 (bg s.now l i : Nat), .pointer (some ⟨P, 0, none⟩), .pointer (some ⟨P, 0, none⟩), .func (.func 66) #[] #[.pointer (some ⟨W6.heap.size, 0, none⟩)], .pointer (some ⟨at_ x, 0, none⟩), undef, undef, undef, undef, undef, undef, undef, undef, undef, undef, undef], defers := [] } ∧ OpI 95 97 S W7 P m at_ s l i pre W ∧ ∃ r, s.row l i = pre ++ x :: r)
    (fun xs W => xs = s.row l i ∧ OpI 95 97 S W7 P m at_ s l i xs W) ?h0 ?hY ?hI ?assign ?body ?iter ?done)
  case h0 => exact fun r => I7.out.new HO.out (T := fun _ => False) ((Keep.alloc _ _ _).more (Keep.alloc _ _ _)) (fun _ e => e.elim) hm7 hP7 hE7
  case hY => exact fun pre x a' W r ⟨h1, h2, h3⟩ => ⟨h1, h2.new HO.out (keep_put _ _ _) (fun k e => by omega) hm7 hP7 hE7, h3⟩
  case hI => exact fun pre W r h2 => h2.new HO.out (keep_put _ _ _) (fun k e => by omega) hm7 hP7 hE7
  case assign =>
    intro lr pre x W K hy hlt hK
    gi_wp2
    exact hK _ _ (Same2.refl _ _) ⟨rfl, hy⟩
  case iter =>
    intro L hLs hLz hR W hW hL
    exact all1S l i W6.heap.size w3.heap.size 3 HO.out L _ hR W hW hL (hW.keep.cell q1.out (hnT _ (by show w.heap.size ≤ W6.heap.size; omega))) (hW.keep.cell q2.out (hnT _ (by show w.heap.size ≤ w3.heap.size; omega)))
  case done =>
    rintro xs W r ⟨rfl, hW⟩ hlt hK
    have hw' := hW.new HO.out (keep_put W (W7.heap.size + 1) (.loop r)) (fun k e => by omega) hm7 hP7 hE7
    have hK' : (W.putObj (W7.heap.size + 1) (.loop r)).heap[W7.heap.size]? = some (.deferred (some [])) := (World.putObj_heap_other (by omega)).trans hK
    have hk2 := keep_put (W.putObj (W7.heap.size + 1) (.loop r)) W7.heap.size (.deferred none)
    have hw2 := hw'.new HO.out hk2 (fun k e => by omega) hm7 hP7 hE7
    obtain ⟨o1, o2⟩ := HO.out.opened_all h0 hi HE.out.1 HE.out.2
    refine ⟨by simp, .inl ⟨_, _, rfl, run_takeDeferred hK', ?_⟩⟩
    refine ⟨_, results_none rfl _ _ _, rfl, ?_, ?_⟩
    · rw [← o1]; exact hw2.inn
    · exact (K7.out.mono fun k e => .inl e).trans hw2.keep fun k e => .inl e
  case body =>
    rintro lr pre x a' W ⟨rfl, hI, rs, hrs⟩ hlt
    have HI := hide hI
    have HRS := hide hrs
    obtain ⟨rest, hr1, hr2⟩ := hI.rest
    obtain rfl : rest = x :: rs := List.append_cancel_left (hr1.symm.trans hrs)
    obtain ⟨bx, hEx⟩ := hr2 [] rs x rfl
    have HEX := hide hEx
    have hxr : x ∈ s.row l i := by rw [hrs]; simp
    have hxs := (mem_row.1 hxr).1
    have hxM := (HO.out.inn x hxs).2.2.2
    have hnM : bg s.now l i ≤ M := ((HO.out.open_bg hxr).resolve_right h0).1
    have x0 := hI.keep.cell q0.out (hnT _ (Nat.le_refl _))
    have e1 := hEx.c1
    have hL := lev_lt hxM hnM
    have hD := dg_lt (s.due x) (lev (bg s.now l i) (s.due x))
    have HR := hide (HO.out.opened_rows hrs)
    clear hI hrs hr1 hr2 hEx hxr
    have HQ1 : Hid (∀ (dd : Nat) (os : Array Obj), Calls Try.prog 39 #[.pointer (some ⟨P, 0, none⟩), .int .i64 (s.due x : Nat)] (grow (redrawn W dd) os) fun e w'' => e = .returned (.agg #[.int .i64 (lev (bg s.now l i) (s.due x) : Nat), .int .i64 (dg (s.due x) (lev (bg s.now l i) (s.due x)) : Nat)]) ∧ ∃ p : Regrown, w'' = grow (redrawn W p.d) p.os) :=
      fun dd os => Calls.regrown_of ((placeS (s := s.go (bg s.now l i)) (s.due x) _ (HI.out.inn.stay (Keep.ofBelow (S := fun _ => False) (below_regrown W dd os) (Nat.le_refl _)) (fun _ _ _ h => h) HR.out.1.sub) hnM hxM).mono fun e w' ⟨h1, h2⟩ => ⟨h1, keep_below h2⟩)
    have HQ2 : Hid (∀ (dd : Nat) (os : Array Obj), Calls Try.prog 38 #[.pointer (some ⟨P, 0, none⟩), .agg #[.int .i64 (lev (bg s.now l i) (s.due x) : Nat), .int .i64 (dg (s.due x) (lev (bg s.now l i) (s.due x)) : Nat)]] (grow (redrawn W dd) os) fun e w'' => e = .returned (.pointer (some ⟨P, so (lev (bg s.now l i) (s.due x)) (dg (s.due x) (lev (bg s.now l i) (s.due x))), none⟩)) ∧ ∃ p : Regrown, w'' = grow (redrawn W p.d) p.os) :=
      fun dd os => Calls.regrown_of ((slotS P _ _ _ hL hD).mono fun e w' ⟨h1, h2⟩ => ⟨h1, keep_below h2⟩)
    have r0 := fun dd os => cell_regrown x0 dd os
    have r1 := fun dd os => cell_regrown e1 dd os
    gi_wp2
    refine wpIn_region_last rfl (by kernel_rfl) (by kernel_rfl) (by kernel_rfl) (by kernel_rfl) ?hQ ?_
    case hQ =>
      rintro ⟨a, w, h⟩
      exact absurd (show (Exit.outgrown : Exit) = Exit.normal from h.1) (by simp)
    simp only [List.dropLast, List.cons_append, List.nil_append, still]
    repeat (quiet_step (first | exact HQ1.out _ _ | exact HQ2.out _ _))
    refine wpQuiet_nil ?_
    intro w' hw'
    obtain ⟨⟨dd, os⟩, rfl⟩ := hw'
    have e75 : ∀ args w, (callFunc 40 args).run Try.prog w = .ok (.enter 40 args) w := enters_of Try.func40 (by kernel_rfl) rfl
    simp only [List.getLast]
    unfold Oper.wp
    simp [go_sem, e75]
    have kb : Keep (fun _ => False) W (grow (redrawn W dd) os) := Keep.ofBelow (below_regrown W dd os) (Nat.le_refl _)
    refine (addS (s := s.go (bg s.now l i)) (lev (bg s.now l i) (s.due x)) (dg (s.due x) (lev (bg s.now l i) (s.due x))) x bx _ _ (HI.out.inn.stay kb (fun _ _ _ h => h) HR.out.1.sub) HR.out.1 hL hD hxs (HR.out.2 x (by simp)) (HEX.out.keep kb fun f => f)).mono ?_
    rintro e w9 ⟨rfl, A9, k9⟩
    have kT : Keep (fun k => k = P ∨ ∃ id ∈ s.ids, k = at_ id) W w9 := (kb.mono fun _ e => e.elim).more (k9.mono fun k e => by
      rcases e with e | e | ⟨z, hz, e⟩
      · exact .inl e
      · exact .inr ⟨x, hxs, e⟩
      · exact .inr ⟨z, HR.out.1.sub _ _ _ hz, e⟩)
    refine ⟨rfl, kT.same2 hlt (hnT _ (by omega)) (hnT _ (by omega)), ?_, HI.out.keep.more kT, rs, by rw [HRS.out]; simp, fun xs ys id e => ?_⟩
    · rw [opened_put] at A9
      exact A9
    · obtain ⟨rest, h1, h2⟩ := HI.out.rest
      obtain rfl : rest = x :: rs := List.append_cancel_left (h1.symm.trans HRS.out)
      obtain ⟨b, hb⟩ := h2 (x :: xs) ys id (by rw [e]; rfl)
      refine ⟨b, (hb.keep kb fun f => f).keep k9 ?_⟩
      have hidr : id ∈ x :: rs := by rw [e]; simp
      have hids : id ∈ s.ids := (mem_row.1 (show id ∈ s.row l i by rw [HRS.out]; simp only [List.mem_append]; exact .inr hidr)).1
      have hnd : (x :: rs).Nodup := (List.nodup_append.1 (HRS.out ▸ HO.out.rows1.nd l i)).2.1
      rintro (e' | e' | ⟨z, hz, e'⟩)
      · exact HI.out.inn.eeP (by decide) hids e'
      · have := HI.out.inn.inj id hids x hxs e'
        subst this
        exact (List.nodup_cons.1 hnd).1 (by rw [e]; simp)
      · have := HI.out.inn.inj id hids z (HR.out.1.sub _ _ _ hz) e'
        subst this
        exact HR.out.2 id hidr _ _ hz

end Wh
end Go.Proofs.Ytbjapgajbljhfaa
