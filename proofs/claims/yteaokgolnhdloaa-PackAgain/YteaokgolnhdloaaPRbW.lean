/- PackReaderOwns: the walk. -/
import Derived.Test.YteaokgolnhdloaaPRb6
import Derived.Test.YteaokgolnhdloaaPWnN
import Derived.Test.YteaokgolnhdloaaPKnown
import Derived.Test.YteaokgolnhdloaaPRefN
import Derived.Deep.CutBlock
import Derived.Deep.CutRange
namespace Go.Proofs.Yteaokgolnhdloaa
namespace Wm
open Go.RowKit Go.Deep
open Ow (room_any fill_any)

theorem keep_rowB (w : World) (g : Nat) (cs : Array Value) : Keep (fun k => k = g) w (w.setRow g cs) := ⟨rfl, rfl, rfl, by simp [World.setRow], fun i _ hi => setRow_other w g i _ hi⟩
theorem alloc_setB {w : World} (o : Array Value) (T : TypeId) (cs : Array Value) : ((w.alloc (.cells o T)).setRow w.heap.size cs).heap[w.heap.size]? = some (.cells cs T (0, 0)) ∧ Below w.heap.size w ((w.alloc (.cells o T)).setRow w.heap.size cs) :=
  ⟨setRow_heap _ _ _ _ _ _ (heap_alloc_new w (.cells o T)), ((Below.refl _ _).alloc (Nat.le_refl _) _).trans ((keep_rowB _ _ _).below (by simp) fun k e => by rw [e]; exact Nat.le_refl _)⟩
/-- the law's boxes, all ahead of B -/
structure Bo (B : Nat) (w : World) (m8 mb fb lb : Nat) (mst : Int) : Prop where
  c : w.cell? ⟨m8, 0, none⟩ = some (.int .i64 9223372036854775807)
  b : w.heap[mb]? = some (numB (min mst 16777216))
  f : w.heap[fb]? = some (.cells (bF m8) 33 (0, 0))
  l : w.heap[lb]? = some (.cells (bL mb fb) 28 (0, 0))
  lt : m8 < B ∧ mb < B ∧ fb < B ∧ lb < B
theorem Bo.stay {B : Nat} {w w' : World} {m8 mb fb lb : Nat} {mst : Int} (h : Bo B w m8 mb fb lb mst) {S : Nat → Prop} (k : Keep S w w') (hS : ∀ i, S i → B ≤ i) : Bo B w' m8 mb fb lb mst := by
  obtain ⟨l1, l2, l3, l4⟩ := h.lt
  exact ⟨k.cell h.c (fun e => by have := hS _ e; simp at this; omega), k.blk h.b (fun e => by have := hS _ e; omega), k.blk h.f (fun e => by have := hS _ e; omega), k.blk h.l (fun e => by have := hS _ e; omega), h.lt⟩
theorem hd16 (mo : Int) (s : K.RS) : hdN mo s ≤ 16777216 := by
  unfold hdN okR
  split
  · unfold headV
    cases hc : cnt (min mo 16777216) (rest s) with
    | error e => exact Nat.zero_le _
    | ok q =>
      obtain ⟨n, z⟩ := q
      obtain ⟨_, h, _⟩ := cnt_ok hc
      show n ≤ 16777216
      omega
  · exact Nat.zero_le _
theorem okR_castB (g : K.RS → K.RS) (s : K.RS) (x : Nat) : okR g s ((x : Nat) : Int) 0 = ((okR g s x 0 : Nat) : Int) := by unfold okR; split <;> rfl
theorem rowV_lenB (mo : Int) (s : K.RS) : (rowV mo s).length ≤ s.data.length := by
  unfold rowV
  split
  · rw [List.length_drop, List.length_take]
    have := rest_le s
    omega
  · exact Nat.zero_le _
theorem rowV_mem (mo : Int) (s : K.RS) : ∀ d ∈ rowV mo s, d ∈ s.data := fun d hd => by
  unfold rowV at hd
  split at hd
  · exact List.mem_of_mem_drop (List.mem_of_mem_take (List.mem_of_mem_drop hd))
  · cases hd
theorem bls_bounds {w : World} {q N : Nat} {σ : K.RS} (hN : N ≤ 16777216) (h : Qr w q σ) {τ : K.RS} : (∀ l ∈ (if τ.fault = 0 then blsB 9223372036854775807 σ N else []), ∀ d ∈ l, d < 256) ∧ (∀ l ∈ (if τ.fault = 0 then blsB 9223372036854775807 σ N else []), l.length ≤ 16777216) ∧ (if τ.fault = 0 then blsB 9223372036854775807 σ N else []).length ≤ 16777216 := by
  have hd : ∀ i, (allR (rowR 9223372036854775807) i σ).data = σ.data := fun i => kp_all (fun s => by
    unfold rowR
    split
    · rfl
    · exact kp_fail _ _) i σ
  split
  · refine ⟨fun l hl d hdl => ?_, fun l hl => ?_, by rw [blsB_len]; exact hN⟩
    · unfold blsB at hl
      obtain ⟨i, _, rfl⟩ := List.mem_map.1 hl
      have := rowV_mem _ _ d hdl
      rw [hd] at this
      exact Qr.bytes h d this
    · unfold blsB at hl
      obtain ⟨i, _, rfl⟩ := List.mem_map.1 hl
      have := rowV_lenB 9223372036854775807 (allR (rowR 9223372036854775807) i σ)
      rw [hd] at this
      exact Nat.le_trans this h.top
  · exact ⟨(fun l hl => by simp at hl), (fun l hl => by simp at hl), Nat.zero_le _⟩
theorem at_anyB (q : Nat) (s : K.RS) (w : World) (h : Rr w q s) : Calls Try.prog 17 #[.pointer (some ⟨q, 0, none⟩)] w fun en w' => en = .returned (.int .i64 (s.taken : Nat)) ∧ w' = w := by
  obtain ⟨a, c, hb, _⟩ := h.ex
  have c1 : w.cell? ⟨q, 1, none⟩ = some (.int .i64 (s.taken : Nat)) := by rw [cell_of_row _ _ _ _ _ _ hb]; rfl
  go_enter Try.func17, Try.ntmps17
  go_wp2
  go_ret
  exact ⟨rfl, rfl⟩
theorem err_anyB (q : Nat) (s : K.RS) (w : World) (h : Rr w q s) : Calls Try.prog 16 #[.pointer (some ⟨q, 0, none⟩)] w fun en w' => en = .returned (.int .i64 (s.fault : Nat)) ∧ w' = w := by
  obtain ⟨a, c, hb, _⟩ := h.ex
  have c1 : w.cell? ⟨q, 2, none⟩ = some (.int .i64 (s.fault : Nat)) := by rw [cell_of_row _ _ _ _ _ _ hb]; rfl
  go_enter Try.func16, Try.ntmps16
  go_wp2
  go_ret
  exact ⟨rfl, rfl⟩
theorem Rr.pastR {w w' : World} {q r : Nat} {s s0 : K.RS} (h : Rr w q s) (hk : Keep (fun k => k = r) w w') (hr : Rr w r s0) (hne : r ≠ q) : Rr w' q s := by
  obtain ⟨a, c, h1, h2, h3, h4, h5⟩ := h.ex
  exact ⟨⟨a, c, hk.blk h1 (fun e => hne e.symm), Rd.past h2 hr hk, h3, h4, h5⟩, h.tak, h.top⟩
theorem Qr.pastR {w w' : World} {q r : Nat} {s s0 : K.RS} (h : Qr w q s) (hk : Keep (fun k => k = r) w w') (hr : Rr w r s0) (hne : r ≠ q) : Qr w' q s := by
  obtain ⟨a, c, h1, h2, h3, h4, h5⟩ := h.ex
  exact ⟨⟨a, c, hk.blk h1 (fun e => hne e.symm), Rd.past h2 hr hk, h3, h4, h5⟩, h.tak, h.top⟩
theorem Wl.pastR {B : Nat} {w w' : World} {y : Value} {Ls : List (List Nat)} {q : Nat} {s : K.RS} (h : Wl B w y Ls) (hr : Rr w q s) (hk : Keep (fun k => k = q) w w') : Wl B w' y Ls := by
  obtain ⟨vs, h1, _⟩ := h.ex
  refine h.stay hk (fun i e f => ?_) fun a l hrd _ => Rd.past hrd hr hk
  obtain ⟨_, _, hb, _⟩ := hr.ex
  have f' : i = q := f
  subst f'
  rcases h1.2 with ⟨e1, _⟩ | ⟨g, cap, cur, e1, _, e3, _⟩
  · rw [e1] at e; cases e
  · rw [e1] at e
    cases e
    exact neTB e3 hb (by decide) rfl
theorem bl_one {B : Nat} {w : World} {vs : List Value} {Ls : List (List Nat)} (h : Bl B w vs Ls) : ∀ u ∈ vs, u.oneCell' = true := fun u hu => by
  obtain ⟨i, hi⟩ := List.getElem?_of_mem hu
  have hlt := (List.getElem?_eq_some_iff.1 hi).1
  obtain ⟨a, c, e⟩ := ownsRow_shape (h.own i u _ hi (List.getElem?_eq_getElem (by rw [← h.len]; exact hlt)))
  rw [e]; rfl
theorem slice_far {S : Nat → Prop} {w w' : World} {q : Nat} {s : K.RS} (h : Rr w q s) (k : Keep S w w') (hS : ∀ i, S i → q < i) : Rr w' q s := h.stay k fun i hi f => by have := hS i f; omega
set_option maxRecDepth 100000 in
set_option maxHeartbeats 40000000 in
theorem ro_walk (aR : Option Addr) (nR cR : Nat) (lR : List Nat) (mst : Int) (w : World) (hr : Rd w aR nR lR) (hz : aR = none → cR = 0) (hn : nR ≤ 140737488351232) :
    Calls Try.prog 3 #[.slice aR nR cR, .int .i64 mst] w fun en w' => en = .returned (.bool true) ∧ Below w.heap.size w w' := by
  have HRd := hide hr
  have HZ := hide hz
  have HNR := hide hr.1
  have HBy : Hid (∀ d ∈ lR, d < 256) := hr.2.2.1
  have HIL : Hid (∀ m o : Nat, (Try.prog.info? 28).map (·.size) = some (bL m o).size) := fun m o => by kernel_rfl
  have HOL : Hid (∀ m o : Nat, (bL m o).all (·.oneCell') = true) := fun m o => by simp [bL, Value.oneCell']
  clear hr hz
  go_enter Try.func3, Try.ntmps3
  go_wp2_with fail
  refine (known_any _).mono ?_
  rintro e w1 ⟨rfl, hb1⟩
  have HB1 := hide hb1
  clear hb1
  go_wp2_with fail
  refine (room_any aR nR cR lR _ (HRd.out.keep HB1.out) HZ.out hn).mono ?_
  rintro e w2 ⟨g, cap, rfl, ho2, hb2⟩
  have HO2 := hide ho2
  have HB2 := hide (HB1.out.trans (hb2.mono HB1.out.size))
  have HG2 : Hid (w.heap.size ≤ g ∧ g < w2.heap.size) := ⟨Nat.le_trans HB1.out.size (ho2.lt g rfl).1, (ho2.lt g rfl).2⟩
  have hcap : nR + 3 ≤ cap := by
    rcases ho2.2 with ⟨e, _⟩ | ⟨g', cap', cur, e, _, _, h4, _⟩
    · cases e
    · injection e with _ _ e3; omega
  clear ho2 hb2 HB1
  go_wp2_with fail
  refine (Blobs_any 9223372036854775807 _).mono ?_
  rintro e w3 ⟨m8, rfl, hm3, hg3, hb3⟩
  have HM3 := hide hm3
  have HG3 := hide hg3
  have HO3 := hide (ownsRow_keepB HO2.out hb3)
  have HB3 := hide (HB2.out.trans (hb3.mono HB2.out.size))
  have HS3 : Hid (w2.heap.size ≤ w3.heap.size) := hb3.size
  clear hm3 hg3 hb3 HO2 HB2
  have HLs := hide (listsBX m8 mst w3)
  go_wp2_with fail
  refine (HLs.out).mono ?_
  rintro e w4 ⟨mb, fb, rfl, hmb4, hfb4, gmb, gfb, hb4⟩
  obtain ⟨hx5, hb5⟩ := alloc_setB (w := w4) #[.nilFunc, .nilFunc] 28 (bL mb fb)
  have hb35 := hb4.trans (hb5.mono hb4.size)
  have HBo : Hid (Bo ((w4.alloc (.cells #[.nilFunc, .nilFunc] 28)).setRow w4.heap.size (bL mb fb)).heap.size ((w4.alloc (.cells #[.nilFunc, .nilFunc] 28)).setRow w4.heap.size (bL mb fb)) m8 mb fb w4.heap.size mst) := by
    have hc : ((w4.alloc (.cells #[.nilFunc, .nilFunc] 28)).setRow w4.heap.size (bL mb fb)).cell? ⟨m8, 0, none⟩ = some (.int .i64 9223372036854775807) := by rw [hb35.cell (p := ⟨m8, 0, none⟩) (block_lt_of_cell HM3.out)]; exact HM3.out
    exact ⟨hc, blkBX hmb4 hb5, blkBX hfb4 hb5, hx5, block_lt_of_cell hc, (Array.getElem?_eq_some_iff.1 (blkBX hmb4 hb5)).1, (Array.getElem?_eq_some_iff.1 (blkBX hfb4 hb5)).1, (Array.getElem?_eq_some_iff.1 hx5).1⟩
  have HO5 := hide (ownsRow_keepB HO3.out hb35)
  have HB5 := hide (HB3.out.trans (hb35.mono HB3.out.size))
  have HG5 : Hid (g < ((w4.alloc (.cells #[.nilFunc, .nilFunc] 28)).setRow w4.heap.size (bL mb fb)).heap.size) := Nat.lt_of_lt_of_le HG2.out.2 (Nat.le_trans HS3.out hb35.size)
  have HNB : Hid (g ≠ m8 ∧ g ≠ mb ∧ g ≠ fb ∧ g ≠ w4.heap.size) := by
    have h1 := HG2.out.2
    have h2 := HG3.out
    have h3 := HS3.out
    have h4 := hb4.size
    exact ⟨by omega, by omega, by omega, by omega⟩
  clear hmb4 hfb4 gmb gfb hb4 hb5 hx5 hb35 HO3 HB3 HM3 HG3 HS3 HLs
  go_upto_region 6 with (refine wpList_store_row rfl 28 _ _ rfl w4.heap.size (bL mb fb) rfl rfl 28 _ (heap_alloc_new _ _) (HIL.out _ _) rfl (HOL.out _ _) ?_)
  change Code.wp _ _ _ _ ((w4.alloc (.cells #[.nilFunc, .nilFunc] 28)).setRow w4.heap.size (bL mb fb))
  generalize (w4.alloc (.cells #[.nilFunc, .nilFunc] 28)).setRow w4.heap.size (bL mb fb) = w5 at *
  generalize w4.heap.size = lb at *
  have hby3 : ∀ d ∈ lR ++ [201, 202, 203], d < 256 := fun d hd => by
    rcases List.mem_append.1 hd with h | h
    · exact HBy.out d h
    · simp at h; omega
  have HBy3 := hide hby3
  clear hby3
  have HRF : Hid (∀ W, W.ownsRow w1.heap.size 5 1 (.slice (some ⟨g, 0, none⟩) (nR + 3) cap) (nR + 3) (B8 (lR ++ [201, 202, 203])) → Rd W (some ⟨g, 0, none⟩) nR lR ∧ Rd W (some ⟨g, 0, none⟩) (nR + 3) (lR ++ [201, 202, 203])) := fun W ho => by
    have hl3 : (lR ++ [201, 202, 203]).length = nR + 3 := by have := HNR.out; simp; omega
    have ho' : W.ownsRow w1.heap.size 5 1 (.slice (some ⟨g, 0, none⟩) (nR + 3) cap) (lR ++ [201, 202, 203]).length (B8 (lR ++ [201, 202, 203])) := by rw [hl3]; exact ho
    obtain ⟨a', c', e, hrd, _⟩ := ownsRow_rd ho' HBy3.out (by omega)
    injection e with e1 e2 e3
    subst e1
    rw [hl3] at hrd
    refine ⟨?_, hrd⟩
    have := hrd.front nR (by omega)
    rw [HNR.out, List.take_left'] at this
    · rw [← HNR.out] at this; exact this
    · rfl
  have hsl := slice_hi_run' (some ⟨g, 0, none⟩) (nR + 3) cap nR (by omega)
  go_wp2_with fail
  refine (NewReaderY (some ⟨g, 0, none⟩) nR cap lR _ (HRF.out _ HO5.out).1 (fun e => by cases e)).mono ?_
  rintro e w6 ⟨r, rfl, hr6, hst6, hge6, hb6⟩
  have HST6 := hide hst6
  have HGR := hide hge6
  have HB6 := hide hb6
  have HO6 := hide (ownsRow_keepB HO5.out hb6)
  clear hr6 hst6 hge6 hb6
  go_wp2_with fail
  refine (NewReaderY (some ⟨g, 0, none⟩) nR cap lR _ (HRF.out _ HO6.out).1 (fun e => by cases e)).mono ?_
  rintro e w7 ⟨r2, rfl, hr7, hst7, hge7, hb7⟩
  have HST7 := hide hst7
  have HGR2 := hide hge7
  have HB7 := hide hb7
  have HO7 := hide (ownsRow_keepB HO6.out hb7)
  have HRL : Hid (r < w6.heap.size) := (HST6.out (fun _ => False) w6 (Keep.refl _ _) fun k h => h.elim).lt
  clear hr7 hst7 hge7 hb7 hsl
  go_upto_region 8 with fail
  go_cut [58] from 41 to 58 (fun t wx => t = .bool false ∧ Hid (Below w7.heap.size w7 wx))
  case first => as_aux_lemma =>
    have HF7 := hide (HRF.out _ HO7.out).2
    have HR7 : Hid (∀ W, Below w7.heap.size w7 W → Rd W aR nR lR) := fun W hb => ((HRd.out.keep HB5.out).keep (HB6.out.trans (HB7.out.mono HB6.out.size))).keep hb
    have HF8 : Hid (∀ w8 : World, Below w7.heap.size w7 w8 → (convert 22 9 (.slice (some ⟨g, 0, none⟩) (nR + 3) cap)).run Try.prog w8 = .ok (.string (str (lR ++ [201, 202, 203]))) w8) := fun w8 b => conv_rd (HF7.out.keep b) cap
    have HN : Hid (∀ (W w8 : World) (f8 cap8 : Nat), w8.ownsRow W.heap.size 5 1 (.slice (some ⟨f8, 0, none⟩) (nR + 3) cap8) (nR + 3) (B8 (lR ++ [201, 202, 203])) → (convert 22 9 (.slice (some ⟨f8, 0, none⟩) (nR + 3) cap8)).run Try.prog w8 = .ok (.string (str (lR ++ [201, 202, 203]))) w8) := fun W w8 f8 cap8 h8 => by
      have hl3 : (lR ++ [201, 202, 203]).length = nR + 3 := by have := HNR.out; simp; omega
      have ho' : w8.ownsRow W.heap.size 5 1 (.slice (some ⟨f8, 0, none⟩) (nR + 3) cap8) (lR ++ [201, 202, 203]).length (B8 (lR ++ [201, 202, 203])) := by rw [hl3]; exact h8
      obtain ⟨a', c', e, hrd, _⟩ := ownsRow_rd ho' HBy3.out (by omega)
      injection e with e1 e2 e3
      subst e1
      rw [hl3] at hrd
      exact conv_rd hrd cap8
    have HS : Hid (∀ W, Below w7.heap.size w7 W → (fun W' : World => (convert 22 9 (.slice (some ⟨g, 0, none⟩) (nR + 3) cap)).run Try.prog W' = .ok (.string (str (lR ++ [201, 202, 203]))) W' ∧ Below w7.heap.size w7 W') W) := fun W hb => ⟨HF8.out W hb, hb⟩
    clear HRF HF7
    generalize str (lR ++ [201, 202, 203]) = F at *
    refine wp_region_held_drew (S := fun W' : World => (convert 22 9 (.slice (some ⟨g, 0, none⟩) (nR + 3) cap)).run Try.prog W' = .ok (.string F) W' ∧ Below w7.heap.size w7 W') (by kernel_rfl) (HS.out _ (Below.refl _ _).drew) (fun hHeld => ?_)
    refine wpAnyH_take (i := 0) (oi := _) (v := ?_) rfl (by kernel_rfl) (by kernel_rfl) (by kernel_rfl) (fun _ _ _ h => h) (Or.inl ⟨by rfl, ?_⟩) (by assumption) ?_
    rotate_left
    · (intro w hSw; (try dsimp only at hSw); go_simp)
      all_goals with_reducible rfl
    go_simp
    refine wpAnyH_take (i := 1) (oi := _) (v := ?_) rfl (by kernel_rfl) (by kernel_rfl) (by kernel_rfl) (fun _ _ _ h => h) (Or.inl ⟨by rfl, ?_⟩) (by assumption) ?_
    rotate_left
    · (intro w hSw; (try dsimp only at hSw); go_simp)
      all_goals with_reducible rfl
    go_simp
    refine wpAnyH_take (i := 2) (oi := _) (v := ?_) rfl (by kernel_rfl) (by kernel_rfl) (by kernel_rfl) (fun _ _ _ h => h) (Or.inl ⟨by rfl, ?_⟩) (by assumption) ?_
    rotate_left
    · (intro w hSw; (try dsimp only at hSw); go_simp)
      all_goals with_reducible rfl
    go_simp
    refine wpAnyH_take (i := 3) (oi := _) (v := ?_) rfl (by kernel_rfl) (by kernel_rfl) (by kernel_rfl) (fun _ _ _ h => h) (Or.inl ⟨by rfl, ?_⟩) (by assumption) ?_
    rotate_left
    · (intro w hSw; (try dsimp only at hSw); go_simp)
      all_goals with_reducible rfl
    go_simp
    refine wpAnyH_take (i := 4) (oi := _) (v := ?_) rfl (by kernel_rfl) (by kernel_rfl) (by kernel_rfl) (fun _ _ _ h => h) (Or.inl ⟨by rfl, ?_⟩) (by assumption) ?_
    rotate_left
    · (intro w hSw; (try dsimp only at hSw); go_simp)
      all_goals with_reducible rfl
    go_simp
    refine wpAnyH_take (i := 5) (oi := _) (v := ?_) rfl (by kernel_rfl) (by kernel_rfl) (by kernel_rfl) (fun _ _ _ h => h) (Or.inl ⟨by rfl, ?_⟩) (by assumption) ?_
    rotate_left
    · (intro w hSw; (try dsimp only at hSw); go_simp)
      all_goals with_reducible rfl
    go_simp
    refine wpAnyH_take (i := 6) (oi := _) (v := ?_) rfl (by kernel_rfl) (by kernel_rfl) (by kernel_rfl) (fun _ _ _ h => h) (Or.inl ⟨by rfl, ?_⟩) (by assumption) ?_
    rotate_left
    · (intro w hSw; (try dsimp only at hSw); go_simp)
      all_goals with_reducible rfl
    go_simp
    refine wpAnyH_take (i := 7) (oi := _) (v := ?_) rfl (by kernel_rfl) (by kernel_rfl) (by kernel_rfl) (fun _ _ _ h => h) (Or.inl ⟨by rfl, ?_⟩) (by assumption) ?_
    rotate_left
    · (intro w hSw; (try dsimp only at hSw); go_simp)
      all_goals with_reducible rfl
    go_simp
    refine wpAnyH_take (i := 8) (oi := _) (v := ?_) rfl (by kernel_rfl) (by kernel_rfl) (by kernel_rfl) (fun _ _ _ h => h) (Or.inl ⟨by rfl, ?_⟩) (by assumption) ?_
    rotate_left
    · (intro w hSw; (try dsimp only at hSw); go_simp)
      all_goals with_reducible rfl
    go_simp
    refine wpAnyH_take (i := 9) (oi := _) (v := ?_) rfl (by kernel_rfl) (by kernel_rfl) (by kernel_rfl) (fun _ _ _ h => h) (Or.inl ⟨by rfl, ?_⟩) (by assumption) ?_
    rotate_left
    · (intro w hSw; (try dsimp only at hSw); go_simp)
      all_goals with_reducible rfl
    go_simp
    refine wpAnyH_take (i := 10) (oi := _) (v := ?_) rfl (by kernel_rfl) (by kernel_rfl) (by kernel_rfl) (fun _ _ _ h => h) (Or.inl ⟨by rfl, ?_⟩) (by assumption) ?_
    rotate_left
    · (intro w hSw; (try dsimp only at hSw); go_simp)
      all_goals with_reducible rfl
    go_simp
    refine wpAnyH_take (i := 11) (oi := _) (v := ?_) rfl (by kernel_rfl) (by kernel_rfl) (by kernel_rfl) (fun _ _ _ h => h) (Or.inl ⟨by rfl, ?_⟩) (by assumption) ?_
    rotate_left
    · (intro w hSw; (try dsimp only at hSw); go_simp)
      all_goals with_reducible rfl
    go_simp
    refine wpAnyH_take (i := 12) (oi := _) (v := ?_) rfl (by kernel_rfl) (by kernel_rfl) (by kernel_rfl) (fun _ _ _ h => h) (Or.inl ⟨by rfl, ?_⟩) (by assumption) ?_
    rotate_left
    · (intro w hSw; (try dsimp only at hSw); go_simp)
      all_goals with_reducible rfl
    go_simp
    refine wpAnyH_take (i := 13) (oi := _) (v := ?_) rfl (by kernel_rfl) (by kernel_rfl) (by kernel_rfl) (fun _ _ _ h => h) (Or.inl ⟨by rfl, ?_⟩) (by assumption) ?_
    rotate_left
    · (intro w hSw; (try dsimp only at hSw); go_simp)
      all_goals with_reducible rfl
    go_simp
    refine wpAnyH_ready (rs := [14]) (by kernel_rfl) (by simp) ?_
    refine AllReadyH.cons (o := _) rfl (fun K hK => ?_) AllReadyH.nil
    rw [if_pos (by rfl)]
    go_simp
    go_at_call 6
    refine (room_any aR nR cR lR _ (HR7.out _ hHeld.2) HZ.out hn).mono ?_
    rintro e w8 ⟨f8, cap8, rfl, h8, hb8⟩
    have HB8 : Hid (Below w7.heap.size w7 w8) := hHeld.2.trans (hb8.mono hHeld.2.size)
    have k9 := HN.out _ _ _ _ h8
    clear h8 hb8
    go_simp
    refine hK.out _ _ (HS.out _ HB8.out) (fun hHeld => ?_)
    clear hK K
    try simp only [Act.put, List.setIfInBounds_toArray, List.set_cons_zero, List.set_cons_succ]
    refine wpAnyH_ready (rs := [15]) (by kernel_rfl) (by simp) ?_
    refine AllReadyH.cons (o := _) rfl (fun K hK => ?_) AllReadyH.nil
    go_simp
    refine hK.out _ _ (HS.out _ HB8.out) (fun hHeld => ?_)
    clear hK K
    try simp only [Act.put, List.setIfInBounds_toArray, List.set_cons_zero, List.set_cons_succ]
    refine wpAnyH_take (i := 16) (oi := _) (v := ?_) rfl (by kernel_rfl) (by kernel_rfl) (by kernel_rfl) (fun _ _ _ h => h) (Or.inl ⟨by rfl, ?_⟩) (by assumption) ?_
    rotate_left
    · (intro w hSw; (try dsimp only at hSw); go_simp)
      all_goals with_reducible rfl
    go_simp
    refine wpAnyH_take (i := 17) (oi := _) (v := ?_) rfl (by kernel_rfl) (by kernel_rfl) (by kernel_rfl) (fun _ _ _ h => h) (Or.inl ⟨by rfl, ?_⟩) (by assumption) ?_
    rotate_left
    · (intro w hSw; (try dsimp only at hSw); go_simp)
      all_goals with_reducible rfl
    go_simp
    refine wpAnyH_done (by kernel_rfl) ?_ _
    go_wp2_with fail
    go_meet
    exact ⟨by simp, HB8.out⟩
  case rest =>
    obtain ⟨rfl, hb8⟩ := hcut
    have HB8 := hide hb8.out
    have HO8 := hide (ownsRow_base (ownsRow_keepB HO7.out hb8.out) (Nat.zero_le _))
    clear hb8
    go_wp2_with fail
    refine (fill_any (some ⟨g, 0, none⟩) (nR + 3) cap _ 77 _ HO8.out (by omega)).mono ?_
    rintro e w9 ⟨rfl, _, hk9⟩
    have hk69 : Keep (fun k => (Value.slice (some ⟨g, 0, none⟩) (nR + 3) cap).ownBlock = some k) w6 w9 := (Keep.ofBelow (S := fun k => (Value.slice (some ⟨g, 0, none⟩) (nR + 3) cap).ownBlock = some k) (HB7.out.trans (HB8.out.mono HB7.out.size)) (Nat.le_refl _)).more hk9
    have hk79 : Keep (fun k => (Value.slice (some ⟨g, 0, none⟩) (nR + 3) cap).ownBlock = some k) w7 w9 := (Keep.ofBelow (S := fun k => (Value.slice (some ⟨g, 0, none⟩) (nR + 3) cap).ownBlock = some k) HB8.out (Nat.le_refl _)).more hk9
    have hg1 : ∀ k, (Value.slice (some ⟨g, 0, none⟩) (nR + 3) cap).ownBlock = some k → k = g := fun k e => by injection e with e; exact e.symm
    have HR9 := hide (HST6.out _ w9 hk69 fun k e => by rw [hg1 k e]; exact HG5.out)
    have HS9 := hide (HST7.out _ w9 hk79 fun k e => by rw [hg1 k e]; have h1 := HG5.out; have h2 := HB6.out.size; omega)
    have hk59 : Keep (fun k => k = g) w5 w9 := ((Keep.ofBelow (S := fun k => k = g) HB6.out (Nat.le_refl _)).trans (Keep.ofBelow (S := fun k => k = g) (HB7.out.trans (HB8.out.mono HB7.out.size)) (Nat.le_refl _)) fun i h => .inl h).trans hk9 fun i e => .inl (hg1 i e)
    have HBo9 : Hid (Bo w5.heap.size w9 m8 mb fb lb mst) := ⟨hk59.cell HBo.out.c (fun e => HNB.out.1 e.symm), hk59.blk HBo.out.b (fun e => HNB.out.2.1 e.symm), hk59.blk HBo.out.f (fun e => HNB.out.2.2.1 e.symm), hk59.blk HBo.out.l (fun e => HNB.out.2.2.2 e.symm), HBo.out.lt⟩
    have HB9 : Hid (Below w.heap.size w w9) := HB5.out.trans (hk59.below HB5.out.size fun k e => by rw [e]; exact HG2.out.1)
    have HGr : Hid (w5.heap.size ≤ r ∧ w5.heap.size ≤ r2 ∧ r ≠ r2) := ⟨HGR.out, Nat.le_trans HB6.out.size HGR2.out, by have h1 := HGR2.out; have h2 := HRL.out; omega⟩
    have HWB : Hid (w.heap.size ≤ w5.heap.size) := HB5.out.size
    obtain ⟨t, ht⟩ : ∃ t, newR lR = t := ⟨_, rfl⟩
    rw [ht] at HR9 HS9
    have HTt := hide ht
    clear hk9 hk69 hk79 hg1 hk59 ht HO8 HB8 HO7 HB7 HO6 HB6 HO5 HB5 HBo HNB HST6 HST7 HGR HGR2 HRL HRF HG2 HG5
    go_wp2_with fail
    refine (RNewReader_any aR nR cR lR _ (HRd.out.keep HB9.out) HZ.out).mono ?_
    rintro e w10 ⟨m, rfl, hq10, hge10, hb10⟩
    rw [HTt.out] at hq10
    have HQ10 := hide hq10
    have HR10 := hide (HR9.out.below hb10)
    have HS10 := hide (HS9.out.below hb10)
    have HBo10 := hide (HBo9.out.stay (Keep.ofBelow (S := fun _ => False) hb10 (Nat.le_refl _)) fun i h => h.elim)
    have HB10 := hide (HB9.out.trans (hb10.mono HB9.out.size))
    have HGm : Hid (r < m ∧ r2 < m ∧ w5.heap.size ≤ m ∧ w.heap.size ≤ m) := by
      have h1 := HR9.out.lt
      have h2 := HS9.out.lt
      have h3 := HGr.out.1
      have h4 := HB9.out.size
      exact ⟨by omega, by omega, by omega, by omega⟩
    clear hq10 hge10 hb10 HR9 HS9 HBo9 HB9
    go_wp2_with fail
    refine (RHeadZ m mst t _ HQ10.out).mono ?_
    rintro e w11 ⟨rfl, hq11, hk11⟩
    have hN := hd16 mst t
    obtain ⟨N, hNe⟩ : ∃ N, hdN mst t = N := ⟨_, rfl⟩
    obtain ⟨σ, hσe⟩ : ∃ σ, takeR (headR mst) t = σ := ⟨_, rfl⟩
    rw [okR_castB]
    have hNN : okR (headR mst) t (headV mst t) 0 = N := hNe
    rw [hNN]
    rw [hNe] at hN
    rw [hσe] at hq11
    have HNe := hide hNe
    have Hσe := hide hσe
    have HQ11 := hide hq11
    have HR11 := hide (slice_far HR10.out hk11 fun i e => by have h1 : i = m := e; have := HGm.out.1; omega)
    have HS11 := hide (slice_far HS10.out hk11 fun i e => by have h1 : i = m := e; have := HGm.out.2.1; omega)
    have HBo11 := hide (HBo10.out.stay hk11 fun i e => by have h1 : i = m := e; have := HGm.out.2.2.1; omega)
    have HB11 := hide (HB10.out.trans (hk11.below HB10.out.size fun k e => by rw [e]; exact HGm.out.2.2.2))
    clear hq11 hk11 hNN hNe hσe HQ10 HR10 HS10 HBo10 HB10
    go_upto_block 0 with fail
    go_cut [12, 13] from 66 to 82 (fun y _ wx => ∃ k : Nat, k ≤ N ∧ Hid ((k = N ∨ (allR (rowR 9223372036854775807) k σ).fault ≠ 0) ∧ Qr wx m (allR (rowR 9223372036854775807) k σ) ∧ Wl w11.heap.size wx y (wvB 9223372036854775807 σ k) ∧ Keep (fun k => k = m) w11 wx))
    case first => as_aux_lemma =>
      have HML : Hid (m < w11.heap.size) := HQ11.out.lt
      go_wp2_with fail
      go_loopw [12, 13] (fun y i wx => ∃ k : Nat, i = .int .i64 (k : Nat) ∧ k ≤ N ∧ Hid (Qr wx m (allR (rowR 9223372036854775807) k σ) ∧ Wl w11.heap.size wx y (wvB 9223372036854775807 σ k) ∧ Keep (fun k => k = m) w11 wx)) (fun _ i _ => N - (intOf i).toNat)
      case atStart => exact ⟨0, rfl, Nat.zero_le _, HQ11.out, Wl.nil _ _, Keep.refl _ _⟩
      case round =>
        clear HQ11
        obtain ⟨k, rfl, hk, HD⟩ := hrel
        by_cases hlt : k < N
        · have hlt' : (k : Int) < (N : Int) := by omega
          obtain ⟨_, _, _, c1, c2, _⟩ := HD.out.1.see
          by_cases hzk : (allR (rowR 9223372036854775807) k σ).fault = 0
          · have c2' : wr.cell? ⟨m, 2, none⟩ = some (.int .i64 0) := by rw [c2, hzk]; rfl
            have HNx := hide (all_step (gn_row 9223372036854775807) HD.out.1)
            have HVS := hide (wvB_succ 9223372036854775807 σ k)
            have HVL := hide (wvB_len 9223372036854775807 σ k)
            generalize allR (rowR 9223372036854775807) k σ = sk at *
            clear c2 hzk
            go_wp2_with fail
            refine (RBlobY m 9223372036854775807 sk _ HD.out.1).mono ?_
            rintro e w20 ⟨a20, n20, c20, rfl, hr20, hq20, hk20, hn20⟩
            obtain ⟨l20, hl20⟩ : ∃ l, okR (rowR 9223372036854775807) sk (rowV 9223372036854775807 sk) [] = l := ⟨_, rfl⟩
            rw [hl20] at hr20
            have hnl : n20 = l20.length := hr20.1
            subst hnl
            have hW20 := Wl.pastQ HD.out.2.1 HD.out.1 hk20
            have hb21 : Below w20.heap.size w20 (w20.alloc (.cells #[.slice a20 l20.length c20] 22)) := (Below.refl _ _).alloc (Nat.le_refl _) _
            obtain ⟨vs, hv1, hv2⟩ := (hW20.new hb21).ex
            have HV1 := hide hv1
            have HV2 := hide hv2
            have HR21 := hide (hr20.keep hb21)
            have HQ21 := hide (hq20.below hb21)
            have HK21 := hide ((HD.out.2.2.more hk20).more (Keep.ofBelow (S := fun k => k = m) hb21 (Nat.le_refl _)))
            have HW : Hid (l20.length ≠ 0 → ∀ b off, a20 = some ⟨b, off, none⟩ → wr.heap.size ≤ b ∧ b < (w20.alloc (.cells #[.slice a20 l20.length c20] 22)).heap.size) := fun h0 b off e => ⟨hn20 b off e, by
              rcases hr20.2.2.2 with h1 | ⟨b', off', e', hc⟩
              · exact absurd h1 h0
              · rw [e] at e'
                injection e' with e'
                injection e' with e1 e2
                subst e1 e2
                exact Nat.lt_of_lt_of_le (block_lt_of_cell (hc 0 (Nat.pos_of_ne_zero h0))) hb21.size⟩
            have HY : Hid (∀ i, u12.ownBlock = some i → i < wr.heap.size) := fun i e => by
              obtain ⟨vs', h1, _⟩ := HD.out.2.1.ex
              exact (h1.lt i e).2
            have HCX : Hid (∀ j u, ([.slice a20 l20.length c20] : List Value)[j]? = some u → (w20.alloc (.cells #[.slice a20 l20.length c20] 22)).cell? ((⟨w20.heap.size, 0, none⟩ : Addr).add j) = some u) := by
              intro j u hu
              match j, hu with
              | 0, hu =>
                simp only [List.getElem?_cons_zero, Option.some.injEq] at hu
                subst hu
                rw [add_zero, cell_of_row _ _ _ _ _ _ (heap_alloc_new w20 _)]
                rfl
              | j + 1, hu => simp at hu
            have HWS : Hid (w11.heap.size ≤ (w20.alloc (.cells #[.slice a20 l20.length c20] 22)).heap.size) := HK21.out.size
            obtain ⟨i0, hi, hz0, hz1, hz2⟩ := info_parts infoB
            have HIi := hide hi
            have HL20 := hide hl20
            clear hr20 hq20 hk20 hn20 hW20 hb21 hv1 hv2 hi hl20 c1 c2' HD
            go_wp2_with (at_builtin; refine wpList_append_own2 rfl _ _ 41 rfl w11.heap.size 22 i0 (.slice none 0 0) 1 24 Try.underlying41 HIi.out hz0 hz1 hz2 rfl (by decide) _ (wvB 9223372036854775807 σ k).length vs rfl HV1.out ⟨w20.heap.size, 0, none⟩ 1 1 [.slice a20 l20.length c20] rfl rfl HCX.out (fun u hu => by rw [List.mem_singleton.1 hu]; rfl) (by unfold maxLen; rw [HVL.out]; omega) (by rw [HVL.out]; omega) HWS.out ?_; intro v' w3 ho hg hnb; have HO3 := hide ho; have HG3 := hide hg; have HN3 := hide hnb; clear ho hg hnb)
            go_roundw
            case rel =>
              have hk5 : Keep (fun i => u12.ownBlock = some i) (w20.alloc (.cells #[.slice a20 l20.length c20] 22)) w3 := Keep.grown HG3.out fun k e => e
              have hlo : ∀ i, u12.ownBlock = some i → w11.heap.size ≤ i := fun i e => (HV1.out.lt i e).1
              refine ⟨k + 1, by go_num, by omega, ?_, ?_, ?_⟩
              · rw [← HNx.out]
                exact HQ21.out.stay hk5 fun j hj e => by have h1 := hlo j e; have h3 := HML.out; omega
              · rw [HVS.out, HL20.out]
                exact Wl.push HV1.out HV2.out HR21.out HW.out HY.out HO3.out hk5 HN3.out
              · exact HK21.out.trans hk5 fun i e => .inr (hlo i e)
            case measure => simp [intOf]; omega
          · have hzz : ((((allR (rowR 9223372036854775807) k σ).fault : Nat) : Int) == 0) = false := by simpa using hzk
            have HZk := hide hzk
            clear hzk
            go_wp2_with fail
            go_meet
            exact ⟨k, hk, .inr HZk.out, HD.out.1, HD.out.2.1, HD.out.2.2⟩
        · obtain rfl : k = N := by omega
          have hlt' : ¬ (k : Int) < (k : Int) := by omega
          go_wp2_with fail
          go_meet
          exact ⟨k, Nat.le_refl _, .inl rfl, HD.out.1, HD.out.2.1, HD.out.2.2⟩
    case rest =>
      obtain ⟨k1, hk1, HD⟩ := hcut
      have he1 : allR (rowR 9223372036854775807) k1 σ = allR (rowR 9223372036854775807) N σ := by
        rcases HD.out.1 with h | h
        · rw [h]
        · exact (allR_stick _ σ k1 h N hk1).symm
      obtain ⟨τ, hτ⟩ : ∃ τ, allR (rowR 9223372036854775807) N σ = τ := ⟨_, rfl⟩
      obtain ⟨LL, hLL⟩ : ∃ LL : List (List Nat), (if τ.fault = 0 then blsB 9223372036854775807 σ N else []) = LL := ⟨_, rfl⟩
      have HQ12 : Hid (Qr wc m τ) := by have := HD.out.2.1; rw [he1, hτ] at this; exact this
      have HWw := hide HD.out.2.2.1
      have hk12 := HD.out.2.2.2
      have HR12 := hide (slice_far HR11.out hk12 fun i e => by have h1 : i = m := e; have := HGm.out.1; omega)
      have HS12 := hide (slice_far HS11.out hk12 fun i e => by have h1 : i = m := e; have := HGm.out.2.1; omega)
      have HBo12 := hide (HBo11.out.stay hk12 fun i e => by have h1 : i = m := e; have := HGm.out.2.2.1; omega)
      have HB12 := hide (HB11.out.trans (hk12.below HB11.out.size fun k e => by rw [e]; exact HGm.out.2.2.2))
      have HLV : Hid (τ.fault = 0 → wvB 9223372036854775807 σ k1 = LL) := fun h0 => by
        rcases HD.out.1 with h | h
        · rw [← hLL, if_pos h0, h]
          rw [← hτ] at h0
          exact wvB_bls h0 HQ11.out
        · rw [he1, hτ] at h; exact absurd h0 h
      have HLB : Hid ((∀ l ∈ LL, ∀ d ∈ l, d < 256) ∧ (∀ l ∈ LL, l.length ≤ 16777216) ∧ LL.length ≤ 16777216) := by
        rw [← hLL]
        exact bls_bounds hN HQ11.out
      obtain ⟨_, _, _, cm1, cm2, _⟩ := HQ12.out.see
      have Hτ := hide hτ
      have HLL := hide hLL
      have HSZ : Hid (w11.heap.size ≤ wc.heap.size) := hk12.size
      clear HD he1 hτ hLL hk12 HR11 HS11 HBo11 HB11
      go_upto_if 87 with fail
      go_cut [12] from 87 to 87 (fun y wx => wx = wc ∧ Hid (Wl w11.heap.size wc y LL))
      case first => as_aux_lemma =>
        by_cases hzt : τ.fault = 0
        · have hzb : (((τ.fault : Nat) : Int) != 0) = false := by rw [hzt]; rfl
          have hzc : (((τ.fault : Nat) : Int) == 0) = true := by rw [hzt]; rfl
          have HZt := hide hzt
          clear cm2 hzt
          go_wp2_with fail
          go_meet
          exact ⟨rfl, by have := HWw.out; rw [HLV.out HZt.out] at this; exact this⟩
        · have hzz : (((τ.fault : Nat) : Int) == 0) = false := by simpa using hzt
          have hzb : (((τ.fault : Nat) : Int) != 0) = true := by simpa using hzt
          have HZt := hide hzt
          clear hzt
          go_wp2_with fail
          go_meet
          refine ⟨rfl, ?_⟩
          have e : LL = [] := by have := HLL.out; rw [if_neg HZt.out] at this; exact this.symm
          rw [e]
          show Wl _ _ _ _
          exact Wl.nil _ _
      case rest =>
        obtain ⟨hwc, HW2⟩ := hcut
        subst hwc
        clear HWw HLV cm1 cm2
        obtain ⟨w12, hw12⟩ : ∃ x, x = wc := ⟨_, rfl⟩
        subst hw12
        have HWD := hide HW2.out.wd
        have HMR : Hid (m8 ≠ r ∧ m8 ≠ r2) := by
          have h1 := HBo12.out.lt.1
          have h2 := HGr.out
          exact ⟨by omega, by omega⟩
        have HTA := hide (takeAnyB r m8 mb fb 9223372036854775807 mst t _ HR12.out HBo12.out.c HMR.out.1 HBo12.out.b HBo12.out.f)
        go_wp2_with (refine wpList_load_row rfl 28 _ rfl lb rfl 28 (bL mb fb) (0, 0) _ HBo12.out.l Try.underlying28 rfl (HIL.out _ _) ?_)
        go_at_call 14
        refine (HTA.out).mono ?_
        rintro e w14 ⟨hk14, hr14, va, vsA, rfl, hva, hblA⟩
        rw [HNe.out, Hσe.out, Hτ.out] at hr14
        rw [HNe.out, Hσe.out, Hτ.out, HLL.out] at hva hblA
        have HVA := hide hva
        have HBA := hide hblA
        have HR14 := hide hr14
        have HS14 := hide (Rr.pastR HS12.out hk14 HR12.out HGr.out.2.2)
        have HQ14 := hide (Qr.pastR HQ12.out hk14 HR12.out (by have := HGm.out.1; omega))
        have HW14 := hide (Wd.pastR HWD.out HR12.out hk14)
        have HKs : Hid (w12.heap.size ≤ w14.heap.size) := hk14.size
        have HBo14 := hide (HBo12.out.stay hk14 fun i e => by have h1 : i = r := e; rw [h1]; exact HGr.out.1)
        have HB14 := hide (HB12.out.trans (hk14.below HB12.out.size fun k e => by have h1 : k = r := e; have h2 := HGr.out.1; have h3 := HWB.out; omega))
        have HBS : Hid (w11.heap.size ≤ w12.heap.size ∧ m < w12.heap.size ∧ r2 < w12.heap.size ∧ r < w12.heap.size) := ⟨HSZ.out, HQ12.out.lt, HS12.out.lt, HR12.out.lt⟩
        clear hk14 hr14 hva hblA HTA HR12 HS12 HQ12 HW2 HBo12 HB12 HWD HSZ
        have HTB := hide (takeAnyB r2 m8 mb fb 9223372036854775807 mst t _ HS14.out HBo14.out.c HMR.out.2 HBo14.out.b HBo14.out.f)
        go_wp2_with (refine wpList_load_row rfl 28 _ rfl lb rfl 28 (bL mb fb) (0, 0) _ HBo14.out.l Try.underlying28 rfl (HIL.out _ _) ?_)
        go_at_call 14
        refine (HTB.out).mono ?_
        rintro e w15 ⟨hk15, hs15, vb, vsB, rfl, hvb, hblB⟩
        rw [HNe.out, Hσe.out, Hτ.out] at hs15
        rw [HNe.out, Hσe.out, Hτ.out, HLL.out] at hvb hblB
        have HVB := hide hvb
        have HBB := hide hblB
        have HS15 := hide hs15
        have HR15 := hide (Rr.pastR HR14.out hk15 HS14.out (fun e => HGr.out.2.2 e.symm))
        have HQ15 := hide (Qr.pastR HQ14.out hk15 HS14.out (by have := HGm.out.2.1; omega))
        have HW15 := hide (Wd.pastR HW14.out HS14.out hk15)
        have HBo15 := hide (HBo14.out.stay hk15 fun i e => by have h1 : i = r2 := e; rw [h1]; exact HGr.out.2.1)
        have HB15 := hide (HB14.out.trans (hk15.below HB14.out.size fun k e => by have h1 : k = r2 := e; have h2 := HGr.out.2.1; have h3 := HWB.out; omega))
        have HVA15 := hide (ownsRow_keepQ HVA.out hk15 fun i e h => by have h1 := (HVA.out.lt i e).1; have h2 : i = r2 := h; have h3 := HBS.out; omega)
        have HBA15 := hide (HBA.out.keep hk15 fun i v b hv hb h => by have h1 := (HBA.out.lt hv hb).1; have h2 : b = r2 := h; have h3 := HBS.out; omega)
        have HAL : Hid ((∀ i, va.ownBlock = some i → i < w14.heap.size) ∧ ∀ (i : Nat) v b, vsA[i]? = some v → v.ownBlock = some b → b < w14.heap.size) := ⟨fun i e => (HVA.out.lt i e).2, fun i v b hv hb => (HBA.out.lt hv hb).2⟩
        have HS12 : Hid (w12.heap.size ≤ w14.heap.size) := HKs.out
        have HK15 : Hid (w14.heap.size ≤ w15.heap.size) := hk15.size
        clear hk15 hs15 hvb hblB HTB HR14 HS14 HQ14 HW14 HBo14 HB14 HVA HBA HKs
        obtain ⟨aA, cA, hva, hrA⟩ := own_rdL HVA15.out HBA15.out HLB.out.1 HLB.out.2.1 HLB.out.2.2
        obtain ⟨aB, cB, hvb, hrB⟩ := own_rdL HVB.out HBB.out HLB.out.1 HLB.out.2.1 HLB.out.2.2
        obtain ⟨aW, cW, hvw, hrW⟩ := HW15.out.rd HLB.out.2.2
        subst hva hvb hvw
        have HrA := hide hrA
        have HrB := hide hrB
        have HrW := hide hrW
        clear hrA hrB hrW
        go_upto_region 22 with fail
        go_cut [121] from 94 to 121 (fun t wx => t = .bool false ∧ Hid (Below w15.heap.size w15 wx))
        case first => as_aux_lemma =>
          have HS : Hid (∀ W, Below w15.heap.size w15 W → (fun W' : World => W'.cell? ⟨m, 1, none⟩ = some (.int .i64 (τ.taken : Nat)) ∧ W'.cell? ⟨m, 2, none⟩ = some (.int .i64 (τ.fault : Nat)) ∧ Below w15.heap.size w15 W') W) := fun W hb => by
            obtain ⟨a, c, h1, _⟩ := (HQ15.out.below hb).ex
            exact ⟨by rw [cell_of_row _ _ _ _ _ _ h1]; rfl, by rw [cell_of_row _ _ _ _ _ _ h1]; rfl, hb⟩
          go_region_held3 (fun W' : World => W'.cell? ⟨m, 1, none⟩ = some (.int .i64 (τ.taken : Nat)) ∧ W'.cell? ⟨m, 2, none⟩ = some (.int .i64 (τ.fault : Nat)) ∧ Below w15.heap.size w15 W') (first | (exact HS.out _ HK2.out) | (exact HS.out _ HK1.out) | (exact HS.out _ (Below.refl _ _)) | (exact HS.out _ (Below.refl _ _).drew) | go_keep) (first
              | (go_at_call 17; have hh := (‹_ ∧ _ ∧ Below w15.heap.size w15 _›).2.2; refine (at_anyB r2 τ _ (HS15.out.below hh)).mono ?_; rintro e wa ⟨rfl, rfl⟩)
              | (go_at_call 16; have hh := (‹_ ∧ _ ∧ Below w15.heap.size w15 _›).2.2; refine (err_anyB r τ _ (HR15.out.below hh)).mono ?_; rintro e wa ⟨rfl, rfl⟩)
              | (go_at_call 15; have hh := HK1.out; refine (blobs_same aB aW LL.length cB cW LL _ (HrB.out.keep hh) (HrW.out.keep hh)).mono ?_; rintro e wb2 ⟨rfl, hm2⟩; have HK2 : Hid (Below w15.heap.size w15 wb2) := (by obtain ⟨j, rfl⟩ := hm2; exact hh.trans ((drewN_belowB _ _).mono hh.size)); clear hm2)
              | (go_at_call 15; have hh := (‹_ ∧ _ ∧ Below w15.heap.size w15 _›).2.2; refine (blobs_same aA aW LL.length cA cW LL _ (HrA.out.keep hh) (HrW.out.keep hh)).mono ?_; rintro e wb1 ⟨rfl, hm1⟩; have HK1 : Hid (Below w15.heap.size w15 wb1) := (by obtain ⟨j, rfl⟩ := hm1; exact hh.trans ((drewN_belowB _ _).mono hh.size)); clear hm1))
          all_goals (go_wp2_with fail; go_meet; exact ⟨by simp, HK2.out⟩)
        case rest =>
          obtain ⟨rfl, hb16⟩ := hcut
          obtain ⟨w16, hw16⟩ : ∃ x, x = wc := ⟨_, rfl⟩
          subst hw16
          have HK16 : Hid (Keep (fun _ => False) w15 w16) := Keep.ofBelow hb16.out (Nat.le_refl _)
          have HVA16 := hide (Ow.ownsRow_new HVA15.out HK16.out)
          have HVB16 := hide (Ow.ownsRow_new HVB.out HK16.out)
          have HBA16 := hide (HBA15.out.keep HK16.out fun _ _ _ _ _ h => h)
          have HBB16 := hide (HBB.out.keep HK16.out fun _ _ _ _ _ h => h)
          have HR16 := hide (HR15.out.below hb16.out)
          have HW16 := hide (HW15.out.far HK16.out fun _ h => h.elim)
          have HBo16 := hide (HBo15.out.stay HK16.out fun _ h => h.elim)
          have HB16 := hide (HB15.out.trans (hb16.out.mono HB15.out.size))
          have HG16 : Hid (w14.heap.size ≤ w16.heap.size) := Nat.le_trans HK15.out hb16.out.size
          clear hb16 HVA15 HVB HBA15 HBB HR15 HS15 HQ15 HW15 HBo15 HB15 HrA HrB HrW HK16 HK15
          have H1A : Hid (∀ u ∈ vsA, u.oneCell' = true) := bl_one HBA16.out
          have H1B : Hid (∀ u ∈ vsB, u.oneCell' = true) := bl_one HBB16.out
          have HE17 := hide (empty_rowL w16)
          have HVA17 := hide (HVA16.out.alloc (.cells #[] 22))
          go_wp2_with (first
            | (at_builtin; refine wp_appendLs rfl _ _ rfl w16.heap.size v18 LL.length vsA rfl HO18.out w14.heap.size (.slice aB LL.length cB) LL.length vsB rfl HVB18.out H1B.out (by have := HLB.out.2.2; omega) HS18.out ?_; intro v19 w19 ho hk hnb; have HO19 := hide ho; have HK19 : Hid (Keep (fun k => w16.heap.size ≤ k) w16 w19) := (HK18.out.trans hk fun i e => .inl (HO18.out.lt i e).1); clear ho hk hnb)
            | (at_builtin; go_loud (refine wp_appendLs rfl _ _ rfl w16.heap.size (.slice (some ⟨w16.heap.size, 0, none⟩) 0 0) 0 [] rfl HE17.out w12.heap.size (.slice aA LL.length cA) LL.length vsA rfl HVA17.out H1A.out (by have := HLB.out.2.2; omega) (by simp) ?_; intro v18 w18 ho hk hnb; rw [Nat.zero_add, List.nil_append] at ho; have HO18 := hide ho; have HK18 : Hid (Keep (fun k => w16.heap.size ≤ k) w16 w18) := ((Keep.ofBelow (S := fun k => w16.heap.size ≤ k) ((Below.refl _ w16).alloc (Nat.le_refl _) _) (Nat.le_refl _)).trans hk fun i e => .inl (HE17.out.lt i e).1); have HS18 : Hid (w16.heap.size ≤ w18.heap.size) := HK18.out.size; have HVB18 := hide (ownsRow_keepQ HVB16.out HK18.out fun i e h => (by have h1 := (HVB16.out.lt i e).2; omega)); clear ho hk hnb)))
          have HKx : Hid (Keep (fun k => w16.heap.size ≤ k) w16 w19) := HK19.out
          have HVA19 := hide (ownsRow_keepQ HVA16.out HK19.out fun i e h => (by have h1 := (HVA16.out.lt i e).2; omega))
          have HVB19 := hide (ownsRow_keepQ HVB16.out HK19.out fun i e h => (by have h1 := (HVB16.out.lt i e).2; omega))
          have HBA19 := hide (HBA16.out.keep HK19.out fun i v b hv hb h => (by have h1 := (HBA16.out.lt hv hb).2; omega))
          have HBB19 := hide (HBB16.out.keep HK19.out fun i v b hv hb h => (by have h1 := (HBB16.out.lt hv hb).2; omega))
          have HBAB := hide (HBA19.out.app HBB19.out fun i j v u b hv hu hb e => (by have h1 := HAL.out.2 i v b hv hb; have h2 := (HBB19.out.lt hu e).1; omega))
          have HSv : Hid (∀ k, Sv (vsA ++ vsB) k → w12.heap.size ≤ k) := fun k ⟨i, v, hv, hb⟩ => by
            by_cases hi : i < vsA.length
            · rw [List.getElem?_append_left hi] at hv
              exact (HBA19.out.lt hv hb).1
            · rw [List.getElem?_append_right (by omega)] at hv
              exact Nat.le_trans HS12.out (HBB19.out.lt hv hb).1
          have HO19' : Hid (w19.ownsRow w16.heap.size 22 1 v19 (LL ++ LL).length (vsA ++ vsB)) := by have := HO19.out; rw [← List.length_append] at this; exact this
          have HOw := hide (own_list w19 HO19'.out HBAB.out (fun l hl => (List.mem_append.1 hl).elim (HLB.out.2.1 l) (HLB.out.2.1 l)) (by rw [List.length_append]; have := HLB.out.2.2; omega))
          go_wp2_with fail
          refine (HOw.out).mono ?_
          rintro e w20 ⟨rfl, hk20⟩
          have HTy : Hid (∀ v n xs B i, w19.ownsRow B 22 1 v n xs → v.ownBlock = some i → ¬ Sv (vsA ++ vsB) i) := fun v n xs B i ho e ⟨j, u, hu, hb⟩ => by
            have hlt := (List.getElem?_eq_some_iff.1 hu).1
            exact Ow.typ_ne (HBAB.out.own j u _ hu (List.getElem?_eq_getElem (by rw [← HBAB.out.len]; exact hlt))) ho (by decide) hb e
          have HVA20 := hide (ownsRow_keepQ HVA19.out hk20 fun i e => HTy.out _ _ _ _ i HVA19.out e)
          have HVB20 := hide (ownsRow_keepQ HVB19.out hk20 fun i e => HTy.out _ _ _ _ i HVB19.out e)
          have HK20 : Hid (Keep (fun k => w12.heap.size ≤ k) w16 w20) := (HK19.out.mono fun k h => Nat.le_trans (Nat.le_trans HS12.out HG16.out) h).trans hk20 fun i h => .inl (HSv.out i h)
          have HLs : Hid (∀ (i : Nat) l, LL[i]? = some l → ∃ a c, vsB[i]? = some (.slice a l.length c)) := fun i l hl => by
            have hlt := (List.getElem?_eq_some_iff.1 hl).1
            have e1 : vsB[i]? = some (vsB[i]'(by rw [HBB19.out.len]; exact hlt)) := List.getElem?_eq_getElem _
            obtain ⟨a, c, e⟩ := ownsRow_shape (HBB19.out.own i _ l e1 hl)
            exact ⟨a, c, by rw [e1, e]⟩
          have HR20 := hide (slice_far HR16.out HK20.out fun i e => (by have h1 := HBS.out; omega))
          have HW20 := hide (HW16.out.far HK20.out fun i e => e)
          have HBo20 := hide (HBo16.out.stay HK20.out fun i e => (by have h1 := HBS.out; have h2 := HGr.out.1; omega))
          have HB20 := hide (HB16.out.trans (HK20.out.below HB16.out.size fun k e => (by have h1 := HBS.out; have h2 := HGr.out.1; have h3 := HWB.out; omega)))
          have HS20 : Hid (w16.heap.size ≤ w20.heap.size) := HK20.out.size
          have HBA20 : Hid (∀ i, (Value.slice aB LL.length cB).ownBlock = some i → (Value.slice aA LL.length cA).ownBlock ≠ some i) := fun i e1 e2 => (by have h1 := HAL.out.1 i e2; have h2 := (HVB19.out.lt i e1).1; omega)
          clear hk20 HTy HOw HO19' HO19 HSv HBAB HBA19 HBB19 HVA19 HVB19 HKx HK19 HK18 HO18 HS18 HVB18 HVA17 HE17 H1A H1B HBo16 HB16 HW16 HR16 HBA16 HBB16 HVA16 HVB16 HK20 HAL
          go_wp2_with fail
          have hLb : LL.length ≤ 16777216 := HLB.out.2.2
          go_loopw [16] (fun iv wr => ∃ i : Nat, iv = .int .i64 (i : Nat) ∧ i ≤ LL.length ∧ Hid (∃ xs, wr.ownsRow w12.heap.size 22 1 (.slice aA LL.length cA) LL.length xs ∧ Keep (fun k => (Value.slice aA LL.length cA).ownBlock = some k) w20 wr)) (fun iv _ => LL.length - (intOf iv).toNat)
          case atStart => exact ⟨0, rfl, Nat.zero_le _, vsA, HVA20.out, Keep.refl _ _⟩
          case round =>
            clear HVA20
            obtain ⟨i, rfl, hi, HD⟩ := hrel
            by_cases hlt : i < LL.length
            · have hlt' : (i : Int) < (LL.length : Int) := by omega
              obtain ⟨xs, ho, hk⟩ := HD.out
              obtain ⟨ga, ca, e⟩ := Ow.own_form ho (by omega)
              injection e with eA _ eC
              subst eA
              obtain ⟨y, hy⟩ : ∃ y, xs[i]? = some y := ⟨_, List.getElem?_eq_getElem (by have := ho.1; omega)⟩
              have cc := ho.cellAt i (by omega)
              rw [hy] at cc
              have fz := ho.frozenAt i
              have N1 : Hid (∃ xs, (wr.setCell ⟨ga, i, none⟩ (.slice none 0 0)).ownsRow w12.heap.size 22 1 (.slice (some ⟨ga, 0, none⟩) LL.length cA) LL.length xs ∧ Keep (fun k => (Value.slice (some ⟨ga, 0, none⟩) LL.length cA).ownBlock = some k) w20 (wr.setCell ⟨ga, i, none⟩ (.slice none 0 0))) := ⟨_, (ho.stored i _).1, hk.more (Keep.setCell (S := fun k => (Value.slice (some ⟨ga, 0, none⟩) LL.length cA).ownBlock = some k) wr (p := ⟨ga, i, none⟩) rfl _)⟩
              clear ho hy hk HD eC
              go_wp2_with fail
              go_roundw
              case rel => exact ⟨i + 1, by go_num, by omega, N1.out⟩
              case measure => simp [intOf]; omega
            · have hie : i = LL.length := by omega
              have hlt' : ¬ (i : Int) < (LL.length : Int) := by omega
              obtain ⟨w21, hw21⟩ : ∃ x, x = wr := ⟨_, rfl⟩
              subst hw21
              obtain ⟨xs0, ho0, hk0⟩ := HD.out
              have HO21 := hide ho0
              have hge : ∀ k, (Value.slice aA LL.length cA).ownBlock = some k → w12.heap.size ≤ k := fun k e => (ho0.lt k e).1
              have HVB21 := hide (ownsRow_keepQ HVB20.out hk0 fun k e1 e2 => HBA20.out k e1 e2)
              have HR21 := hide (slice_far HR20.out hk0 fun k e => (by have h1 := HBS.out; have h2 := hge k e; omega))
              have HW21 := hide (HW20.out.far hk0 fun k e => hge k e)
              have HBo21 := hide (HBo20.out.stay hk0 fun k e => (by have h1 := HBS.out; have h2 := HGr.out.1; have h3 := hge k e; omega))
              have HB21 := hide (HB20.out.trans (hk0.below HB20.out.size fun k e => (by have h1 := HBS.out; have h2 := HGr.out.1; have h3 := HWB.out; have h4 := hge k e; omega)))
              have HGe : Hid (w12.heap.size ≤ w21.heap.size) := Nat.le_trans (Nat.le_trans (Nat.le_trans HS12.out HG16.out) HS20.out) hk0.size
              have HGA := hide hge
              clear hie hlt HD ho0 hk0 hge HVB20 HR20 HW20 HBo20 HB20 hi
              go_wp2_with fail
              clear hlt'
              go_loopw [17, 18] (fun vm iv wr => ∃ i : Nat, iv = .int .i64 (i : Nat) ∧ i ≤ 20 ∧ Hid (∃ xs, wr.ownsRow w12.heap.size 22 1 vm (LL.length + i) xs ∧ (∀ k, vm.ownBlock = some k → (Value.slice aA LL.length cA).ownBlock = some k ∨ w21.heap.size ≤ k) ∧ Keep (fun k => (Value.slice aA LL.length cA).ownBlock = some k ∨ w21.heap.size ≤ k) w21 wr)) (fun _ iv _ => 20 - (intOf iv).toNat)
              case atStart => exact ⟨0, rfl, by omega, xs0, HO21.out, fun k e => .inl e, Keep.refl _ _⟩
              case round =>
                clear HO21
                obtain ⟨j, rfl, hj, HD⟩ := hrel
                by_cases hlt : j < 20
                · have hlt' : (j : Int) < 20 := by omega
                  obtain ⟨xs, ho, hv, hk⟩ := HD.out
                  have hb2 : Below wr.heap.size wr ((wr.alloc (.cells #[.int .u8 1] 5)).alloc (.cells #[.slice (some ⟨wr.heap.size, 0, none⟩) 1 1] 22)) := ((Below.refl _ _).alloc (Nat.le_refl _) _).alloc (by simp) _
                  have HO2 := hide ((ho.alloc (.cells #[.int .u8 1] 5)).alloc (.cells #[.slice (some ⟨wr.heap.size, 0, none⟩) 1 1] 22))
                  have hc2 := Ow.cell_one (wr.alloc (.cells #[.int .u8 1] 5)) (.slice (some ⟨wr.heap.size, 0, none⟩) 1 1) 22
                  rw [show (wr.alloc (.cells #[.int .u8 1] 5)).heap.size = wr.heap.size + 1 by simp] at hc2
                  have HC2 := hide hc2
                  have HV := hide hv
                  have HK2 : Hid (Keep (fun k => (Value.slice aA LL.length cA).ownBlock = some k ∨ w21.heap.size ≤ k) w21 ((wr.alloc (.cells #[.int .u8 1] 5)).alloc (.cells #[.slice (some ⟨wr.heap.size, 0, none⟩) 1 1] 22))) := hk.more (Keep.ofBelow hb2 (Nat.le_refl _))
                  have HL2 : Hid (LL.length + j + 1 ≤ 200000000) := by have := HLB.out.2.2; show _ ≤ _; omega
                  have HS2 : Hid (w12.heap.size ≤ ((wr.alloc (.cells #[.int .u8 1] 5)).alloc (.cells #[.slice (some ⟨wr.heap.size, 0, none⟩) 1 1] 22)).heap.size) := Nat.le_trans HGe.out HK2.out.size
                  clear ho hv hk HD hb2 hc2
                  go_wp2_with (at_builtin; refine Ow.wp_appendL rfl _ _ rfl w12.heap.size u17 (LL.length + j) xs rfl HO2.out _ (some ⟨wr.heap.size, 0, none⟩) 1 1 rfl HC2.out HL2.out HS2.out ?_; intro v5 w5' ho hk hnb; have HO5 := hide ho; have HK5 := hide hk; have HN5 := hide hnb; clear ho hk hnb)
                  go_roundw
                  case rel =>
                    refine ⟨j + 1, by go_num, by omega, _, HO5.out, fun k e => ?_, HK2.out.trans HK5.out fun k e => .inl (HV.out k e)⟩
                    rcases HN5.out with h | h
                    · rw [h] at e; exact HV.out k e
                    · exact .inr (Nat.le_trans HK2.out.size (h k e))
                  case measure => simp [intOf]; omega
                · obtain ⟨xs, ho, hv, hk⟩ := HD.out
                  have hje : j = 20 := by omega
                  have hlt' : ¬ (j : Int) < 20 := by omega
                  rw [hje] at ho
                  obtain ⟨w22, hw22⟩ : ∃ x, x = wr := ⟨_, rfl⟩
                  subst hw22
                  obtain ⟨aM, cM, hM⟩ := ownsRow_shape ho
                  subst hM
                  have hge : ∀ k, ((Value.slice aA LL.length cA).ownBlock = some k ∨ w21.heap.size ≤ k) → w12.heap.size ≤ k := fun k e => e.elim (HGA.out k) fun h => Nat.le_trans HGe.out h
                  have HVB22 := hide (ownsRow_keepQ HVB21.out hk fun k e1 e2 => e2.elim (HBA20.out k e1) fun h => (by have := (HVB21.out.lt k e1).2; omega))
                  have HR22 := hide (slice_far HR21.out hk fun k e => (by have h1 := HBS.out; have h2 := hge k e; omega))
                  have HW22 := hide (HW21.out.far hk hge)
                  have HBo22 := hide (HBo21.out.stay hk fun k e => (by have h1 := HBS.out; have h2 := HGr.out.1; have h3 := hge k e; omega))
                  have HB22 := hide (HB21.out.trans (hk.below HB21.out.size fun k e => (by have h1 := HBS.out; have h2 := HGr.out.1; have h3 := HWB.out; have h4 := hge k e; omega)))
                  clear ho hv hk hge HVB21 HR21 HW21 HBo21 HB21 HD hje hlt hj
                  obtain ⟨aX, cX, hvw2, hrW2⟩ := HW22.out.rd HLB.out.2.2
                  injection hvw2 with eaX _ ecX
                  subst eaX ecX
                  have HrW2 := hide hrW2
                  clear hrW2
                  go_wp2_with fail
                  clear hlt'
                  go_loopw [19] (fun iv wr => ∃ i j : Nat, iv = .int .i64 (i : Nat) ∧ i ≤ LL.length ∧ wr = w22.drewN j) (fun iv _ => LL.length - (intOf iv).toNat)
                  case atStart => exact ⟨0, 0, rfl, Nat.zero_le _, rfl⟩
                  case round =>
                    obtain ⟨k, j2, rfl, hk, hwm⟩ := hrel
                    by_cases hlt : k < LL.length
                    · have hlt' : (k : Int) < (LL.length : Int) := by omega
                      obtain ⟨x, hx⟩ : ∃ x, LL[k]? = some x := ⟨_, List.getElem?_eq_getElem hlt⟩
                      obtain ⟨gb, cb, e⟩ := Ow.own_form HVB22.out (by omega)
                      injection e with eB _ eC
                      subst eB
                      obtain ⟨a1, c1, hv1⟩ := HLs.out k x hx
                      have e1 : w22.cell? ⟨gb, k, none⟩ = some (.slice a1 x.length c1) := by rw [HVB22.out.cellAt k (by omega)]; exact hv1
                      obtain ⟨b2, o2, a2, c2, rfl, e2⟩ : ∃ b2 o2 a2 c2, aW = some ⟨b2, o2, none⟩ ∧ w22.cell? ⟨b2, o2 + k, none⟩ = some (.slice a2 x.length c2) := by
                        rcases HrW2.out.2.2 with h0 | ⟨b2, o2, rfl, hr⟩
                        · omega
                        · obtain ⟨a2, c2, h1, h2⟩ := hr k x hx; exact ⟨b2, o2, a2, c2, rfl, h1⟩
                      have f1 : wr.cell? ⟨gb, k, none⟩ = some (.slice a1 x.length c1) := by rw [hwm]; exact e1
                      have f2 : wr.cell? ⟨b2, o2 + k, none⟩ = some (.slice a2 x.length c2) := by rw [hwm]; exact e2
                      have HWM := hide hwm
                      clear hx hv1 e1 e2 hwm eC
                      generalize x.length = xl at *
                      go_upto_region 38 with fail
                      go_quiet (fail)
                      go_wp2_with fail
                      go_roundw
                      case rel => exact ⟨k + 1, j2 + nq, by go_num, by omega, by rw [HWM.out, drewN_addB]⟩
                      case measure => simp [intOf]; omega
                    · have hlt' : ¬ (k : Int) < (LL.length : Int) := by omega
                      have hbj : Below w22.heap.size w22 wr := by rw [hwm]; exact drewN_belowB _ _
                      have HR23 := hide (HR22.out.below hbj)
                      have HrW3 := hide (HrW2.out.keep hbj)
                      have HBo23 := hide (HBo22.out.stay (Keep.ofBelow (S := fun _ => False) hbj (Nat.le_refl _)) fun _ h => h.elim)
                      have HB23 := hide (HB22.out.trans (hbj.mono HB22.out.size))
                      obtain ⟨w23, hw23⟩ : ∃ x, x = wr := ⟨_, rfl⟩
                      subst hw23
                      clear hbj hwm HR22 HrW2 HBo22 HB22 HVB22 HW22 hk hlt
                      go_wp2_with fail
                      refine (End_any r τ _ HR23.out).mono ?_
                      rintro e w24 ⟨rfl, hb24⟩
                      have HrW4 := hide (HrW3.out.keep hb24)
                      have HBo24 := hide (HBo23.out.stay (Keep.ofBelow (S := fun _ => False) hb24 (Nat.le_refl _)) fun _ h => h.elim)
                      have HB24 := hide (HB23.out.trans (hb24.mono HB23.out.size))
                      obtain ⟨rr, hrr⟩ : ∃ rr, endR τ = rr := ⟨_, rfl⟩
                      rw [hrr]
                      have HRE := hide (readB m8 mb fb mst aR nR cR lR τ LL (by rw [HTt.out, HNe.out, Hσe.out]; exact Hτ.out) (by rw [HTt.out, HNe.out, Hσe.out]; exact HLL.out) HLB.out rr hrr w24 (HRd.out.keep HB24.out) HZ.out HBo24.out.c HBo24.out.b HBo24.out.f)
                      clear hb24 hrr HrW3 HBo23 HB23 HR23
                      go_wp2_with (refine wpList_load_row rfl 28 _ rfl lb rfl 28 (bL mb fb) (0, 0) _ HBo24.out.l Try.underlying28 rfl (HIL.out _ _) ?_)
                      go_at_call 20
                      refine (HRE.out).mono ?_
                      rintro e w25 ⟨vC, rfl, hv0, hv1, hb25⟩
                      have HrW5 := hide (HrW4.out.keep hb25)
                      have HB25 := hide (HB24.out.trans (hb25.mono HB24.out.size))
                      have heq : (((rr : Nat) : Int) == ((rr : Nat) : Int)) = true := by simp
                      by_cases hz : rr = 0
                      · obtain ⟨aC, cC, e, hrC⟩ := hv0 hz
                        subst e
                        have hzb : (((rr : Nat) : Int) != 0) = false := by rw [hz]; rfl
                        have hzc : (((rr : Nat) : Int) == 0) = true := by rw [hz]; rfl
                        have HBl := hide (blobs_same aC aW LL.length cC cW LL w25 hrC HrW5.out)
                        clear hz hv0 hv1 hb25 hrC HRE
                        go_wp2_with (go_at_call 15; refine (HBl.out).mono ?_; rintro e w26 ⟨rfl, hm26⟩)
                        go_ret
                        exact ⟨rfl, by obtain ⟨q, rfl⟩ := hm26; exact HB25.out.trans ((drewN_belowB _ _).mono HB25.out.size)⟩
                      · obtain rfl := hv1 hz
                        have hzb : (((rr : Nat) : Int) != 0) = true := by simpa using hz
                        have hzc : (((rr : Nat) : Int) == 0) = false := by simpa using hz
                        have HBl := hide (blobs_same none none 0 0 0 [] w25 ⟨rfl, by omega, .inl rfl⟩ ⟨rfl, by omega, .inl rfl⟩)
                        clear hz hv0 hv1 hb25 HRE
                        go_wp2_with (go_at_call 15; refine (HBl.out).mono ?_; rintro e w26 ⟨rfl, hm26⟩)
                        go_ret
                        exact ⟨rfl, by obtain ⟨q, rfl⟩ := hm26; exact HB25.out.trans ((drewN_belowB _ _).mono HB25.out.size)⟩
end Wm
end Go.Proofs.Yteaokgolnhdloaa
