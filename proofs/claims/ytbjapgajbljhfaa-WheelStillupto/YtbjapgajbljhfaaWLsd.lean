/- Chapter 7's laws: listed: what All tells, as a list. -/
import Derived.Test.YtbjapgajbljhfaaWLis
namespace Go.Proofs.Ytbjapgajbljhfaa
namespace Wh
open Go.RowKit Go.Shelf
attribute [local go_sem] Oper.semAt_some

theorem ownsRow_far {w w' : World} {base : Nat} {e : TypeId} {size : Nat} {v : Value} {n : Nat} {xs : List Value} (h : w.ownsRow base e size v n xs) {T : Nat → Prop} (hk : Keep T w w') (hT : ∀ k, base ≤ k → ¬ T k) : w'.ownsRow base e size v n xs :=
  ⟨h.1, h.2.imp (fun x => x) fun ⟨g, cap, cur, h1, h2, h3, h4⟩ => ⟨g, cap, cur, h1, h2, hk.blk h3 (hT g h2), h4⟩⟩

/-- a list that grows by timers, in a box at Bl -/
structure LisI (w3 : World) (Bl : Nat) (s : St) (pre : List Nat) (v : Value) (W : World) : Prop where
  box : W.heap[Bl]? = some (.cells #[v] 27 (0, 0))
  row : W.ownsRow (w3.heap.size + 2) 32 3 v pre.length (cells3 s pre)
  keep : Keep (fun k => k = Bl) w3 W
theorem LisI.new {w3 W W' : World} {Bl : Nat} {s : St} {pre : List Nat} {v : Value} (h : LisI w3 Bl s pre v W) (hk : Keep (fun _ => False) W W') : LisI w3 Bl s pre v W' :=
  ⟨hk.blk h.box fun f => f, ownsRow_far h.row hk (fun _ _ f => f), h.keep.more (hk.mono fun _ f => f.elim)⟩
theorem LisI.put {w3 W : World} {Bl : Nat} {s : St} {pre : List Nat} {v : Value} (h : LisI w3 Bl s pre v W) (hB : Bl < w3.heap.size) (o : Obj) : LisI w3 Bl s pre v (W.putObj (w3.heap.size + 1) o) := by
  have hk := keep_put W (w3.heap.size + 1) o
  exact ⟨hk.blk h.box (by show ¬ (Bl = w3.heap.size + 1); omega), ownsRow_far h.row hk (fun k e1 e2 => by omega), h.keep.trans hk fun k e => .inr (by omega)⟩

/-- what listed answers -/
def Listd (w : World) (s : St) (xs : List Nat) (e : Ending) (w' : World) : Prop := ∃ a c, e = .returned (.tuple #[.slice a xs.length c, .bool true]) ∧ w'.ownsRow w.heap.size 32 3 (.slice a xs.length c) xs.length (cells3 s xs) ∧ Keep (fun _ => False) w w'

set_option maxRecDepth 100000 in
set_option maxHeartbeats 4000000 in
theorem listed_any {s : St} {xs : List Nat} {Bv base : Nat} {v : Value} (w : World) (hb : w.heap[Bv]? = some (.cells #[v] 27 (0, 0))) (hrow : w.ownsRow base 32 3 v xs.length (cells3 s xs)) (hwt : ∀ x ∈ xs, ∃ y, s.what x = .int .i64 y) (hlen : xs.length ≤ 1048580) :
    Calls Try.prog 12 #[.func (.func 34) #[] #[.pointer (some ⟨Bv, 0, none⟩)]] w (Listd w s xs) := by
  obtain ⟨a, c, rfl⟩ := ownsRow_shape hrow
  have hBv := (Array.getElem?_eq_some_iff.1 hb).1
  have hq := fun w => func_nil w 39 _ _ _ Try.underlying39 (.func 34) #[] #[.pointer (some ⟨Bv, 0, none⟩)]
  obtain ⟨w3, hw3⟩ : ∃ w3, w3 = w.alloc (.cells #[.slice none 0 0] 27) := ⟨_, rfl⟩
  have k3 : Keep (fun _ => False) w w3 := by rw [hw3]; exact Keep.alloc _ _ _
  have hsz3 : w3.heap.size = w.heap.size + 1 := by rw [hw3]; exact World.size_alloc _ _
  obtain ⟨Bl, hBl⟩ : ∃ Bl, Bl = w.heap.size := ⟨_, rfl⟩
  have G0 : Hid (w3.heap[Bl]? = some (.cells #[.slice none 0 0] 27 (0, 0))) := by rw [hw3, hBl]; exact heap_alloc_new _ _
  have hBl3 : Bl < w3.heap.size := by omega
  have HB := hide (k3.blk hb fun f => f)
  have HRd : Hid (∀ W, Keep (fun k => k = Bl) w3 W → RdT s a xs W) := fun W hk => by
    refine rdT_own (base := base) (c := c) ?_ hwt
    refine ⟨hrow.1, hrow.2.imp (fun x => x) fun ⟨g, cap, cur, h1, h2, h3, h4⟩ => ⟨g, cap, cur, h1, h2, hk.blk (k3.blk h3 fun f => f) (fun e => ?_), h4⟩⟩
    have := (Array.getElem?_eq_some_iff.1 h3).1
    omega
  have K3 := hide k3
  have hne : Bv ≠ Bl := by omega
  have HWt := hide hwt
  have HW3 := hide hw3
  have HBl := hide hBl
  have HSz3 := hide hsz3
  clear hb hrow hwt k3 hsz3
  refine (callsIn_wide (n := 3)).1 (callsIn_of_wp_marks Try.func12 rfl trivial ?_ rfl)
  simp only [Try.ntmps12, List.size_toArray, List.length_cons, List.length_nil, Nat.reduceAdd, Nat.reduceSub, Array.replicate_succ, Array.replicate_zero, List.push_toArray, List.append_toArray, List.nil_append, List.cons_append]
  refine wpIn_wide.2 ?_
  clear hw3 hBl
  go_wp2_with fail
  rw [← HW3.out, ← HBl.out]
  refine wpIn_wide.1 (wp_range1 (n := 3) (gf := 34) (lb := #[.pointer (some ⟨Bv, 0, none⟩)]) rfl (enters_of Try.func34 (by kernel_rfl) rfl) (encs := fun x : Nat => #[.agg #[.int .i64 (x : Nat), .int .i64 (s.due x : Nat), s.what x]]) (fun _ => rfl)
    (fun pre W => ∃ v, LisI w3 Bl s pre v W) (fun pre x W => (∃ post, xs = pre ++ x :: post) ∧ ∃ v, LisI w3 Bl s pre v W)
    (fun pre x a' W => ∃ Bx y v, (∃ post, xs = pre ++ x :: post) ∧ s.what x = .int .i64 y ∧ a' = { tmps := #[.func (.func 34) #[] #[.pointer (some ⟨Bv, 0, none⟩)], undef, .slice none 0 0, .bool false, .pointer (some ⟨Bl, 0, none⟩), .pointer (some ⟨Bx, 0, none⟩), .func (.func 34) #[] #[.pointer (some ⟨Bv, 0, none⟩)], .bool false, .func (.func 34) #[] #[.pointer (some ⟨Bv, 0, none⟩)], .agg #[.int .i64 (x : Nat), .int .i64 (s.due x : Nat), .int .i64 y], undef, undef, undef, undef, undef], defers := [] } ∧ w3.heap.size + 1 < Bx ∧ W.heap[Bx]? = some (.cells #[.int .i64 (x : Nat), .int .i64 (s.due x : Nat), .int .i64 y] 32 (0, 0)) ∧ LisI w3 Bl s pre v W)
    (fun ys W' => ys = xs ∧ ∃ v, LisI w3 Bl s ys v W') ?h0 ?hY ?hI ?assign ?body ?iter ?done)
  case h0 => exact fun q => ⟨.slice none 0 0, LisI.new ⟨G0.out, World.ownsRow_nil _ _ _ _, Keep.refl _ _⟩ ((Keep.alloc _ _ _).more (Keep.alloc _ _ _))⟩
  case hY =>
    rintro pre x a' W q ⟨Bx, y, v, e1, e2, e3, e4, e5, e6⟩
    exact ⟨Bx, y, v, e1, e2, e3, e4, (keep_put _ _ _).blk e5 (by show ¬ (Bx = w3.heap.size + 1); omega), e6.put hBl3 _⟩
  case hI =>
    rintro pre W q ⟨v, h⟩
    exact ⟨v, h.put hBl3 _⟩
  case iter =>
    intro L hLs hLz hR W hW hL
    exact all2_any (s := s) (xs := xs) (a := a) (c := c) 3 (w3.heap.size + 1) Bv w3.heap.size (fun pre W => ∃ v, LisI w3 Bl s pre v W) L hLs hLz (fun pre W ⟨v, h⟩ => ⟨cell_blk (h.keep.blk HB.out hne) 0 rfl, HRd.out W h.keep⟩) (fun pre W W' ⟨v, h⟩ hk => ⟨v, h.new hk⟩) (fun pre x W1 hp hv hl => hR pre x W1 ⟨hp, hv⟩ hl) hlen W hW hL
  case assign =>
    rintro lr pre x W K ⟨⟨post, hp⟩, v, hA⟩ hlt hK
    obtain ⟨y, hy⟩ := HWt.out x (by rw [hp]; simp)
    rw [hy]
    gi_wp2
    exact hK _ _ ((Keep.alloc (fun _ => False) W _).same2 hlt (fun f => f) (fun f => f)) ⟨W.heap.size, y, v, ⟨post, hp⟩, hy, rfl, by omega, heap_alloc_new _ _, hA.new (Keep.alloc _ _ _)⟩
  case body =>
    rintro lr pre x a' W ⟨Bx, y, v, hp, hy, rfl, hBx, hbx, hA⟩ hlt
    obtain ⟨i0, hi, hz0, hz1, hz2⟩ := info_parts info_timer
    have x0 := cell_blk hbx 0 (v := .int .i64 (x : Nat)) rfl
    have x1 := cell_blk hbx 1 (v := .int .i64 (s.due x : Nat)) rfl
    have x2 := cell_blk hbx 2 (v := .int .i64 y) rfl
    have c6 := cell_blk hA.box 0 (v := v) rfl
    have HI := hide (And.intro hi (And.intro hz0 (And.intro hz1 hz2)))
    have H4 := hide hA
    have hpl : pre.length + 1 ≤ 1048580 := by obtain ⟨post, hp⟩ := hp; have := congrArg List.length hp; simp at this; omega
    have HY := hide hy
    clear hA hi hz0 hz1 hz2 hbx hy
    gi_wp2_with (gi_at_builtin
                 refine wpListIn_append_own _ rfl _ _ 27 rfl (w3.heap.size + 2) 32 i0 (.agg #[.int .i64 0, .int .i64 0, .int .i64 0]) 3 24 Try.underlying27 HI.out.1 HI.out.2.1 HI.out.2.2.1 HI.out.2.2.2 rfl (by decide) v pre.length (cells3 s pre) rfl (H4.out.row.alloc _) ⟨W.heap.size, 0, none⟩ 1 1 [.int .i64 (x : Nat), .int .i64 (s.due x : Nat), .int .i64 y] rfl rfl (cells_new3 W _ _ _ _) (by simp [Value.oneCell']) (by unfold maxLen; omega) (by omega) (by simp; omega) ?_
                 intro v' w5 hown' hgrow _
                 have k5 : Keep (fun k => w3.heap.size + 2 ≤ k) W w5 := (Keep.alloc _ _ _).more (Keep.grown hgrow fun k e => (H4.out.row.lt k e).1)
                 have hb5 := k5.blk H4.out.box (by show ¬ (w3.heap.size + 2 ≤ Bl); omega)
                 obtain ⟨a', c', rfl⟩ := ownsRow_shape hown'
                 have d6 := cell_blk hb5 0 (v := v) rfl
                 have d7 := frozen_blk hb5 0
                 have HO := hide hown'
                 have K5 := hide k5
                 have HB5 := hide hb5
                 clear hown' hgrow k5 hb5)
    have kb := keep_cell w5 Bl 0 (.slice a' (pre.length + 1) c')
    refine ⟨?_, _, ⟨set_blk HB5.out 0 _, ?_, (H4.out.keep.trans K5.out fun k e => .inr (by omega)).more kb⟩⟩
    · exact ((K5.out.mono (T := fun k => w3.heap.size + 2 ≤ k ∨ k = Bl) fun _ e => .inl e).more (kb.mono fun _ e => .inr e)).same2 hlt (by show ¬ (w3.heap.size + 2 ≤ w3.heap.size ∨ w3.heap.size = Bl); omega) (by show ¬ (w3.heap.size + 2 ≤ w3.heap.size + 1 ∨ w3.heap.size + 1 = Bl); omega)
    · have ho := ownsRow_far HO.out kb (fun k e1 e2 => by omega)
      rw [cells3_snoc, List.length_append, HY.out]
      exact ho
  case done =>
    rintro ys W q ⟨rfl, v, hW⟩ hlt hK
    have hK' : (W.putObj (w3.heap.size + 1) (.loop q)).heap[w3.heap.size]? = some (.deferred (some [])) := (World.putObj_heap_other (by omega)).trans hK
    have hW' := hW.put hBl3 (.loop q)
    obtain ⟨a', c', rfl⟩ := ownsRow_shape hW'.row
    have c6 := cell_blk hW'.box 0 (v := .slice a' ys.length c') rfl
    have HW := hide hW'
    have HK' := hide hK'
    clear hK' hW hW' hK
    obtain ⟨W8, hW8⟩ : ∃ W8, W8 = W.putObj (w3.heap.size + 1) (.loop q) := ⟨_, rfl⟩
    rw [← hW8] at c6 HW HK' ⊢
    clear hW8
    go_wp2_with fail
    have hk2 := keep_put W8 w3.heap.size (.deferred none)
    refine ⟨by simp, .inl ⟨_, _, rfl, run_takeDeferred HK'.out, ?_⟩⟩
    refine ⟨_, results_tmp2 rfl _ _ _, a', c', rfl, ?_, ?_⟩
    · have h1 := ownsRow_far HW.out.row hk2 (fun k e1 e2 => by omega)
      exact ownsRow_base h1 (by have := K3.out.size; omega)
    · refine (K3.out.trans (T := fun k => k = Bl) HW.out.keep fun k e => .inr (by rw [e, HBl.out]; exact Nat.le_refl _)).trans hk2 fun k e => .inr (by rw [e]; exact K3.out.size)

end Wh
end Go.Proofs.Ytbjapgajbljhfaa
