/- Chapter 8's laws: whole: what All tells, in a row. -/
import Derived.Test.YtobmnkoohgkiiaaQAl1
import Derived.Maps.AppendAt
import Derived.Shelf.Abstract
namespace Go.Proofs.Ytobmnkoohgkiiaa
namespace Qu
open Go.RowKit Go.Shelf
attribute [local go_sem] Oper.semAt_some

theorem info_int : (Try.prog.info? 3).map (fun i => (i.zero, i.size, i.bytes)) = some (some (.int .i64 0), 1, 8) := by kernel_rfl
theorem keep_put (w : World) (r : Nat) (o : Obj) : Keep (fun k => k = r) w (w.putObj r o) := ⟨rfl, rfl, rfl, by simp, fun k _ h => World.putObj_heap_other h⟩

theorem ownsRow_far {w w' : World} {base : Nat} {e : TypeId} {size : Nat} {v : Value} {n : Nat} {xs : List Value} (h : w.ownsRow base e size v n xs) {T : Nat → Prop} (hk : Keep T w w') (hT : ∀ k, base ≤ k → ¬ T k) : w'.ownsRow base e size v n xs :=
  ⟨h.1, h.2.imp (fun x => x) fun ⟨g, cap, cur, h1, h2, h3, h4⟩ => ⟨g, cap, cur, h1, h2, hk.blk h3 (hT g h2), h4⟩⟩

/-- a list that grows by pairs, in a box at Bl -/
structure WhoI (w3 : World) (Bl : Nat) (pre : List (Nat × Int)) (v : Value) (W : World) : Prop where
  box : W.heap[Bl]? = some (.cells #[v] 37 (0, 0))
  row : W.ownsRow (w3.heap.size + 2) 3 1 v (pre.length * 2) (flat KI pre)
  keep : Keep (fun k => k = Bl) w3 W
theorem WhoI.new {w3 W W' : World} {Bl : Nat} {pre : List (Nat × Int)} {v : Value} (h : WhoI w3 Bl pre v W) (hk : Keep (fun _ => False) W W') : WhoI w3 Bl pre v W' :=
  ⟨hk.blk h.box fun f => f, ownsRow_far h.row hk (fun _ _ f => f), h.keep.more (hk.mono fun _ f => f.elim)⟩
theorem WhoI.put {w3 W : World} {Bl : Nat} {pre : List (Nat × Int)} {v : Value} (h : WhoI w3 Bl pre v W) (hB : Bl < w3.heap.size) (o : Obj) : WhoI w3 Bl pre v (W.putObj (w3.heap.size + 1) o) := by
  have hk := keep_put W (w3.heap.size + 1) o
  exact ⟨hk.blk h.box (by show ¬ (Bl = w3.heap.size + 1); omega), ownsRow_far h.row hk (fun k e1 e2 => by omega), h.keep.trans hk fun k e => .inr (by omega)⟩

/-- what whole answers -/
def Whole (w : World) (r : List (Nat × Int)) (e : Ending) (w' : World) : Prop := ∃ a c, e = .returned (.slice a (r.length * 2) c) ∧ w'.ownsRow w.heap.size 3 1 (.slice a (r.length * 2) c) (r.length * 2) (flat KI r) ∧ Keep (fun _ => False) w w'

set_option maxRecDepth 100000 in
set_option maxHeartbeats 4000000 in
theorem whole_any {S : Nat → Prop} {P : Nat} {s : St Int} (w : World) (h : QAt KI S w P s) :
    Calls Try.prog 16 #[.pointer (some ⟨P, 0, none⟩)] w (Whole w s.row) := by
  obtain ⟨hok, hks, m, v0, h⟩ := h
  have hlen := Nat.le_trans hok.len hok.pl
  have AL := hide (allI (w.alloc (.cells #[.slice none 0 0] 37)) (h.stay (Keep.alloc (fun _ => False) w _) (fun _ _ _ f => f)) hlen)
  clear h hok hks
  generalize s.row = r at *
  refine (callsIn_wide (n := 3)).1 (callsIn_of_wp_marks Try.func16 rfl trivial ?_ rfl)
  simp only [Try.ntmps16, List.size_toArray, List.length_cons, List.length_nil, Nat.reduceAdd, Nat.reduceSub, Array.replicate_succ, Array.replicate_zero, List.push_toArray, List.append_toArray, List.nil_append, List.cons_append]
  refine wpIn_wide.2 ?_
  go_wp2_with fail
  go_at_call 17
  refine AL.out.mono ?_
  rintro e w3 ⟨Bv, a, c, rfl, hBv, hb, hrow, hk3⟩
  rw [World.size_alloc] at hBv
  obtain ⟨Bl, hBl⟩ : ∃ Bl, Bl = w.heap.size := ⟨_, rfl⟩
  rw [← hBl]
  have g0 : w3.heap[Bl]? = some (.cells #[.slice none 0 0] 37 (0, 0)) := by rw [hBl]; exact hk3.blk (heap_alloc_new _ _) fun f => f
  have hBl3 : Bl < w3.heap.size := lt_blk g0
  have K3 := hide ((Keep.alloc (fun _ => False) w _).more hk3)
  have HB := hide hb
  have G0 := hide g0
  have HR := hide hrow
  have hne : Bv ≠ Bl := by omega
  have hroff : ∀ k, (w.alloc (.cells #[.slice none 0 0] 37)).heap.size ≤ k → k ≠ Bl := fun k e => by rw [World.size_alloc] at e; omega
  have HRo := hide hroff
  have HBv := hide hBv
  have HBl := hide hBl
  clear hb g0 hrow hk3 AL hroff hBv hBl
  go_wp2_with fail
  refine wpIn_wide.1 (wp_range1 (n := 3) (gf := 42) (lb := #[.pointer (some ⟨Bv, 0, none⟩)]) rfl (enters_of Try.func42 (by kernel_rfl) rfl) (encs := fun x : Nat × Int => #[.int .i64 (x.1 : Nat), .int .i64 x.2]) (fun _ => rfl)
    (fun pre W => ∃ v, WhoI w3 Bl pre v W) (fun pre x W => (∃ post, r = pre ++ x :: post) ∧ ∃ v, WhoI w3 Bl pre v W)
    (fun pre x a' W => ∃ v, (∃ post, r = pre ++ x :: post) ∧ a' = { tmps := #[.pointer (some ⟨P, 0, none⟩), undef, .slice none 0 0, .pointer (some ⟨Bl, 0, none⟩), .int .i64 (x.1 : Nat), .int .i64 x.2, .pointer (some ⟨P, 0, none⟩), .func (.func 42) #[] #[.pointer (some ⟨Bv, 0, none⟩)], .int .i64 (x.1 : Nat), .int .i64 x.2, undef, undef, undef, undef, undef, undef], defers := [] } ∧ WhoI w3 Bl pre v W)
    (fun xs W' => xs = r ∧ ∃ v, WhoI w3 Bl xs v W') ?h0 ?hY ?hI ?assign ?body ?iter ?done)
  case h0 => exact fun q => ⟨.slice none 0 0, WhoI.new ⟨G0.out, World.ownsRow_nil _ _ _ _, Keep.refl _ _⟩ ((Keep.alloc _ _ _).more (Keep.alloc _ _ _))⟩
  case hY =>
    rintro pre x a' W q ⟨v, e1, e2, e3⟩
    exact ⟨v, e1, e2, e3.put hBl3 _⟩
  case hI =>
    rintro pre W q ⟨v, h⟩
    exact ⟨v, h.put hBl3 _⟩
  case iter =>
    intro L hLs hLz hR W hW hL
    exact all1I (r := r) (a := a) (c := c) 3 (w3.heap.size + 1) Bv w3.heap.size (fun pre W => ∃ v, WhoI w3 Bl pre v W) L hLs hLz (fun pre W ⟨v, h⟩ => ⟨cell_blk (h.keep.blk HB.out hne) 0 rfl, (HR.out.mono fun _ _ => trivial).far h.keep fun k e1 e2 => HRo.out k (HR.out.own e1).1 e2⟩) (fun pre W W' ⟨v, h⟩ hk => ⟨v, h.new hk⟩) (fun pre x W1 hp hv hl => hR pre x W1 ⟨hp, hv⟩ hl) hlen W hW hL
  case assign =>
    rintro lr pre x W K ⟨hp, v, hA⟩ hlt hK
    gi_wp2
    exact hK _ _ (Same2.refl _ _) ⟨v, hp, rfl, hA⟩
  case body =>
    rintro lr pre x a' W ⟨v, hp, rfl, hA⟩ hlt
    obtain ⟨i0, hi, hz0, hz1, hz2⟩ := info_parts info_int
    have c6 := cell_blk hA.box 0 (v := v) rfl
    have HI := hide (And.intro hi (And.intro hz0 (And.intro hz1 hz2)))
    have H4 := hide hA
    have hpl : pre.length + 1 ≤ 65536 := by obtain ⟨post, hp⟩ := hp; have := congrArg List.length hp; simp at this; omega
    clear hA hi hz0 hz1 hz2
    gi_wp2_with (gi_at_builtin
                 refine wpListIn_append_own _ rfl _ _ 37 rfl (w3.heap.size + 2) 3 i0 (.int .i64 0) 1 8 Try.underlying37 HI.out.1 HI.out.2.1 HI.out.2.2.1 HI.out.2.2.2 rfl (by decide) v (pre.length * 2) (flat KI pre) rfl (H4.out.row.alloc _) ⟨W.heap.size, 0, none⟩ 2 2 [.int .i64 (x.1 : Nat), .int .i64 x.2] rfl rfl (fun j u hu => two_new W _ _ _ j u hu) (by simp [Value.oneCell']) (by unfold maxLen; omega) (by omega) (by simp; omega) ?_
                 intro v' w5 hown' hgrow _
                 have k5 : Keep (fun k => w3.heap.size + 2 ≤ k) W w5 := (Keep.alloc _ _ _).more (Keep.grown hgrow fun k e => (H4.out.row.lt k e).1)
                 have hb5 := k5.blk H4.out.box (by show ¬ (w3.heap.size + 2 ≤ Bl); omega)
                 obtain ⟨a', c', rfl⟩ := ownsRow_shape hown'
                 have d6 := cell_blk hb5 0 (v := v) rfl
                 have d7 := frozen_blk hb5 0
                 have HO := hide hown'
                 have K5 := hide k5
                 have HB5 := hide hb5
                 clear hown' hgrow k5 hb5)
    have kb := keep_cell w5 Bl 0 (.slice a' (pre.length * 2 + 2) c')
    refine ⟨?_, _, ⟨set_blk HB5.out 0 _, ?_, (H4.out.keep.trans K5.out fun k e => .inr (by omega)).more kb⟩⟩
    · exact ((K5.out.mono (T := fun k => w3.heap.size + 2 ≤ k ∨ k = Bl) fun _ e => .inl e).more (kb.mono fun _ e => .inr e)).same2 hlt (by show ¬ (w3.heap.size + 2 ≤ w3.heap.size ∨ w3.heap.size = Bl); omega) (by show ¬ (w3.heap.size + 2 ≤ w3.heap.size + 1 ∨ w3.heap.size + 1 = Bl); omega)
    · have ho := ownsRow_far HO.out kb (fun k e1 e2 => by omega)
      rw [flat_append, List.length_append, Nat.add_mul]
      exact ho
  case done =>
    rintro xs W q ⟨rfl, v, hW⟩ hlt hK
    have hk := keep_put W (w3.heap.size + 1) (.loop q)
    have hK' : (W.putObj (w3.heap.size + 1) (.loop q)).heap[w3.heap.size]? = some (.deferred (some [])) := (World.putObj_heap_other (by omega)).trans hK
    have hW' := hW.put hBl3 (.loop q)
    obtain ⟨a', c', rfl⟩ := ownsRow_shape hW'.row
    have c6 := cell_blk hW'.box 0 (v := .slice a' (xs.length * 2) c') rfl
    have HW := hide hW'
    have HK' := hide hK'
    clear hK' hW hW' hk hK
    obtain ⟨W8, hW8⟩ : ∃ W8, W8 = W.putObj (w3.heap.size + 1) (.loop q) := ⟨_, rfl⟩
    rw [← hW8] at c6 HW HK' ⊢
    clear hW8
    go_wp2_with fail
    have hk2 := keep_put W8 w3.heap.size (.deferred none)
    refine ⟨by simp, .inl ⟨_, _, rfl, run_takeDeferred HK'.out, ?_⟩⟩
    refine ⟨_, results_tmp rfl _ _ _, a', c', rfl, ?_, ?_⟩
    · have h1 := ownsRow_far HW.out.row hk2 (fun k e1 e2 => by omega)
      exact ownsRow_base h1 (by have := K3.out.size; omega)
    · refine (K3.out.trans (T := fun k => k = Bl) HW.out.keep fun k e => .inr (by rw [e, HBl.out]; exact Nat.le_refl _)).trans hk2 fun k e => .inr (by rw [e]; exact K3.out.size)

end Qu
end Go.Proofs.Ytobmnkoohgkiiaa
