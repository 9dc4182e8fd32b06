/- Package cron: addWord. -/
import Derived.Test.YtbgioclbjbmicaaDoorXAddI
namespace Go.Proofs.YtbgioclbjbmicaaDoor
open Go.RowKit

/-- What addWord leaves. -/
def WordEnd (g : Nat) (r : Option X.Sets) (w : World) (e : Ending) (w' : World) : Prop := e = .returned (.bool r.isSome) ∧ (∃ T, ExprW w' g T ∧ (∀ U, r = some U → U = T)) ∧ KeepX g w w'
set_option maxHeartbeats 2000000 in
theorem addWord_any (s : ByteArray) (hs : s.size ≤ 1024) (lo hi : Nat) (hl : lo ≤ hi) (hh : hi ≤ 59) (S : X.Sets) (g o : Nat) (ho : o + 60 ≤ 300) (hg : 0 < g ∧ 1 < g) (w : World) (hE : Env w) (hX : ExprW w g S) :
    Calls Tryd.prog 38 #[.pointer (some ⟨g, o, none⟩), .string s, .agg #[.int .i64 lo, .int .i64 hi]] w fun e w' => WordEnd g (X.addWord o lo hi s.data.toList S) w e w' := by
  generalize hR : X.addWord o lo hi s.data.toList S = R
  go_enter Tryd.func38, Tryd.ntmps38
  go_wp2_with fail
  have hS0 := ItAt.new hE hX lo hi
  generalize (w.alloc (.cells #[.int .i64 lo, .int .i64 hi] 54)) = W0 at *
  go_at_call 54
  refine (split_any s hs 44 _).mono ?_
  rintro e w1 ⟨xs, hxs, hle, hxl, rfl, rfl⟩
  have h1 := heap_alloc_new W0 (.cells (xs.map Value.string).toArray 9)
  have hS1 := hS0.keep (Below.put (Below.refl _ W0) (.cells (xs.map Value.string).toArray 9))
  have hgl := hX.ex.lt
  have hg0 := hS0.bel.size
  have hcell : ∀ j x, xs[j]? = some x → (W0.alloc (.cells (xs.map Value.string).toArray 9)).cell? ⟨W0.heap.size, j, none⟩ = some (.string x) := by
    intro j x hx
    rw [cell_of_row _ _ _ _ _ _ h1]; simp [hx]
  have hw : R = X.addItems o lo hi (xs.map (·.data.toList)) S := by rw [← hR]; unfold X.addWord; rw [hxs]
  have HW := hide hw
  clear hw h1 hxs hS0 hE hX hR
  generalize W0.alloc (.cells (xs.map Value.string).toArray 9) = W1 at *
  generalize W0.heap.size = gi at *
  have HS := hide hS1
  have HC := hide hcell
  clear hS1 hcell
  go_wp2_with fail
  go_loopw [12] (fun x wx => ∃ (j : Nat) (T : X.Sets), x = .int .i64 j ∧ j ≤ xs.length ∧ Hid (X.addItems o lo hi ((xs.drop j).map (·.data.toList)) T = R) ∧ ExprW wx g T ∧ KeepX g W1 wx) (fun x _ => xs.length - (intOf x).toNat)
  case atStart => exact ⟨0, S, rfl, by omega, HW.out.symm, HS.out.ex, KeepX.refl _ _⟩
  case round =>
    obtain ⟨j, T, rfl, hj, HJ, hXj, hKj⟩ := hrel
    have HK := hide ((KeepX.ofBelow (g := g) HS.out.bel).trans hKj)
    by_cases hlt : j < xs.length
    · obtain ⟨x, hx⟩ : ∃ x, xs[j]? = some x := ⟨_, List.getElem?_eq_getElem hlt⟩
      have hxs : xs.drop j = x :: xs.drop (j + 1) := by
        rw [List.drop_eq_getElem_cons hlt]
        congr 1
        rw [List.getElem?_eq_getElem hlt] at hx
        injection hx
      have hxz := hle x (List.mem_of_getElem? hx)
      have hcx := hKj.cell (HC.out j x hx) (show gi ≠ g by omega)
      have c0 := hKj.cell HS.out.b0 (show w.heap.size ≠ g by omega)
      have c1 := hKj.cell HS.out.b1 (show w.heap.size ≠ g by omega)
      have env := HS.out.env.keepX hKj hg.1 hg.2
      have i0 : (j : Int) < xs.length := by omega
      have i1 : (0 : Int) ≤ (j : Int) := by omega
      have hstep : X.addItems o lo hi ((xs.drop j).map (·.data.toList)) T = match X.itemM x.data.toList lo hi with
        | none => none
        | some (a, b, k) => X.addItems o lo hi ((xs.drop (j + 1)).map (·.data.toList)) (X.addV T o a b k) := by
          rw [hxs, List.map_cons, X.addItems]
          cases X.itemM x.data.toList lo hi <;> rfl
      have HSt := hide hstep
      clear hstep hxs
      go_wp2_with fail
      go_at_call 55
      refine (addItem_any x hxz lo hi hl hh T g o ho _ env hXj).mono ?_
      rintro e w2 ⟨rfl, hX2, hK2⟩
      cases hit : X.itemM x.data.toList lo hi with
      | none =>
        rw [hit] at hX2
        have hst := HSt.out
        rw [hit] at hst
        simp only [Option.isSome_none]
        go_wp2_with fail
        go_ret
        refine ⟨by rw [← HJ.out, hst]; rfl, ⟨T, hX2, fun U hU => ?_⟩, HK.out.trans hK2⟩
        rw [← HJ.out, hst] at hU; cases hU
      | some r =>
        obtain ⟨a, b, k⟩ := r
        rw [hit] at hX2
        have hst := HSt.out
        rw [hit] at hst
        simp only [Option.isSome_some]
        go_wp2_with fail
        exact ⟨⟨j + 1, X.addV T o a b k, by go_num, by omega, (by show _ = _; rw [← HJ.out, hst]), hX2, hKj.trans hK2⟩, by simp [intOf]; omega⟩
    · have hst : some T = R := by
        rw [← HJ.out, List.drop_eq_nil_of_le (by omega), List.map_nil, X.addItems]
      go_wp2_with fail
      go_ret
      exact ⟨by rw [← hst]; rfl, ⟨T, hXj, fun U hU => by rw [← hst] at hU; injection hU with hU; exact hU.symm⟩, HK.out⟩
end Go.Proofs.YtbgioclbjbmicaaDoor
