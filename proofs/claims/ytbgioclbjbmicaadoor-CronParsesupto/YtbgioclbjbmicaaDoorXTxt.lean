/- Package cron: Text. -/
import Derived.Test.YtbgioclbjbmicaaDoorXTextM
import Derived.Test.YtbgioclbjbmicaaDoorXText
import Derived.Test.YtbgioclbjbmicaaDoorXLast
import Derived.Test.YtbgioclbjbmicaaDoorXSame
import Derived.Test.YtbgioclbjbmicaaDoorXParse
import Derived.Test.YtbgioclbjbmicaaDoorXSpans
namespace Go.Proofs.YtbgioclbjbmicaaDoor
open Go.RowKit Go.Sort
def wtxt (S : X.Sets) (f j : Nat) : ByteArray := if j < f then ⟨(X.textF S j).toArray⟩ else ⟨#[]⟩
structure WdAt (w0 : World) (S : X.Sets) (f : Nat) (w : World) : Prop where
  c : ∀ j, j < 5 → w.cell? ⟨w0.heap.size, j, none⟩ = some (.string (wtxt S f j))
  fr : ∀ j, w.frozen? ⟨w0.heap.size, j, none⟩ = false
  lt : w0.heap.size < w.heap.size
  bel : Below w0.heap.size w0 w
theorem WdAt.keep {w0 w w' : World} {S : X.Sets} {f : Nat} (h : WdAt w0 S f w) (b : Below w.heap.size w w') : WdAt w0 S f w' :=
  ⟨fun j hj => by rw [b.cell (p := ⟨w0.heap.size, j, none⟩) h.lt]; exact h.c j hj, fun j => by rw [b.frozen (p := ⟨w0.heap.size, j, none⟩) h.lt]; exact h.fr j, Nat.lt_of_lt_of_le h.lt b.size, h.bel.trans (b.mono h.bel.size)⟩
theorem WdAt.new (w : World) (S : X.Sets) : WdAt w S 0 (w.alloc (.cells #[.string ⟨#[]⟩, .string ⟨#[]⟩, .string ⟨#[]⟩, .string ⟨#[]⟩, .string ⟨#[]⟩] 52)) := by
  refine ⟨fun j hj => ?_, fun j => by simp, by simp, Below.put (Below.refl _ _) _⟩
  rw [cell_of_row _ _ _ _ _ _ (heap_alloc_new w _)]
  match j, hj with
  | 0, _ => rfl
  | 1, _ => rfl
  | 2, _ => rfl
  | 3, _ => rfl
  | 4, _ => rfl
theorem WdAt.set {w0 w : World} {S : X.Sets} {f : Nat} (h : WdAt w0 S f w) (hf : f < 5) : WdAt w0 S (f + 1) (w.setCell ⟨w0.heap.size, f, none⟩ (.string ⟨(X.textF S f).toArray⟩)) := by
  refine ⟨fun j hj => ?_, fun j => (World.frozen?_setCell _ _ _ _).trans (h.fr j), by simpa [World.setCell] using h.lt, Below.setCell h.bel (Nat.le_refl _) _⟩
  by_cases e : j = f
  · subst e
    rw [World.cell?_setCell_same _ _ _ (h.c j hj)]
    unfold wtxt; rw [if_pos (by omega)]
  · rw [World.cell?_setCell_other _ _ _ _ (by intro e'; injection e' with _ e''; first | exact e e'' | exact e e''.symm), h.c j hj]
    unfold wtxt
    by_cases e2 : j < f
    · rw [if_pos e2, if_pos (by omega)]
    · rw [if_neg e2, if_neg (by omega)]
set_option maxRecDepth 100000 in
set_option maxHeartbeats 2000000 in
theorem exprText_any (g : Nat) (S : X.Sets) (hG : X.Good S) (w : World) (hE : Env w) (hX : ExprAt w g S) :
    Calls Tryd.prog 10 #[.pointer (some ⟨g, 0, none⟩)] w fun e w' => e = .returned (.string ⟨(X.text S).toArray⟩) ∧ Below w.heap.size w w' := by
  have hE2 := hE.alloc (.cells #[.string ⟨#[]⟩, .string ⟨#[]⟩, .string ⟨#[]⟩, .string ⟨#[]⟩, .string ⟨#[]⟩] 52)
  have c0 : (w.alloc (.cells #[.string ⟨#[]⟩, .string ⟨#[]⟩, .string ⟨#[]⟩, .string ⟨#[]⟩, .string ⟨#[]⟩] 52)).cell? ⟨0, 0, none⟩ = some (.int .i64 0) := hE2.bnd 0 (by decide)
  have c1 : (w.alloc (.cells #[.string ⟨#[]⟩, .string ⟨#[]⟩, .string ⟨#[]⟩, .string ⟨#[]⟩, .string ⟨#[]⟩] 52)).cell? ⟨0, 1, none⟩ = some (.int .i64 59) := hE2.bnd 1 (by decide)
  have c2 : (w.alloc (.cells #[.string ⟨#[]⟩, .string ⟨#[]⟩, .string ⟨#[]⟩, .string ⟨#[]⟩, .string ⟨#[]⟩] 52)).cell? ⟨0, 2, none⟩ = some (.int .i64 0) := hE2.bnd 2 (by decide)
  have c3 : (w.alloc (.cells #[.string ⟨#[]⟩, .string ⟨#[]⟩, .string ⟨#[]⟩, .string ⟨#[]⟩, .string ⟨#[]⟩] 52)).cell? ⟨0, 3, none⟩ = some (.int .i64 23) := hE2.bnd 3 (by decide)
  have c4 : (w.alloc (.cells #[.string ⟨#[]⟩, .string ⟨#[]⟩, .string ⟨#[]⟩, .string ⟨#[]⟩, .string ⟨#[]⟩] 52)).cell? ⟨0, 4, none⟩ = some (.int .i64 1) := hE2.bnd 4 (by decide)
  have c5 : (w.alloc (.cells #[.string ⟨#[]⟩, .string ⟨#[]⟩, .string ⟨#[]⟩, .string ⟨#[]⟩, .string ⟨#[]⟩] 52)).cell? ⟨0, 5, none⟩ = some (.int .i64 31) := hE2.bnd 5 (by decide)
  have c6 : (w.alloc (.cells #[.string ⟨#[]⟩, .string ⟨#[]⟩, .string ⟨#[]⟩, .string ⟨#[]⟩, .string ⟨#[]⟩] 52)).cell? ⟨0, 6, none⟩ = some (.int .i64 1) := hE2.bnd 6 (by decide)
  have c7 : (w.alloc (.cells #[.string ⟨#[]⟩, .string ⟨#[]⟩, .string ⟨#[]⟩, .string ⟨#[]⟩, .string ⟨#[]⟩] 52)).cell? ⟨0, 7, none⟩ = some (.int .i64 12) := hE2.bnd 7 (by decide)
  have c8 : (w.alloc (.cells #[.string ⟨#[]⟩, .string ⟨#[]⟩, .string ⟨#[]⟩, .string ⟨#[]⟩, .string ⟨#[]⟩] 52)).cell? ⟨0, 8, none⟩ = some (.int .i64 0) := hE2.bnd 8 (by decide)
  have c9 : (w.alloc (.cells #[.string ⟨#[]⟩, .string ⟨#[]⟩, .string ⟨#[]⟩, .string ⟨#[]⟩, .string ⟨#[]⟩] 52)).cell? ⟨0, 9, none⟩ = some (.int .i64 6) := hE2.bnd 9 (by decide)
  have hW2 := WdAt.new w S
  go_enter Tryd.func10, Tryd.ntmps10
  go_wp2_with fail
  clear c0 c1 c2 c3 c4 c5 c6 c7 c8 c9
  have HX := hide hX
  have HE := hide hE
  clear hE hX hE2
  generalize (w.alloc (.cells #[.string ⟨#[]⟩, .string ⟨#[]⟩, .string ⟨#[]⟩, .string ⟨#[]⟩, .string ⟨#[]⟩] 52)) = W2 at *
  go_loopw [7] (fun x wx => ∃ f : Nat, x = .int .i64 f ∧ f ≤ 5 ∧ WdAt w S f wx) (fun x _ => 5 - (intOf x).toNat)
  case atStart => exact ⟨0, rfl, by omega, hW2⟩
  case round =>
    obtain ⟨f, rfl, hf, hW⟩ := hrel
    clear hW2
    by_cases hlt : f < 5
    · have ix := fun w' => index_bnd w' f hlt
      have i0 : (f : Int) < 5 := by omega
      have i1 : (0 : Int) ≤ (f : Int) := by omega
      have hlo := X.loF_le f
      have hB3 : Below wr.heap.size wr (wr.alloc (.cells #[.int .i64 (X.loF f), .int .i64 (X.hiF f)] 54)) := Below.put (Below.refl _ _) _
      have h1 := heap_alloc_new wr (.cells #[.int .i64 (X.loF f), .int .i64 (X.hiF f)] 54)
      have b0 : (wr.alloc (.cells #[.int .i64 (X.loF f), .int .i64 (X.hiF f)] 54)).cell? ⟨wr.heap.size, 0, none⟩ = some (.int .i64 (X.loF f)) := by rw [cell_of_row _ _ _ _ _ _ h1]; rfl
      have b1 : (wr.alloc (.cells #[.int .i64 (X.loF f), .int .i64 (X.hiF f)] 54)).cell? ⟨wr.heap.size, 1, none⟩ = some (.int .i64 (X.hiF f)) := by rw [cell_of_row _ _ _ _ _ _ h1]; rfl
      have HW3 := hide (hW.keep hB3)
      have hX3 := HX.out.keep (HW3.out.bel)
      clear hW hB3 h1
      go_wp2_with fail
      generalize hW3 : wr.alloc (.cells #[.int .i64 (X.loF f), .int .i64 (X.hiF f)] 54) = W3 at *
      clear hW3 ix
      have hr := range60 hX3 f hlt
      have r0 := fun dd os => cell_regrown b0 dd os
      have r1 := fun dd os => cell_regrown b1 dd os
      have cQ : ∀ (dd : Nat) (os : Array Obj), Calls Tryd.prog 23 #[.agg (row60 fun v => S (60 * f + v)), .agg #[.int .i64 (X.loF f), .int .i64 (X.hiF f)]] (grow (redrawn W3 dd) os) fun e w'' => e = .returned (.string ⟨(X.textF S f).toArray⟩) ∧ ∃ p : Regrown, w'' = grow (redrawn W3 p.d) p.os :=
        fun dd os => Calls.regrown_of (text_any _ _ _ hlo.1 (by omega) _)
      have hi0 : (Tryd.prog.info? 57).map (·.size) = some (row60 fun v => S (60 * f + v)).toList.length := by rw [Array.length_toList, row60_size]; exact size_set
      have hu := Tryd.underlying57
      generalize hF : (row60 fun v => S (60 * f + v)) = F at *
      have hFl : F.toList.toArray = F := by simp
      generalize F.toList = cs at *
      rw [← hFl] at cQ
      have HQ := hide cQ
      have hr2 : ∀ w', (∃ p : Regrown, w' = grow (redrawn W3 p.d) p.os) → w'.rangeAt g (f * 60) cs := by
        rintro w' ⟨p, rfl⟩ j v hv
        exact cell_regrown (hr j v hv) _ _
      have HR2 := hide hr2
      have HI0 := hide hi0
      clear hF hFl cQ hr hr2 hi0 hX3 b0 b1
      refine wp_region_quiet_store rfl (by kernel_rfl) (by kernel_rfl) (by kernel_rfl) ?_
      simp only [List.dropLast, List.cons_append, List.nil_append, still]
      repeat (first | (refine wpQuiet_load (by rfl) _ _ rfl g (f * 60) rfl cs _ HR2.out hu rfl HI0.out ?_) | (quiet_step (exact HQ.out _ _)))
      refine wpQuiet_nil ?_
      intro w' hw'
      obtain ⟨⟨dd, os⟩, rfl⟩ := hw'
      have hW4 := HW3.out.keep (below_regrown W3 dd os)
      generalize grow (redrawn W3 dd) os = W4 at *
      have cc := hW4.c f hlt
      have ff := hW4.fr f
      go_simp
      have HW5 := hide (hW4.set hlt)
      clear cc ff hW4
      generalize W4.setCell ⟨w.heap.size, f, none⟩ (.string ⟨(X.textF S f).toArray⟩) = W5 at *
      go_wp2_with fail
      exact ⟨⟨f + 1, by go_num, by omega, HW5.out⟩, by simp [intOf]; omega⟩
    · obtain rfl : f = 5 := by omega
      have htl := X.text_len hG
      have hxs : ∀ (j : Nat) x, (([0, 1, 2, 3, 4] : List Nat).map (wtxt S 5))[j]? = some x → wr.cell? ⟨w.heap.size, 0 + j, none⟩ = some (.string x) := by
        intro j x hx
        have hj : j < 5 := by simpa using (List.getElem?_eq_some_iff.1 hx).1
        rw [Nat.zero_add, hW.c j hj]
        match j, hj with
        | 0, _ => simpa using hx
        | 1, _ => simpa using hx
        | 2, _ => simpa using hx
        | 3, _ => simpa using hx
        | 4, _ => simpa using hx
      have htx : ((([0, 1, 2, 3, 4] : List Nat).map (wtxt S 5)).map (·.data.toList)) = X.texts S := rfl
      have hJ := Tryd.strings_Join w.heap.size 0 5 (([0, 1, 2, 3, 4] : List Nat).map (wtxt S 5)) ⟨#[32]⟩ wr hxs hW.lt (by simp) (by simp) (by rw [htx]; exact Nat.le_trans htl (by decide))
      rw [htx] at hJ
      have HJ := hide hJ
      have HW := hide hW
      clear hJ hxs htx htl hW
      go_wp2_with fail
      go_at_call 24
      refine HJ.out.mono ?_
      rintro e w9 ⟨rfl, hb9⟩
      have HB9 := hide (HW.out.bel.trans (hb9.mono HW.out.bel.size))
      clear hb9
      go_wp2_with fail
      go_ret
      exact ⟨rfl, HB9.out⟩

end Go.Proofs.YtbgioclbjbmicaaDoor
