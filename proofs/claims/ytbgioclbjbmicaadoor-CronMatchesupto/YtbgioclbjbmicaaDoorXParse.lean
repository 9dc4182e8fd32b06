/- Package cron: Parse. -/
import Derived.Test.YtbgioclbjbmicaaDoorXSplit
import Derived.Test.YtbgioclbjbmicaaDoorXWord
import Derived.Deep.RegionHeld3
namespace Go.Proofs.YtbgioclbjbmicaaDoor
open Go.RowKit

theorem index_bnd (w : World) (f : Nat) (hf : f < 5) : (Instr.index 55 (.agg #[.int .i64 0, .int .i64 59, .int .i64 0, .int .i64 23, .int .i64 1, .int .i64 31, .int .i64 1, .int .i64 12, .int .i64 0, .int .i64 6]) (.int .i64 f)).run Tryd.prog w = .ok (.agg #[.int .i64 (X.loF f), .int .i64 (X.hiF f)]) w := by
  match f, hf with
  | 0, _ => simp [Instr.index, Sem.run_bind, run_underlying Tryd.underlying55, part, asIntOf, X.loF, X.hiF]
  | 1, _ => simp [Instr.index, Sem.run_bind, run_underlying Tryd.underlying55, part, asIntOf, X.loF, X.hiF]
  | 2, _ => simp [Instr.index, Sem.run_bind, run_underlying Tryd.underlying55, part, asIntOf, X.loF, X.hiF]
  | 3, _ => simp [Instr.index, Sem.run_bind, run_underlying Tryd.underlying55, part, asIntOf, X.loF, X.hiF]
  | 4, _ => simp [Instr.index, Sem.run_bind, run_underlying Tryd.underlying55, part, asIntOf, X.loF, X.hiF]
theorem zero_expr : Tryd.zeroCells60 = Array.replicate 300 (Value.bool false) := by kernel_rfl
theorem expr_new (w : World) : ExprW (w.alloc (.cells Tryd.zeroCells60 60)) w.heap.size (fun _ => false) := by
  have h1 := heap_alloc_new w (.cells Tryd.zeroCells60 60)
  refine ⟨⟨fun i hi => ?_⟩, fun j => by unfold World.frozen?; rw [h1]; simp⟩
  rw [cell_of_row _ _ _ _ _ _ h1, zero_expr, Array.getElem?_replicate, if_pos hi]
theorem addWords_step (f : Nat) (x : List UInt8) (r : List (List UInt8)) (S : X.Sets) : X.addWords f (x :: r) S = match X.addWord (60 * f) (X.loF f) (X.hiF f) x S with
    | none => none
    | some T => X.addWords (f + 1) r T := by
  rw [X.addWords]
  cases X.addWord (60 * f) (X.loF f) (X.hiF f) x S <;> rfl
/-- What Parse answers. -/
def ParseEnd (r : Nat ⊕ X.Sets) (w : World) (e : Ending) (w' : World) : Prop :=
  match r with
  | .inl n => e = .returned (.tuple #[.pointer none, .int .i64 n])
  | .inr S => ∃ g, e = .returned (.tuple #[.pointer (some ⟨g, 0, none⟩), .int .i64 0]) ∧ ExprAt w' g S ∧ w.heap.size ≤ g
set_option maxRecDepth 100000 in
set_option maxHeartbeats 2000000 in
theorem parse_any (s : ByteArray) (w : World) (hE : Env w) :
    Calls Tryd.prog 21 #[.string s] w fun e w' => ParseEnd (X.parse s.data.toList) w e w' ∧ Below w.heap.size w w' := by
  have hlen : s.data.toList.length = s.size := by simp
  by_cases hs : s.size ≤ 1024
  · have hs' : ¬ (1024 : Int) < s.size := by omega
    generalize hR : X.parse s.data.toList = R
    go_enter Tryd.func21, Tryd.ntmps21
    go_wp2_with fail
    go_at_call 37
    refine (split_words s hs w).mono ?_
    rintro e w1 ⟨⟨v, ws, rfl, hws, hwl, hwz, hown⟩, hb1⟩
    have hwords : (X.words s.data.toList).length = ws.length := by rw [← hws]; simp
    obtain ⟨a, c, rfl⟩ : ∃ a c, v = .slice a ws.length c := by
      rcases hown.2 with ⟨rfl, hn⟩ | ⟨g, cap, cur, h1, h2, h3⟩
      · exact ⟨none, 0, by rw [hn]⟩
      · exact ⟨_, _, h1⟩
    by_cases h5 : ws.length = 5
    · have hE1 := hE.keep hb1
      have i5 : ((ws.length : Int) == 5) = true := by simp; omega
      have i5' : ((ws.length : Int) != 5) = false := by simp; omega
      have hE2 := hE1.alloc (.cells Tryd.zeroCells60 60)
      have c0 : (w1.alloc (.cells Tryd.zeroCells60 60)).cell? ⟨0, 0, none⟩ = some (.int .i64 0) := hE2.bnd 0 (by decide)
      have c1 : (w1.alloc (.cells Tryd.zeroCells60 60)).cell? ⟨0, 1, none⟩ = some (.int .i64 59) := hE2.bnd 1 (by decide)
      have c2 : (w1.alloc (.cells Tryd.zeroCells60 60)).cell? ⟨0, 2, none⟩ = some (.int .i64 0) := hE2.bnd 2 (by decide)
      have c3 : (w1.alloc (.cells Tryd.zeroCells60 60)).cell? ⟨0, 3, none⟩ = some (.int .i64 23) := hE2.bnd 3 (by decide)
      have c4 : (w1.alloc (.cells Tryd.zeroCells60 60)).cell? ⟨0, 4, none⟩ = some (.int .i64 1) := hE2.bnd 4 (by decide)
      have c5 : (w1.alloc (.cells Tryd.zeroCells60 60)).cell? ⟨0, 5, none⟩ = some (.int .i64 31) := hE2.bnd 5 (by decide)
      have c6 : (w1.alloc (.cells Tryd.zeroCells60 60)).cell? ⟨0, 6, none⟩ = some (.int .i64 1) := hE2.bnd 6 (by decide)
      have c7 : (w1.alloc (.cells Tryd.zeroCells60 60)).cell? ⟨0, 7, none⟩ = some (.int .i64 12) := hE2.bnd 7 (by decide)
      have c8 : (w1.alloc (.cells Tryd.zeroCells60 60)).cell? ⟨0, 8, none⟩ = some (.int .i64 0) := hE2.bnd 8 (by decide)
      have c9 : (w1.alloc (.cells Tryd.zeroCells60 60)).cell? ⟨0, 9, none⟩ = some (.int .i64 6) := hE2.bnd 9 (by decide)
      have hX2 := expr_new w1
      have hB2 : Below w1.heap.size w1 (w1.alloc (.cells Tryd.zeroCells60 60)) := Below.put (Below.refl _ _) _
      obtain ⟨gw, hgw, hcw⟩ : ∃ gw, a = some ⟨gw, 0, none⟩ ∧ ∀ j x, ws[j]? = some x → w1.cell? ⟨gw, j, none⟩ = some (.string x) := by
        rcases hown.2 with ⟨_, hn⟩ | ⟨g, cap, cur, h1, h2, h3⟩
        · omega
        · injection h1 with e1 e2 e3
          subst e1
          refine ⟨g, rfl, fun j x hx => ?_⟩
          have hj : j < ws.length := (List.getElem?_eq_some_iff.1 hx).1
          subst e3
          rw [World.ownsRow.cellAt hown j (by omega)]
          simp [strs, hx]
      subst hgw
      have hpar : R = match X.addWords 0 (ws.map (·.data.toList)) (fun _ => false) with
        | none => .inl 41
        | some S => .inr S := by
        rw [← hR]; unfold X.parse
        rw [if_neg (by rw [hwords]; omega), hws]
        cases X.addWords 0 (X.words s.data.toList) (fun _ => false) <;> rfl
      have hg8 : 0 < w1.heap.size ∧ 1 < w1.heap.size := ⟨hE1.bsz, hE1.tab.size⟩
      have HP := hide hpar
      have HX2 := hide hX2
      have HB2 := hide hB2
      have HE2 := hide hE2
      have HCW := hide hcw
      have HB1 := hide hb1
      have hwlt : ∀ j x, ws[j]? = some x → gw < w1.heap.size := fun j x hx => World.block_lt_of_cell? _ ⟨gw, j, none⟩ (hcw j x hx)
      clear hpar hX2 hB2 hE2 hcw hb1 hR hown hE1 hE hwords hws
      go_wp2_with fail
      clear c0 c1 c2 c3 c4 c5 c6 c7 c8 c9
      generalize w1.alloc (.cells Tryd.zeroCells60 60) = W2 at *
      go_loopw [18] (fun x wx => ∃ (f : Nat) (T : X.Sets), x = .int .i64 f ∧ f ≤ 5 ∧ Hid (X.addWords f ((ws.drop f).map (·.data.toList)) T = X.addWords 0 (ws.map (·.data.toList)) (fun _ => false)) ∧ ExprW wx w1.heap.size T ∧ KeepX w1.heap.size W2 wx) (fun x _ => 5 - (intOf x).toNat)
      case atStart => exact ⟨0, _, rfl, by omega, rfl, HX2.out, KeepX.refl _ _⟩
      case round =>
        obtain ⟨f, T, rfl, hf, HF, hXf, hKf⟩ := hrel
        have HK : Hid (Below w.heap.size w wr) := HB1.out.trans ((HB2.out.trans (hKf.below HB2.out.size (Nat.le_refl _))).mono HB1.out.size)
        by_cases hlt : f < 5
        · obtain ⟨x, hx⟩ : ∃ x, ws[f]? = some x := ⟨_, List.getElem?_eq_getElem (by omega)⟩
          have hdr : ws.drop f = x :: ws.drop (f + 1) := by
            rw [List.drop_eq_getElem_cons (by omega)]
            congr 1
            rw [List.getElem?_eq_getElem (by omega)] at hx
            injection hx
          have hxz := hwz x (List.mem_of_getElem? hx)
          have hgl := hwlt f x hx
          have cx : wr.cell? ⟨gw, f, none⟩ = some (.string x) := hKf.cell (by rw [HB2.out.cell (p := ⟨gw, f, none⟩) hgl]; exact HCW.out f x hx) (Nat.ne_of_lt hgl)
          have ix := fun w' => index_bnd w' f hlt
          have i0 : (f : Int) < 5 := by omega
          have i1 : (0 : Int) ≤ (f : Int) := by omega
          have hlo := X.loF_le f
          have env := HE2.out.keepX hKf hg8.1 hg8.2
          have hg1 : w1.heap.size < wr.heap.size := hXf.ex.lt
          have hstep : X.addWords f ((ws.drop f).map (·.data.toList)) T = match X.addWord (60 * f) (X.loF f) (X.hiF f) x.data.toList T with
            | none => none
            | some U => X.addWords (f + 1) ((ws.drop (f + 1)).map (·.data.toList)) U := by rw [hdr, List.map_cons, addWords_step]
          have HSt := hide hstep
          have hB3 : Below wr.heap.size wr (wr.alloc (.cells #[.int .i64 (X.loF f), .int .i64 (X.hiF f)] 54)) := Below.put (Below.refl _ _) _
          have h1 := heap_alloc_new wr (.cells #[.int .i64 (X.loF f), .int .i64 (X.hiF f)] 54)
          have b0 : (wr.alloc (.cells #[.int .i64 (X.loF f), .int .i64 (X.hiF f)] 54)).cell? ⟨wr.heap.size, 0, none⟩ = some (.int .i64 (X.loF f)) := by rw [cell_of_row _ _ _ _ _ _ h1]; rfl
          have b1 : (wr.alloc (.cells #[.int .i64 (X.loF f), .int .i64 (X.hiF f)] 54)).cell? ⟨wr.heap.size, 1, none⟩ = some (.int .i64 (X.hiF f)) := by rw [cell_of_row _ _ _ _ _ _ h1]; rfl
          have bx : (wr.alloc (.cells #[.int .i64 (X.loF f), .int .i64 (X.hiF f)] 54)).cell? ⟨gw, f, none⟩ = some (.string x) := by rw [hB3.cell (p := ⟨gw, f, none⟩) (World.block_lt_of_cell? _ _ cx)]; exact cx
          have env3 := env.keep hB3
          have hX3 := hXf.keep hB3
          have hK3 := hKf.trans (KeepX.ofBelow hB3)
          clear hstep hdr h1 env cx
          go_wp2_with fail
          generalize hW3 : wr.alloc (.cells #[.int .i64 (X.loF f), .int .i64 (X.hiF f)] 54) = W3 at *
          have hBd : Below W3.heap.size W3 W3.drew := (Below.refl _ W3).drew
          have HEd := hide (env3.keep hBd)
          have HXd := hide (hX3.keep hBd)
          have HKd := hide (hK3.trans (KeepX.ofBelow hBd))
          have HH := hide (show W3.drew.cell? ⟨gw, f, none⟩ = some (.string x) ∧ W3.drew.cell? ⟨wr.heap.size, 0, none⟩ = some (.int .i64 (X.loF f)) ∧ W3.drew.cell? ⟨wr.heap.size, 1, none⟩ = some (.int .i64 (X.hiF f)) from ⟨by simpa using bx, by simpa using b0, by simpa using b1⟩)
          have ne1 : gw ≠ w1.heap.size := Nat.ne_of_lt hgl
          have ne2 : wr.heap.size ≠ w1.heap.size := Nat.ne_of_gt hg1
          clear env3 hX3 hK3 hXf hKf hBd hB3 hW3
          go_region_held3 (fun w' => w'.cell? ⟨gw, f, none⟩ = some (.string x) ∧ w'.cell? ⟨wr.heap.size, 0, none⟩ = some (.int .i64 (X.loF f)) ∧ w'.cell? ⟨wr.heap.size, 1, none⟩ = some (.int .i64 (X.hiF f))) (first | (exact HH.out) | (exact ⟨hk4.cell HH.out.1 ne1, hk4.cell HH.out.2.1 ne2, hk4.cell HH.out.2.2 ne2⟩) | go_keep) ((go_at_call 38; refine (addWord_any x hxz (X.loF f) (X.hiF f) hlo.1 hlo.2.1 T w1.heap.size (f * 60) (by omega) hg8 _ HEd.out HXd.out).mono ?_; rintro e w4 ⟨rfl, ⟨U, hX4, hU⟩, hk4⟩))
          rw [Nat.mul_comm f 60] at hU
          have hadd := HSt.out
          have hK4 := HKd.out.trans hk4
          have HB4 : Hid (Below w.heap.size w w4) := HB1.out.trans ((HB2.out.trans (hK4.below HB2.out.size (Nat.le_refl _))).mono HB1.out.size)
          cases hr : X.addWord (60 * f) (X.loF f) (X.hiF f) x.data.toList T with
          | none =>
            rw [hr] at hadd
            have hRn : R = .inl 41 := by rw [HP.out, ← HF.out, hadd]
            rw [Nat.mul_comm f 60, hr]
            simp only [Option.isSome_none]
            go_wp2_with fail
            go_ret2
            exact ⟨by first | exact rfl | (rw [hRn]; exact rfl), HB4.out⟩
          | some V =>
            rw [hr] at hadd hU
            obtain rfl := hU V rfl
            rw [Nat.mul_comm f 60, hr]
            simp only [Option.isSome_some]
            go_wp2_with fail
            exact ⟨⟨f + 1, V, by go_num, by omega, (by show _ = _; rw [← HF.out, hadd]), hX4, hK4⟩, by simp [intOf]; omega⟩
        · have hRs : R = .inr T := by
            rw [HP.out, ← HF.out, List.drop_eq_nil_of_le (by omega), List.map_nil, X.addWords]
          go_wp2_with fail
          go_ret2
          exact ⟨by first | exact ⟨_, rfl, hXf.ex, HB1.out.size⟩ | (rw [hRs]; exact ⟨_, rfl, hXf.ex, HB1.out.size⟩), HK.out⟩
    · have i5 : ((ws.length : Int) != 5) = true := by simp; omega
      have hR' : R = .inl 40 := by rw [← hR]; unfold X.parse; rw [if_pos (Or.inr (by rw [hwords]; exact h5))]
      go_wp2_with fail
      go_ret2
      exact ⟨by first | exact rfl | (rw [hR']; exact rfl), hb1⟩
  · have hs' : (1024 : Int) < s.size := by omega
    have hR : X.parse s.data.toList = .inl 40 := by unfold X.parse; rw [if_pos (Or.inl (by omega))]
    rw [hR]
    go_enter Tryd.func21, Tryd.ntmps21
    go_wp2_with fail
    go_ret2
    exact ⟨rfl, Below.refl _ _⟩
end Go.Proofs.YtbgioclbjbmicaaDoor
