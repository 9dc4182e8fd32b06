/- The law's put of a step: pick; numbers. -/
import Derived.Test.YtoelgcagahmndaaGreatPWrM
import Derived.Test.YtoelgcagahmndaaGreatPKnown
import Derived.Test.YtoelgcagahmndaaGreatPBlobR
import Derived.Deep.RegionHeld3
import Derived.Deep.CutRange
namespace Go.Proofs.YtoelgcagahmndaaGreat
namespace Wm
open Go.RowKit Go.Deep

/-- which kind a step is -/
def pk (c : Int) : Nat := ((if c < 0 then -(c + 1) else c) % 11).toNat
theorem pick_any (c : Int) (h1 : -9223372036854775808 ≤ c) (h2 : c ≤ 9223372036854775807) (w : World) :
    Calls Tryz.prog 72 #[.int .i64 c, .int .i64 11] w fun en w' => en = .returned (.int .i64 (pk c : Nat)) ∧ w' = w := by
  by_cases hc : c < 0
  · have e1 : IntKind.i64.wrap (c + 1) = c + 1 := by rw [IntKind.wrap_i64]; omega
    have e2 : IntKind.i64.wrap (-(c + 1)) = -(c + 1) := by rw [IntKind.wrap_i64]; omega
    have e3 : Int.tmod (-(c + 1)) 11 = ((pk c : Nat) : Int) := by unfold pk; rw [if_pos hc, Int.tmod_eq_emod_of_nonneg (by omega)]; omega
    have e4 : IntKind.i64.wrap ((pk c : Nat) : Int) = ((pk c : Nat) : Int) := by rw [IntKind.wrap_i64]; unfold pk; omega
    go_enter Tryz.func72, Tryz.ntmps72
    go_wp2
    go_ret
    refine ⟨?_, rfl⟩
    first | rfl | (simp only [e1, e2, e3, e4]) | (rw [e3]; first | rfl | rw [e4]) | trace_state
  · have e3 : Int.tmod c 11 = ((pk c : Nat) : Int) := by unfold pk; rw [if_neg hc, Int.tmod_eq_emod_of_nonneg (by omega)]; omega
    have e4 : IntKind.i64.wrap ((pk c : Nat) : Int) = ((pk c : Nat) : Int) := by rw [IntKind.wrap_i64]; unfold pk; omega
    go_enter Tryz.func72, Tryz.ntmps72
    go_wp2
    go_ret
    refine ⟨?_, rfl⟩
    first | rfl | (simp only [e3, e4]) | (rw [e3]; first | rfl | rw [e4]) | trace_state
theorem blkB {w w' : World} {b : Nat} {o : Obj} (h : w.heap[b]? = some o) (hb : Below w.heap.size w w') : w'.heap[b]? = some o :=
  (Keep.ofBelow (S := fun _ => False) hb (Nat.le_refl _)).blk h fun h => h
theorem cells11 {w : World} {b : Nat} {x0 x1 x2 x3 x4 x5 x6 x7 x8 x9 x10 : Value} {T : TypeId} (h : w.heap[b]? = some (.cells #[x0, x1, x2, x3, x4, x5, x6, x7, x8, x9, x10] T (0, 0))) :
    w.cell? ⟨b, 0, none⟩ = some x0 ∧ w.cell? ⟨b, 1, none⟩ = some x1 ∧ w.cell? ⟨b, 2, none⟩ = some x2 ∧ w.cell? ⟨b, 3, none⟩ = some x3 ∧ w.cell? ⟨b, 4, none⟩ = some x4 ∧ w.cell? ⟨b, 5, none⟩ = some x5 ∧ w.cell? ⟨b, 6, none⟩ = some x6 ∧ w.cell? ⟨b, 7, none⟩ = some x7 ∧ w.cell? ⟨b, 8, none⟩ = some x8 ∧ w.cell? ⟨b, 9, none⟩ = some x9 ∧ w.cell? ⟨b, 10, none⟩ = some x10 := by
  refine ⟨?_, ?_, ?_, ?_, ?_, ?_, ?_, ?_, ?_, ?_, ?_⟩ <;> (rw [cell_of_row _ _ _ _ _ _ h]; rfl)
theorem wr_at {W w8 : World} {p : Nat} {v : Value} {s : K.WS} (h : Wr W p v s) (hb : Below W.heap.size W w8) : WAt (Wset p v) w8 p s w8 :=
  ⟨Keep.refl _ _, v, h.keep (S := fun _ => False) (Keep.ofBelow hb (Nat.le_refl _)) fun _ _ f => f, fun _ hk => .inl hk⟩
theorem newD {W w8 : World} {p : Nat} {v : Value} {s : K.WS} (h : Wr W p v s) {k : Nat} (h1 : W.heap.size ≤ k) (h2 : k < w8.heap.size) : ¬ Wset p v k ∧ k < w8.heap.size := by
  refine ⟨fun hk => ?_, h2⟩
  rcases hk with rfl | hk
  · have := (Array.getElem?_eq_some_iff.1 h.blk).1; omega
  · have := (h.row.lt k hk).2; omega
set_option maxRecDepth 100000 in
set_option maxHeartbeats 4000000 in
theorem put_num (S : Nat → Prop) (w0 : World) (p : Nat) (s : K.WS) (wh le mo nn : Int) (hnn : nn ≤ 9223372036854775807) (x4 x5 x6 x7 x8 x9 x10 : Value) (w : World) (h : WAt S w0 p s w) (h1 : -9223372036854775808 ≤ wh) (h2 : wh ≤ 9223372036854775807) (hk : ((pk wh : Nat) : Int) = 0) :
    Calls Tryz.prog 31 #[.pointer (some ⟨p, 0, none⟩), .agg #[.int .i64 wh, .int .i64 le, .int .i64 mo, .int .i64 nn, x4, x5, x6, x7, x8, x9, x10]] w fun en w' => en = .returned (.tuple #[]) ∧ WAt S w0 p (putW (numW le mo nn) s) w' := by
  have hb0 := (Below.refl w.heap.size w).alloc (Nat.le_refl _) (.cells #[.int .i64 wh, .int .i64 le, .int .i64 mo, .int .i64 nn, x4, x5, x6, x7, x8, x9, x10] 74)
  have HA := hide (h.below hb0)
  have HX := hide (heap_alloc_new w (.cells #[.int .i64 wh, .int .i64 le, .int .i64 mo, .int .i64 nn, x4, x5, x6, x7, x8, x9, x10] 74))
  clear hb0 h
  go_enter Tryz.func31, Tryz.ntmps31
  go_upto_region 1 with fail
  generalize w.alloc (.cells #[.int .i64 wh, .int .i64 le, .int .i64 mo, .int .i64 nn, x4, x5, x6, x7, x8, x9, x10] 74) = W at *
  generalize w.heap.size = g at *
  obtain ⟨y0, _⟩ := cells11 HX.out
  go_wp2_with fail
  refine (pick_any wh h1 h2 _).mono ?_
  rintro e w1 ⟨rfl, rfl⟩
  rw [hk]
  clear y0
  go_upto_region 3 with fail
  obtain ⟨v, hv, _, hs⟩ := HA.out.rebase
  have HV := hide (hv.keep (Keep.drew (fun _ => False) _) fun _ _ f => f)
  have HSS := hide hs
  clear hv hs
  have HS : Hid (∀ W' : World, W'.heap[g]? = some (.cells #[.int .i64 wh, .int .i64 le, .int .i64 mo, .int .i64 nn, x4, x5, x6, x7, x8, x9, x10] 74 (0, 0)) → (fun W' : World => W'.cell? ⟨g, 1, none⟩ = some (.int .i64 le) ∧ W'.cell? ⟨g, 2, none⟩ = some (.int .i64 mo) ∧ W'.cell? ⟨g, 3, none⟩ = some (.int .i64 nn)) W') := fun W' k => ⟨(cells11 k).2.1, (cells11 k).2.2.1, (cells11 k).2.2.2.1⟩
  have HNg : Hid (¬ Wset p v g) := HV.out.not (b := g) HX.out (by decide) (by decide)
  have HXd : Hid (w1.drew.heap[g]? = some (.cells #[.int .i64 wh, .int .i64 le, .int .i64 mo, .int .i64 nn, x4, x5, x6, x7, x8, x9, x10] 74 (0, 0))) := HX.out
  go_region_held3 (fun W' : World => W'.cell? ⟨g, 1, none⟩ = some (.int .i64 le) ∧ W'.cell? ⟨g, 2, none⟩ = some (.int .i64 mo) ∧ W'.cell? ⟨g, 3, none⟩ = some (.int .i64 nn)) (first | (exact HS.out _ HXd.out) | (exact HS.out _ HX9.out) | (exact HS.out _ HX8.out) | (exact HS.out _ HX.out) | go_keep) (first
    | (go_at_call 55; refine (PutI (Wset p v) w8 p _ _ _ _ _ (numW le mo nn) s _ (wr_at HV.out HB8.out) (putsNum (fun k => ¬ Wset p v k ∧ k < w8.heap.size) w8 l8 m8 le mo nn hnn HL8.out HM8.out (newD HV.out HG8.out.1 (numForm_lt HL8.out)) (newD HV.out HG8.out.2 (numForm_lt HM8.out)) p (Wset p v) w8 (Agree.refl fun k hk => hk.2) (fun k hk => hk.1)) ent_putNum).mono ?_; rintro e w9 ⟨rfl, h9⟩; have HX9 := hide (h9.keep.blk HX8.out HNg.out); have H9 := hide h9; clear h9)
    | (go_at_call 39; refine (Numbers_any le mo _).mono ?_; rintro e w8 ⟨l8, m8, rfl, hl8, hm8, hgl, hgm, hb8⟩; have HL8 := hide hl8; have HM8 := hide hm8; have HG8 := hide (And.intro hgl hgm); have HB8 := hide hb8; have HX8 := hide (blkB HXd.out hb8); clear hl8 hm8 hgl hgm hb8))
  go_wp2_with fail
  go_end0
  exact ⟨rfl, (HA.out.below (((Below.refl _ _).drew).trans HB8.out)).step HSS.out H9.out⟩
end Wm
end Go.Proofs.YtoelgcagahmndaaGreat
