/- The law's same: of two answers that are alike. -/
import Derived.Test.YtinhpanpjamjlaaGreatPTo3
namespace Go.Proofs.YtinhpanpjamjlaaGreat
namespace Wm
open Go.RowKit Go.Deep

theorem cells7 {w : World} {b : Nat} {x0 x1 x2 x3 x4 x5 x6 : Value} {T : TypeId} (h : w.heap[b]? = some (.cells #[x0, x1, x2, x3, x4, x5, x6] T (0, 0))) :
    w.cell? ⟨b, 0, none⟩ = some x0 ∧ w.cell? ⟨b, 1, none⟩ = some x1 ∧ w.cell? ⟨b, 2, none⟩ = some x2 ∧ w.cell? ⟨b, 3, none⟩ = some x3 ∧ w.cell? ⟨b, 4, none⟩ = some x4 ∧ w.cell? ⟨b, 5, none⟩ = some x5 ∧ w.cell? ⟨b, 6, none⟩ = some x6 := by
  refine ⟨?_, ?_, ?_, ?_, ?_, ?_, ?_⟩ <;> (rw [cell_of_row _ _ _ _ _ _ h]; rfl)
theorem els_len {w : World} {a : Option Addr} {n : Nat} {vs : List Value} {D : Nat → Prop} (h : Els D w a n vs) : n = vs.length := h.1
set_option maxRecDepth 100000 in
set_option maxHeartbeats 4000000 in
theorem same_any (v u : Value) (t : Td) (w : World) (h1 : TdV w v t) (h2 : TdV w u t) :
    Calls Tryz.prog 23 #[v, u] w fun en w' => en = .returned (.bool true) ∧ Below w.heap.size w w' := by
  obtain ⟨aT, nT, cT, aL, nL, cL, aD, nD, cD, rfl, hT, hL, hD⟩ := h1
  obtain ⟨bT, mT, dT, bL, mL, dL, bD, mD, dD, rfl, iT, iL, iD⟩ := h2
  have eT : mT = nT := by rw [iT.1, hT.1]
  have eL : mL = nL := by rw [iL.1, hL.1]
  have eD : mD = nD := by
    obtain ⟨_, _, h, _⟩ := hD
    obtain ⟨_, _, i, _⟩ := iD
    rw [← h, ← i]
  subst eT eL eD
  obtain ⟨N, W, F, S, T, L, D⟩ := t
  have hb : Below w.heap.size w ((w.alloc (.cells #[.int .i64 N, .int .u64 (W : Nat), .bool F, .string S, .slice aT mT cT, .slice aL mL cL, .slice aD mD cD] 52)).alloc (.cells #[.int .i64 N, .int .u64 (W : Nat), .bool F, .string S, .slice bT mT dT, .slice bL mL dL, .slice bD mD dD] 52)) := ((Below.refl _ _).alloc (Nat.le_refl _) _).alloc (by simp) _
  have HK : Hid (Keep (fun _ => False) w ((w.alloc (.cells #[.int .i64 N, .int .u64 (W : Nat), .bool F, .string S, .slice aT mT cT, .slice aL mL cL, .slice aD mD cD] 52)).alloc (.cells #[.int .i64 N, .int .u64 (W : Nat), .bool F, .string S, .slice bT mT dT, .slice bL mL dL, .slice bD mD dD] 52))) := Keep.ofBelow hb (Nat.le_refl _)
  have c1 := (Keep.alloc (fun _ => False) (w.alloc (.cells #[.int .i64 N, .int .u64 (W : Nat), .bool F, .string S, .slice aT mT cT, .slice aL mL cL, .slice aD mD cD] 52)) (.cells #[.int .i64 N, .int .u64 (W : Nat), .bool F, .string S, .slice bT mT dT, .slice bL mL dL, .slice bD mD dD] 52)).blk (heap_alloc_new w _) fun f => f
  have c2 := heap_alloc_new (w.alloc (.cells #[.int .i64 N, .int .u64 (W : Nat), .bool F, .string S, .slice aT mT cT, .slice aL mL cL, .slice aD mD cD] 52)) (.cells #[.int .i64 N, .int .u64 (W : Nat), .bool F, .string S, .slice bT mT dT, .slice bL mL dL, .slice bD mD dD] 52)
  have fS : ∀ k : Nat, False → k < w.heap.size → IsR w k := fun _ f => f.elim
  have HT := hide (els_nr hT HK.out fS)
  have HL := hide (els_nr hL HK.out fS)
  have HD := hide (rows_nr hD HK.out fS)
  have IT := hide (els_nr iT HK.out fS)
  have IL := hide (els_nr iL HK.out fS)
  have ID := hide (rows_nr iD HK.out fS)
  have HB := hide hb
  have HC1 := hide (cells7 c1)
  have HC2 := hide (cells7 c2)
  clear hT hL hD iT iL iD hb c1 c2 HK
  go_enter Tryz.func23, Tryz.ntmps23
  go_upto_region 1 with fail
  have hsz : (w.alloc (.cells #[.int .i64 N, .int .u64 (W : Nat), .bool F, .string S, .slice aT mT cT, .slice aL mL cL, .slice aD mD cD] 52)).heap.size = w.heap.size + 1 := by simp
  rw [hsz] at HC2
  clear hsz
  generalize (w.alloc (.cells #[.int .i64 N, .int .u64 (W : Nat), .bool F, .string S, .slice aT mT cT, .slice aL mL cL, .slice aD mD cD] 52)).alloc (.cells #[.int .i64 N, .int .u64 (W : Nat), .bool F, .string S, .slice bT mT dT, .slice bL mL dL, .slice bD mD dD] 52) = W1 at *
  obtain ⟨x0, x1, x2, x3, x4, x5, x6⟩ := HC1.out
  obtain ⟨y0, y1, y2, y3, y4, y5, y6⟩ := HC2.out
  go_wp2_with fail
  refine (ints_same _ aL bL mL cL dL L _ HL.out IL.out).mono ?_
  rintro e w2 ⟨rfl, m, rfl⟩
  have x4' : (W1.drewN m).cell? ⟨w.heap.size, 4, none⟩ = some (.slice aT mT cT) := x4
  have y4' : (W1.drewN m).cell? ⟨w.heap.size + 1, 4, none⟩ = some (.slice bT mT dT) := y4
  have x6' : (W1.drewN m).cell? ⟨w.heap.size, 6, none⟩ = some (.slice aD mD cD) := x6
  have y6' : (W1.drewN m).cell? ⟨w.heap.size + 1, 6, none⟩ = some (.slice bD mD dD) := y6
  have HB2 : Hid (Below w.heap.size w (W1.drewN m)) := ⟨HB.out.os, HB.out.tape, HB.out.output, HB.out.size, HB.out.block⟩
  have HT2 : Hid (Els (NR W1) (W1.drewN m) aT mT (T.map Value.string)) := HT.out.drewN m
  have IT2 : Hid (Els (NR W1) (W1.drewN m) bT mT (T.map Value.string)) := IT.out.drewN m
  have HD2 : Hid (RowsAt (NR W1) (W1.drewN m) aD mD D) := HD.out
  have ID2 : Hid (RowsAt (NR W1) (W1.drewN m) bD mD D) := ID.out
  generalize NR W1 = P at *
  clear x0 x1 x2 x3 x4 x5 x6 y0 y1 y2 y3 y4 y5 y6 HB HT IT HD ID HC1 HC2 HL IL
  generalize W1.drewN m = W2 at *
  go_wp2_with fail
  refine (texts_same P aT bT mT cT dT T _ HT2.out IT2.out).mono ?_
  rintro e w3 ⟨rfl, m, rfl⟩
  have x6 : (W2.drewN m).cell? ⟨w.heap.size, 6, none⟩ = some (.slice aD mD cD) := x6'
  have y6 : (W2.drewN m).cell? ⟨w.heap.size + 1, 6, none⟩ = some (.slice bD mD dD) := y6'
  have HB3 : Hid (Below w.heap.size w (W2.drewN m)) := ⟨HB2.out.os, HB2.out.tape, HB2.out.output, HB2.out.size, HB2.out.block⟩
  have HD3 : Hid (RowsAt P (W2.drewN m) aD mD D) := HD2.out
  have ID3 : Hid (RowsAt P (W2.drewN m) bD mD D) := ID2.out
  clear x4' y4' x6' y6' HB2 HT2 IT2 HD2 ID2
  generalize W2.drewN m = W3 at *
  go_wp2_with fail
  refine (lists_same P aD bD mD cD dD D _ HD3.out ID3.out).mono ?_
  rintro e w4 ⟨rfl, m, rfl⟩
  go_wp2_with fail
  go_ret
  exact ⟨by simp, ⟨HB3.out.os, HB3.out.tape, HB3.out.output, HB3.out.size, HB3.out.block⟩⟩
end Wm
end Go.Proofs.YtinhpanpjamjlaaGreat
