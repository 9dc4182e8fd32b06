/- The laws' turned: the walk. -/
import Derived.Test.YtejbacgkipbmeaaDTrn
import Derived.Deep.CutRange
namespace Go.Proofs.Ytejbacgkipbmeaa
open Go.RowKit Go.Lib

/-- what turned answers -/
def TrE (q : Stp) (L : List (Int × List Nat)) (w : World) (e : Ending) (w' : World) : Prop := ∃ a' c', e = .returned (.slice a' (turnL q L).length c') ∧ RdS w.heap.size w' a' (turnL q L) ∧ Keep (fun _ => False) w w'
/-- a segment more behind a row of the call's own -/
theorem wp_append_seg {w : World} {ops : Array Oper} {rest : List Oper} {o : Oper} {a : Act} {Q : Exit → Act → World → Prop} (hgd : o.guard = none) (s x : Operand)
    (ho : o.op = .call { callee := .builtin .append, args := #[s, x], argTypes := #[35, 35] })
    (base : Nat) (v : Value) (n : Nat) (xs : List Value) (hs : a.eval s = v) (hown : w.ownsRow base 63 2 v n xs) (B : Nat) (k : Int) (ra : Option Addr) (m rc : Nat) (hx : a.eval x = .slice (some ⟨B, 0, none⟩) 1 1) (hq : w.heap[B]? = some (.cells #[.int .i64 k, .slice ra m rc] 63 (0, 0))) (hn : n ≤ 1099511627776) (hbase : base ≤ w.heap.size)
    (h : ∀ v' w', w'.ownsRow base 63 2 v' (n + 1) (xs ++ [.int .i64 k, .slice ra m rc]) → Keep (fun k => v.ownBlock = some k) w w' → wpList Try.prog ops Q rest (a.put o.dst v') w') : wpList Try.prog ops Q (o :: rest) a w := by
  obtain ⟨i0, hi, hz0, hz1, hz2⟩ := info_parts info_seg
  refine wpList_append_own_at _ hgd s x 35 ho base 63 i0 _ 2 32 Try.underlying35 hi hz0 hz1 hz2 rfl (by decide) v n xs hs hown ⟨B, 0, none⟩ 1 1 [.int .i64 k, .slice ra m rc] hx rfl (fun j u hu => ?_) (fun u hu => ?_) (by unfold maxLen; omega) (by omega) hbase ?_
  · have e : (⟨B, 0, none⟩ : Addr).add j = ⟨B, j, none⟩ := by unfold Addr.add; split <;> simp_all
    rw [e, cell_of_row _ _ _ _ _ _ hq]
    simpa using hu
  · simp at hu
    rcases hu with rfl | rfl <;> rfl
  · intro v' w' h1 h2 _ _
    exact h v' w' h1 (Keep.grown h2 fun k e => e)
/-- a round's end: a segment more -/
theorem seg_end {w wr w2 w4 : World} {q : Stp} {L : List (Int × List Nat)} {i : Nat} {xs : List Value} {u5 : Value} {gx : Nat} {xk : Int} {ra : Option Addr} {rc : Nat} {b : List Nat} {o : Obj}
    (HL : SegCells wr (w.heap.size + 1) xs (turnL q (L.take i)) ∧ Keep (fun _ => False) w wr ∧ wr.heap[w.heap.size]? = some (.cells #[.int .i64 q.which, .bool q.copy, .int .i64 q.what, .int .i64 q.seg, .int .i64 q.n, .int .u8 (q.mask : Nat), .slice q.ba q.b.length q.bc, .slice q.fa q.fate.length q.fc] 26 (0, 0))) (hrow : wr.ownsRow (w.heap.size + 1) 63 2 u5 i xs)
    (HN : SegNew wr w2 gx xk ra rc b) (HTk : turnL q (L.take (i + 1)) = turnL q (L.take i) ++ [(xk, b)]) (kg : Keep (fun k => u5.ownBlock = some k) (w2.alloc o) w4) :
    SegCells w4 (w.heap.size + 1) (xs ++ [.int .i64 xk, .slice ra b.length rc]) (turnL q (L.take (i + 1))) ∧ Keep (fun _ => False) w w4 ∧ w4.heap[w.heap.size]? = some (.cells #[.int .i64 q.which, .bool q.copy, .int .i64 q.what, .int .i64 q.seg, .int .i64 q.n, .int .u8 (q.mask : Nat), .slice q.ba q.b.length q.bc, .slice q.fa q.fate.length q.fc] 26 (0, 0)) := by
  have hlt : w.heap.size < wr.heap.size := (Array.getElem?_eq_some_iff.1 HL.2.2).1
  have k4 : Keep (fun i => u5.ownBlock = some i) w2 w4 := (Keep.alloc _ _ _).more kg
  have k24 : Keep (fun i => u5.ownBlock = some i) wr w4 := (HN.2.2.2.1.mono fun _ f => f.elim).more k4
  have hob : ∀ i, u5.ownBlock = some i → w.heap.size + 1 ≤ i ∧ i < wr.heap.size := fun i e => hrow.lt i e
  refine ⟨?_, HL.2.1.trans k24 fun i e => .inr (by have := (hob i e).1; omega), (k24.block w.heap.size hlt fun e => by have := (hob _ e).1; omega).trans HL.2.2⟩
  rw [HTk]
  have hsc := HL.1
  have hnm : ∀ v l, Row wr v l → ∀ g, v.ownBlock = some g → u5.ownBlock ≠ some g := fun v l hr g e1 e2 => by
    obtain ⟨cs, hc⟩ := row_blk hr e1
    rcases hrow.2 with ⟨h1, _⟩ | ⟨g', cap, cur, h1, _, h2, _⟩
    · rw [h1] at e2; cases e2
    · rw [h1] at e2
      have e3 : g' = g := by injection e2
      rw [e3, hc] at h2
      injection h2 with h2
      simp at h2
  have h5 : SegCells w4 (w.heap.size + 1) xs (turnL q (L.take i)) := ⟨hsc.1, fun j hj => by
    obtain ⟨a1, v, a2, a3, a4⟩ := hsc.2 j hj
    exact ⟨a1, v, a2, a3.keep k24 fun g hg e => hnm v _ a3 g hg e, a4⟩⟩
  refine h5.add xk (HN.2.2.1.keep k4 fun g hg e => ?_) fun g hg => ?_
  · have h6 := (HN.2.2.2.2.2 g hg).1
    have h7 := (hob g e).2
    omega
  · have h6 := (HN.2.2.2.2.2 g hg).1
    omega

set_option maxRecDepth 100000 in
set_option maxHeartbeats 8000000 in
theorem turned_any (w : World) (lo : Nat) (a : Option Addr) (c : Nat) (L : List (Int × List Nat)) (q : Stp) (h1 : RdS lo w a L) (hb : ∀ x ∈ L, x.2.length ≤ 67108864) (hm : q.mask < 256) :
    Calls Try.prog 13 #[.slice a L.length c, q.val] w (TrE q L w) := by
  have H1 := hide fun j hj => h1.row_ j hj fun x hx => by have := hb x hx; omega
  have HBL := hide hb
  have hl := h1.1
  obtain ⟨m, em⟩ : ∃ m, m = L.length := ⟨_, rfl⟩
  have HM := hide em
  rw [← em] at hl ⊢
  unfold Stp.val
  obtain ⟨i0, hi0', hz0, hz1, hz2⟩ := info_parts info_seg
  clear h1 hb em
  go_enter Try.func13, Try.ntmps13
  go_wp2
  go_loopw [5, 6] (fun v iv wr => ∃ (i : Nat) (xs : List Value), i ≤ m ∧ iv = .int .i64 (i : Nat) ∧ wr.ownsRow (w.heap.size + 1) 63 2 v i xs ∧ Hid (SegCells wr (w.heap.size + 1) xs (turnL q (L.take i)) ∧ Keep (fun _ => False) w wr ∧ wr.heap[w.heap.size]? = some (.cells #[.int .i64 q.which, .bool q.copy, .int .i64 q.what, .int .i64 q.seg, .int .i64 q.n, .int .u8 (q.mask : Nat), .slice q.ba q.b.length q.bc, .slice q.fa q.fate.length q.fc] 26 (0, 0)))) (fun _ iv _ => m - (intOf iv).toNat)
  case atStart => exact ⟨0, [], Nat.zero_le _, rfl, World.ownsRow_nil _ _ _ _, SegCells.nil _ _, Keep.alloc _ _ _, heap_alloc_new w _⟩
  case round => as_aux_lemma =>
    obtain ⟨i, xs, him, rfl, hrow, HL⟩ := hrel
    by_cases hi : i < m
    · as_aux_lemma =>
      have hik : i < L.length := by rw [← HM.out]; exact hi
      obtain ⟨g, rfl, g1, ba, bc, g2, g3⟩ := H1.out i hik
      have HBx := hide (HBL.out _ (List.getElem_mem hik))
      have HRw := hide (g3.keep HL.out.2.1 fun _ _ f => f)
      have hgl : g < w.heap.size := block_lt_of_cell g1
      have y1 : wr.drew.cell? ⟨g, i * 2, none⟩ = some (.int .i64 L[i].1) := HL.out.2.1.cell g1 fun f => f
      have y2 : wr.drew.cell? ⟨g, i * 2 + 1, none⟩ = some (.slice ba L[i].2.length bc) := HL.out.2.1.cell g2 fun f => f
      have hsz := HL.out.2.1.size
      have hi0 : (i : Int) < m := by omega
      have hw : wrap64 ((i : Int) + 1) = ((i + 1 : Nat) : Int) := wr' (by omega) (by omega) (by omega)
      have HI := hide (show i + 1 ≤ m by omega)
      have HTk : Hid (turnL q (L.take (i + 1)) = turnL q (L.take i) ++ [(L[i].1, turn1 q L[i].2 L[i].1)]) := by
        show _ = _
        unfold turnL
        rw [List.take_succ_eq_append_getElem hik, List.map_append]
        rfl
      generalize L[i] = x at *
      obtain ⟨xk, xb⟩ := x
      simp only at y1 y2 HRw HBx HTk
      clear g1 g2 g3 him
      go_upto_region 5 with fail
      go_cut [7] from 8 to 62 (fun v wx => ∃ gx ra rc, v = .pointer (some ⟨gx, 0, none⟩) ∧ Hid (SegNew wr wx gx xk ra rc xb))
      case first => as_aux_lemma =>
        go_region_held3 (fun wx => wx.cell? ⟨g, i * 2, none⟩ = some (.int .i64 xk) ∧ wx.cell? ⟨g, i * 2 + 1, none⟩ = some (.slice ba xb.length bc))
          (first
            | (exact ⟨y1, y2⟩)
            | (exact ⟨((Keep.alloc (fun _ => False) _ _).cell y1 fun f => f), ((Keep.alloc (fun _ => False) _ _).cell y2 fun f => f)⟩)
            | (exact ⟨((Keep.alloc (fun _ => False) _ _).cell ((Keep.alloc (fun _ => False) _ _).cell y1 fun f => f) fun f => f), ((Keep.alloc (fun _ => False) _ _).cell ((Keep.alloc (fun _ => False) _ _).cell y2 fun f => f) fun f => f)⟩)
            | (exact ⟨(hkc.cell ((Keep.alloc (fun _ => False) _ _).cell y1 fun f => f) (fun e => by have e : g = _ := e; omega)), (hkc.cell ((Keep.alloc (fun _ => False) _ _).cell y2 fun f => f) (fun e => by have e : g = _ := e; omega))⟩)
            | (exact ⟨(hkc.cell ((Keep.alloc (fun _ => False) _ _).cell ((Keep.alloc (fun _ => False) _ _).cell y1 fun f => f) fun f => f) (fun e => by have e : g = _ := e; omega)), (hkc.cell ((Keep.alloc (fun _ => False) _ _).cell ((Keep.alloc (fun _ => False) _ _).cell y2 fun f => f) fun f => f) (fun e => by have e : g = _ := e; omega))⟩)
            | (exact ⟨((Keep.alloc (fun _ => False) _ _).cell (hkc.cell ((Keep.alloc (fun _ => False) _ _).cell y1 fun f => f) (fun e => by have e : g = _ := e; omega)) fun f => f), ((Keep.alloc (fun _ => False) _ _).cell (hkc.cell ((Keep.alloc (fun _ => False) _ _).cell y2 fun f => f) (fun e => by have e : g = _ := e; omega)) fun f => f)⟩)
            | (exact ⟨((Keep.setCell (S := fun j => j = wr.heap.size) _ rfl _).cell ((Keep.setCell (S := fun j => j = wr.heap.size) _ rfl _).cell (hkc.cell ((Keep.alloc (fun _ => False) _ _).cell ((Keep.alloc (fun _ => False) _ _).cell y1 fun f => f) fun f => f) (fun e => by have e : g = _ := e; omega)) (fun e => by have e : g = _ := e; omega)) (fun e => by have e : g = _ := e; omega)), ((Keep.setCell (S := fun j => j = wr.heap.size) _ rfl _).cell ((Keep.setCell (S := fun j => j = wr.heap.size) _ rfl _).cell (hkc.cell ((Keep.alloc (fun _ => False) _ _).cell ((Keep.alloc (fun _ => False) _ _).cell y2 fun f => f) fun f => f) (fun e => by have e : g = _ := e; omega)) (fun e => by have e : g = _ := e; omega)) (fun e => by have e : g = _ := e; omega))⟩)
            | (exact ⟨((Keep.setCell (S := fun j => j = (wr.heap.size + 1)) _ rfl _).cell ((Keep.setCell (S := fun j => j = (wr.heap.size + 1)) _ rfl _).cell (hkc.cell ((Keep.alloc (fun _ => False) _ _).cell ((Keep.alloc (fun _ => False) _ _).cell y1 fun f => f) fun f => f) (fun e => by have e : g = _ := e; omega)) (fun e => by have e : g = _ := e; omega)) (fun e => by have e : g = _ := e; omega)), ((Keep.setCell (S := fun j => j = (wr.heap.size + 1)) _ rfl _).cell ((Keep.setCell (S := fun j => j = (wr.heap.size + 1)) _ rfl _).cell (hkc.cell ((Keep.alloc (fun _ => False) _ _).cell ((Keep.alloc (fun _ => False) _ _).cell y2 fun f => f) fun f => f) (fun e => by have e : g = _ := e; omega)) (fun e => by have e : g = _ := e; omega)) (fun e => by have e : g = _ := e; omega))⟩)
            | (exact ⟨((Keep.setCell (S := fun j => j = w1.heap.size) _ rfl _).cell ((Keep.setCell (S := fun j => j = w1.heap.size) _ rfl _).cell ((Keep.alloc (fun _ => False) _ _).cell (hkc.cell ((Keep.alloc (fun _ => False) _ _).cell y1 fun f => f) (fun e => by have e : g = _ := e; omega)) fun f => f) (fun e => by have e : g = _ := e; omega)) (fun e => by have e : g = _ := e; omega)), ((Keep.setCell (S := fun j => j = w1.heap.size) _ rfl _).cell ((Keep.setCell (S := fun j => j = w1.heap.size) _ rfl _).cell ((Keep.alloc (fun _ => False) _ _).cell (hkc.cell ((Keep.alloc (fun _ => False) _ _).cell y2 fun f => f) (fun e => by have e : g = _ := e; omega)) fun f => f) (fun e => by have e : g = _ := e; omega)) (fun e => by have e : g = _ := e; omega))⟩)
            | go_keep)
          (first
            | (refine step_copy rfl _ _ rfl (wr.heap.size) rfl (heap_alloc_new wr _) _ xb rfl (show Row (wr.alloc (.cells #[] 5 (0, 0))) (.slice ba xb.length bc) xb from HRw.out.keep (Keep.alloc (fun _ => False) wr _) fun _ _ f => f) HBx.out ?_; intro ra rc w1 hrow1 hkc hloc; have hs1 : wr.heap.size + 1 ≤ w1.heap.size := Nat.le_trans (by simp) (show (wr.alloc (.cells #[] 5 (0, 0))).heap.size ≤ w1.heap.size from hkc.size); have hng : g ≠ w1.heap.size := by omega)
            | (refine step_copy rfl _ _ rfl (wr.heap.size + 1) rfl (heap_alloc2_new wr _ _) _ xb rfl (show Row ((wr.alloc (.cells #[.int .i64 0, .slice none 0 0] 63 (0, 0))).alloc (.cells #[] 5 (0, 0))) (.slice ba xb.length bc) xb from HRw.out.keep ((Keep.alloc (fun _ => False) wr _).more (Keep.alloc (fun _ => False) _ _)) fun _ _ f => f) HBx.out ?_; intro ra rc w1 hrow1 hkc hloc; have hs1 : wr.heap.size + 1 ≤ w1.heap.size := Nat.le_trans (by simp) (show ((wr.alloc (.cells #[.int .i64 0, .slice none 0 0] 63 (0, 0))).alloc (.cells #[] 5 (0, 0))).heap.size ≤ w1.heap.size from hkc.size); have hxb : w1.heap[wr.heap.size]? = some (.cells #[.int .i64 0, .slice none 0 0] 63 (0, 0)) := (hkc.block wr.heap.size (show wr.heap.size < ((wr.alloc _).alloc _).heap.size by simp; omega) (show ¬ wr.heap.size = wr.heap.size + 1 by omega)).trans (heap_alloc2_old wr _ _); have hx0 : w1.cell? ⟨wr.heap.size, 0, none⟩ = some (.int .i64 0) := by rw [cell_of_row _ _ _ _ _ _ hxb]; rfl
               have hx1 : w1.cell? ⟨wr.heap.size, 1, none⟩ = some (.slice none 0 0) := by rw [cell_of_row _ _ _ _ _ _ hxb]; rfl
               have hf0 : ∀ j, w1.frozen? ⟨wr.heap.size, j, none⟩ = false := fun j => by unfold World.frozen?; rw [hxb]; simp
               have hng : g ≠ wr.heap.size := by omega
               clear hxb)
            | (refine step_copy rfl _ _ rfl (wr.heap.size) rfl (heap_alloc2_old wr _ _) _ xb rfl (show Row ((wr.alloc (.cells #[] 5 (0, 0))).alloc (.cells #[.int .i64 0, .slice none 0 0] 63 (0, 0))) (.slice ba xb.length bc) xb from HRw.out.keep ((Keep.alloc (fun _ => False) wr _).more (Keep.alloc (fun _ => False) _ _)) fun _ _ f => f) HBx.out ?_; intro ra rc w1 hrow1 hkc hloc; have hs1 : wr.heap.size + 1 ≤ w1.heap.size := Nat.le_trans (by simp) (show ((wr.alloc (.cells #[] 5 (0, 0))).alloc (.cells #[.int .i64 0, .slice none 0 0] 63 (0, 0))).heap.size ≤ w1.heap.size from hkc.size); have hxb : w1.heap[wr.heap.size + 1]? = some (.cells #[.int .i64 0, .slice none 0 0] 63 (0, 0)) := (hkc.block (wr.heap.size + 1) (show wr.heap.size + 1 < ((wr.alloc _).alloc _).heap.size by simp) (show ¬ wr.heap.size + 1 = wr.heap.size by omega)).trans (heap_alloc2_new wr _ _); have hx0 : w1.cell? ⟨wr.heap.size + 1, 0, none⟩ = some (.int .i64 0) := by rw [cell_of_row _ _ _ _ _ _ hxb]; rfl
               have hx1 : w1.cell? ⟨wr.heap.size + 1, 1, none⟩ = some (.slice none 0 0) := by rw [cell_of_row _ _ _ _ _ _ hxb]; rfl
               have hf0 : ∀ j, w1.frozen? ⟨wr.heap.size + 1, j, none⟩ = false := fun j => by unfold World.frozen?; rw [hxb]; simp
               have hng : g ≠ wr.heap.size + 1 := by omega
               clear hxb))
        · have HN := hide (segNew_new (k := xk) ((Keep.alloc (fun _ => False) wr _).more (Keep.drew _ _)) hkc hrow1 hloc (Nat.le_refl _))
          go_wp2
          go_meet
          case rel => exact ⟨_, ra, rc, rfl, HN.out⟩
        · have HN : Hid (SegNew wr ((w1.setCell ⟨wr.heap.size + 1, 0, none⟩ (.int .i64 xk)).setCell ⟨wr.heap.size + 1, 1, none⟩ (.slice ra xb.length rc)) (wr.heap.size + 1) xk ra rc xb) :=
            segNew_set (((Keep.alloc (fun _ => False) wr _).more (Keep.alloc _ _ _)).more (Keep.drew _ _)) hkc hrow1 hloc (Nat.le_refl _) (by omega) (show wr.heap.size + 1 < ((wr.alloc _).alloc _).heap.size by simp) (by omega)
              ((Keep.setCell (S := fun j => j = wr.heap.size + 1) _ rfl _).more (Keep.setCell (S := fun j => j = wr.heap.size + 1) _ rfl _)) (by rw [World.cell?_setCell_other _ _ _ _ (by simp)]; exact World.cell?_setCell_same _ _ _ hx0) (World.cell?_setCell_same _ _ _ ((World.cell?_setCell_other _ _ _ _ (by simp)).trans hx1))
          go_wp2
          go_meet
          case rel => exact ⟨_, ra, rc, rfl, HN.out⟩
        · have HN : Hid (SegNew wr ((w1.setCell ⟨wr.heap.size, 0, none⟩ (.int .i64 xk)).setCell ⟨wr.heap.size, 1, none⟩ (.slice ra xb.length rc)) wr.heap.size xk ra rc xb) :=
            segNew_set (((Keep.alloc (fun _ => False) wr _).more (Keep.alloc _ _ _)).more (Keep.drew _ _)) hkc hrow1 hloc (by omega) (Nat.le_refl _) (show wr.heap.size < ((wr.alloc _).alloc _).heap.size by simp; omega) (by omega)
              ((Keep.setCell (S := fun j => j = wr.heap.size) _ rfl _).more (Keep.setCell (S := fun j => j = wr.heap.size) _ rfl _)) (by rw [World.cell?_setCell_other _ _ _ _ (by simp)]; exact World.cell?_setCell_same _ _ _ hx0) (World.cell?_setCell_same _ _ _ ((World.cell?_setCell_other _ _ _ _ (by simp)).trans hx1))
          go_wp2
          go_meet
          case rel => exact ⟨_, ra, rc, rfl, HN.out⟩
      case rest => as_aux_lemma =>
        obtain ⟨gx, ra, rc, rfl, HN⟩ := hcut
        have p0 : wc.cell? ⟨gx, 0, none⟩ = some (.int .i64 xk) := HN.out.1
        have p1 : wc.cell? ⟨gx, 1, none⟩ = some (.slice ra xb.length rc) := HN.out.2.1
        have s3 : wc.cell? ⟨w.heap.size, 3, none⟩ = some (.int .i64 q.seg) := HN.out.2.2.2.1.cell (by rw [cell_of_row _ _ _ _ _ _ HL.out.2.2]; rfl) fun f => f
        have s4 : wc.cell? ⟨w.heap.size, 4, none⟩ = some (.int .i64 q.n) := HN.out.2.2.2.1.cell (by rw [cell_of_row _ _ _ _ _ _ HL.out.2.2]; rfl) fun f => f
        have s5 : wc.cell? ⟨w.heap.size, 5, none⟩ = some (.int .u8 (q.mask : Nat)) := HN.out.2.2.2.1.cell (by rw [cell_of_row _ _ _ _ _ _ HL.out.2.2]; rfl) fun f => f
        clear y1 y2 HRw hgl
        by_cases t1 : xk = q.seg
        case neg =>
          as_aux_lemma =>
          have t1' : (xk == q.seg) = false := by simpa using t1
          have HT : Hid (turn1 q xb xk = xb) := by show _ = _; unfold turn1; rw [if_neg fun h => t1 h.1]
          clear t1
          have hq8 := HN.out.1
          have hr8 := HN.out.2.1
          have hrow3 := ownsRow_keep hrow HN.out.2.2.2.1 fun _ _ f => f
          have OA := hide (hrow3.alloc (.cells #[.int .i64 xk, .slice ra xb.length rc] 63 (0, 0)))
          have BA := hide (heap_alloc_new wc (.cells #[.int .i64 xk, .slice ra xb.length rc] 63 (0, 0)))
          have hsz3 := HN.out.2.2.2.1.size
          have hlt : w.heap.size < wr.heap.size := (Array.getElem?_eq_some_iff.1 HL.out.2.2).1
          have hbs : w.heap.size + 1 ≤ (wc.alloc (.cells #[.int .i64 xk, .slice ra xb.length rc] 63 (0, 0))).heap.size := by simp; omega
          have hin : i ≤ 1099511627776 := by have := HI.out; omega
          clear hrow3
          go_wp2_with (at_builtin; go_must (refine wp_append_seg rfl _ _ rfl (w.heap.size + 1) u5 i xs rfl OA.out wc.heap.size xk ra xb.length rc rfl BA.out hin hbs ?_); intro v' w4 hown' kg; have HO := hide hown'; have HG := hide kg; clear hown' kg)
          have HE := hide (seg_end (q := q) (L := L) HL.out hrow HN.out (by rw [HTk.out, HT.out]) HG.out)
          go_roundw
          case rel => exact ⟨i + 1, _, HI.out, rfl, HO.out, HE.out⟩
          case measure => show m - (((i + 1 : Nat) : Int)).toNat < m - ((i : Int)).toNat; have := HI.out; omega
        have t1' : (xk == q.seg) = true := by simpa using t1
        by_cases t2 : 0 ≤ q.n
        case neg =>
          as_aux_lemma =>
          have t2' : decide (0 ≤ q.n) = false := decide_eq_false t2
          have HT : Hid (turn1 q xb xk = xb) := by show _ = _; unfold turn1; rw [if_neg fun h => t2 h.2.1]
          clear t1
          have hq8 := HN.out.1
          have hr8 := HN.out.2.1
          have hrow3 := ownsRow_keep hrow HN.out.2.2.2.1 fun _ _ f => f
          have OA := hide (hrow3.alloc (.cells #[.int .i64 xk, .slice ra xb.length rc] 63 (0, 0)))
          have BA := hide (heap_alloc_new wc (.cells #[.int .i64 xk, .slice ra xb.length rc] 63 (0, 0)))
          have hsz3 := HN.out.2.2.2.1.size
          have hlt : w.heap.size < wr.heap.size := (Array.getElem?_eq_some_iff.1 HL.out.2.2).1
          have hbs : w.heap.size + 1 ≤ (wc.alloc (.cells #[.int .i64 xk, .slice ra xb.length rc] 63 (0, 0))).heap.size := by simp; omega
          have hin : i ≤ 1099511627776 := by have := HI.out; omega
          clear hrow3
          go_wp2_with (at_builtin; go_must (refine wp_append_seg rfl _ _ rfl (w.heap.size + 1) u5 i xs rfl OA.out wc.heap.size xk ra xb.length rc rfl BA.out hin hbs ?_); intro v' w4 hown' kg; have HO := hide hown'; have HG := hide kg; clear hown' kg)
          have HE := hide (seg_end (q := q) (L := L) HL.out hrow HN.out (by rw [HTk.out, HT.out]) HG.out)
          go_roundw
          case rel => exact ⟨i + 1, _, HI.out, rfl, HO.out, HE.out⟩
          case measure => show m - (((i + 1 : Nat) : Int)).toNat < m - ((i : Int)).toNat; have := HI.out; omega
        by_cases t3 : q.n < (xb.length : Int)
        case neg =>
          as_aux_lemma =>
          have t3' : decide (q.n < (xb.length : Int)) = false := decide_eq_false t3
          have HT : Hid (turn1 q xb xk = xb) := by show _ = _; unfold turn1; rw [if_neg fun h => t3 h.2.2]
          clear t1
          have hq8 := HN.out.1
          have hr8 := HN.out.2.1
          have hrow3 := ownsRow_keep hrow HN.out.2.2.2.1 fun _ _ f => f
          have OA := hide (hrow3.alloc (.cells #[.int .i64 xk, .slice ra xb.length rc] 63 (0, 0)))
          have BA := hide (heap_alloc_new wc (.cells #[.int .i64 xk, .slice ra xb.length rc] 63 (0, 0)))
          have hsz3 := HN.out.2.2.2.1.size
          have hlt : w.heap.size < wr.heap.size := (Array.getElem?_eq_some_iff.1 HL.out.2.2).1
          have hbs : w.heap.size + 1 ≤ (wc.alloc (.cells #[.int .i64 xk, .slice ra xb.length rc] 63 (0, 0))).heap.size := by simp; omega
          have hin : i ≤ 1099511627776 := by have := HI.out; omega
          clear hrow3
          go_wp2_with (at_builtin; go_must (refine wp_append_seg rfl _ _ rfl (w.heap.size + 1) u5 i xs rfl OA.out wc.heap.size xk ra xb.length rc rfl BA.out hin hbs ?_); intro v' w4 hown' kg; have HO := hide hown'; have HG := hide kg; clear hown' kg)
          have HE := hide (seg_end (q := q) (L := L) HL.out hrow HN.out (by rw [HTk.out, HT.out]) HG.out)
          go_roundw
          case rel => exact ⟨i + 1, _, HI.out, rfl, HO.out, HE.out⟩
          case measure => show m - (((i + 1 : Nat) : Int)).toNat < m - ((i : Int)).toNat; have := HI.out; omega
        have HT : Hid (turn1 q xb xk = flip xb q.n.toNat q.mask) := by show _ = _; unfold turn1; rw [if_pos ⟨t1, t2, t3⟩]
        rcases HN.out.2.2.1.parts with ⟨_, e⟩ | ⟨gb, cap, cur, hv, hg, _⟩
        · subst e; exact absurd t3 (by simp; omega)
        · injection hv with hv1 _ hv2
          subst hv1 hv2
          obtain ⟨ni, eni⟩ : ∃ ni : Nat, q.n = ni := ⟨q.n.toNat, by omega⟩
          rw [eni] at s4 t2 t3 HT
          rw [Int.toNat_natCast] at HT
          clear eni
          have hni : ni < xb.length := by omega
          have hcell : wc.cell? ⟨gb, ni, none⟩ = some (.int .u8 ((xb.getD ni 0 : Nat) : Int)) := by
            obtain ⟨a, c, e, hrd, _⟩ := HN.out.2.2.1.rd (by have := HBx.out; omega)
            injection e with e _ _
            subst e
            have := hrd.cells ni _ (B8_at xb ni hni)
            rw [Addr.add_lit, Nat.zero_add] at this
            exact this
          have hfz : wc.frozen? ⟨gb, ni, none⟩ = false := frozen_blk hg ni
          have hb : xb.getD ni 0 < 256 := by
            have : xb.getD ni 0 = xb[ni] := by simp [List.getD, hni]
            rw [this]
            exact HN.out.2.2.1.2 _ (List.getElem_mem hni)
          have hx := xor_u8 hb hm
          have HN3 := hide (HN.out.turn ni q.mask hni hm)
          obtain ⟨x, ex⟩ : ∃ x, x = xb.getD ni 0 := ⟨_, rfl⟩
          rw [← ex] at HN3 hcell hb hx
          clear ex
          clear hg
          go_wp2
          go_region
          rw [u8_xor_nat x _ hb hm]
          clear hcell hfz hb hx p0 p1 s3 s4 s5 t1 t2 t3
          generalize wc.setCell ⟨gb, ni, none⟩ (.int .u8 ((x ^^^ q.mask : Nat) : Int)) = w3 at HN3 ⊢
          have hq8 := HN3.out.1
          have hr8 := HN3.out.2.1
          have hrow3 := ownsRow_keep hrow HN3.out.2.2.2.1 fun _ _ f => f
          have OA := hide (hrow3.alloc (.cells #[.int .i64 xk, .slice (some ⟨gb, 0, none⟩) (flip xb ni q.mask).length rc] 63 (0, 0)))
          have BA := hide (heap_alloc_new w3 (.cells #[.int .i64 xk, .slice (some ⟨gb, 0, none⟩) (flip xb ni q.mask).length rc] 63 (0, 0)))
          have hsz3 := HN3.out.2.2.2.1.size
          have hlt : w.heap.size < wr.heap.size := (Array.getElem?_eq_some_iff.1 HL.out.2.2).1
          have hbs : w.heap.size + 1 ≤ (w3.alloc (.cells #[.int .i64 xk, .slice (some ⟨gb, 0, none⟩) (flip xb ni q.mask).length rc] 63 (0, 0))).heap.size := by simp; omega
          have hin : i ≤ 1099511627776 := by have := HI.out; omega
          clear hrow3
          go_wp2_with (at_builtin; go_must (refine wp_append_seg rfl _ _ rfl (w.heap.size + 1) u5 i xs rfl OA.out w3.heap.size xk (some ⟨gb, 0, none⟩) (flip xb ni q.mask).length rc rfl BA.out hin hbs ?_); intro v' w4 hown' kg; have HO := hide hown'; have HG := hide kg; clear hown' kg)
          have HE := hide (seg_end (q := q) (L := L) HL.out hrow HN3.out (by rw [HTk.out, HT.out]) ((Keep.drew _ _).more HG.out))
          go_roundw
          case rel => exact ⟨i + 1, _, HI.out, rfl, HO.out, HE.out⟩
          case measure => show m - (((i + 1 : Nat) : Int)).toNat < m - ((i : Int)).toNat; have := HI.out; omega
    · obtain rfl : i = m := by omega
      have hqq : ¬ (i : Int) < i := by omega
      obtain ⟨av', cv', hv⟩ := ownsRow_shape hrow
      subst hv
      have HE : Hid (∃ a' c', Ending.returned (.slice av' i cv') = .returned (.slice a' (turnL q L).length c') ∧ RdS w.heap.size wr a' (turnL q L) ∧ Keep (fun _ => False) w wr) := by
        have hsc := HL.out.1
        rw [HM.out, List.take_length] at hsc
        have hll : (turnL q L).length = i := by unfold turnL; rw [List.length_map]; exact HM.out.symm
        refine ⟨av', cv', by rw [hll], ?_, HL.out.2.1⟩
        exact (rdS_of hrow hsc (by rw [hll]; exact hl)).low (by omega)
      clear hi hrow HL
      go_wp2
      go_ret
      exact HE.out

end Go.Proofs.Ytejbacgkipbmeaa
