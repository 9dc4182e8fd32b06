import Derived.Test.YtbjcckfhfbjchaaGreatCEt
/- Codec: known: the document's examples, by value. -/
namespace Go.Proofs.YtbjcckfhfbjchaaGreat
namespace Cd
open Go.RowKit Go.Deep

def litN : Gr.No := ⟨⟨⟨#[97]⟩, 0, 2, 10, 0, 4, 8, 0, (none, 0, 0), (none, 0, 0)⟩, [], []⟩
def litB : List Nat := [1, 112, 100, 1, 1, 97, 0, 2, 10, 0, 4, 8, 0, 0, 0]
theorem lit_cyc : Gr.cyc [litN] = 0 := by
  refine Gr.cyc_eq (.inl ⟨rfl, fun x h => ?_⟩)
  have he : ∀ y, Gr.eg [litN] y = [] := fun y => by
    cases y with
    | zero => rfl
    | succ y => rfl
  rcases h.cases with h | ⟨y, h, _⟩
  · rw [he] at h; cases h
  · rw [he] at h; cases h
theorem lit_cW : Gr.cW ⟨#[112]⟩ 100 [litN] = 0 := by decide
theorem lit_cN : Gr.cN 1 0 [] [litN] = (0, 0) := by decide
theorem lit_chk : Gr.chk ⟨#[112]⟩ 100 [litN] = (0, 0) := by
  unfold Gr.chk
  rw [if_neg (by rw [lit_cW]; decide), if_neg (by rw [show [litN].length = 1 from rfl, lit_cN]; decide), if_neg (by rw [lit_cyc]; decide)]
theorem lit_told : told (planS ⟨#[112]⟩ 100 [litN]) = litB := by decide
theorem lit_flt : (planS ⟨#[112]⟩ 100 [litN]).fault = 0 := by decide
theorem lit_R : takeR planR (newR litB) = ⟨litB, 15, 0⟩ := by rfl
theorem lit_V : planVal (newR litB) = pv ⟨#[112]⟩ 100 [litN] := by rfl
def pollO : Ov := { ov0 2 with la := 3, wo := 200 }
theorem poll_h : hldB pollO [2, 3] = true := by decide
theorem poll_told : told (opS pollO) = [2, 3, 200, 1] := by decide
theorem poll_flt : (opS pollO).fault = 0 := by decide
theorem poll_e : oE (emps ⟨#[]⟩ 0 0 ⟨#[]⟩ 3 200 0 0 0 0 0) [2, 3] = true := by
  unfold emps
  rw [ByteArray.toList_eq]
  decide
theorem lit_B : planB ⟨#[112]⟩ 100 [litN] = litB := by unfold planB; rw [if_pos (by rw [lit_chk]), lit_told]
theorem lit_C : planC ⟨#[112]⟩ 100 [litN] = 0 := by unfold planC; rw [if_pos (by rw [lit_chk]), lit_flt]
theorem lit_may : may (planVal (newR litB)) = true := by rw [lit_V, may_pv, lit_chk]; rfl
theorem lit_E : planE litB = 0 := by
  have h1 : planR (newR litB) = ⟨litB, 15, 0⟩ := by rfl
  have h2 : takeR (chkR may planR planVal) (newR litB) = ⟨litB, 15, 0⟩ := by
    unfold takeR
    rw [if_pos (show (newR litB).fault = 0 from rfl)]
    unfold chkR
    rw [lit_may, h1]
    rfl
  unfold planE
  rw [h2]
  rfl
theorem poll_chk (xs : List Gr.No) : opChk ⟨#[]⟩ 0 0 ⟨#[]⟩ 3 200 0 0 0 0 0 pollO xs = 0 := by
  unfold opChk
  rw [show prts pollO.ki = [2, 3] from rfl, poll_e, poll_h, if_neg (by simp), if_neg (by decide)]
theorem poll_B (k : Nat) (h : k = 0) : opB k pollO = [2, 3, 200, 1] := by unfold opB; rw [if_pos h, poll_told]
theorem poll_C (k : Nat) (h : k = 0) : opC k pollO = 0 := by unfold opC; rw [if_pos h, poll_flt]
theorem tick_E : opE [9, 0] = 0 := by
  have h : takeR opR (newR [9, 0]) = ⟨[9, 0], 2, 0⟩ := by rfl
  unfold opE
  rw [h]
  rfl
theorem tick_V : (opVal (newR [9, 0])).ki = 9 := by rfl
theorem none_chk (d : Ov) (hd : d.ki = 0) (xs : List Gr.No) (nm : ByteArray) (dl : Int) (x2 : Nat) (ky : ByteArray) (la wo tk : Int) (y2 : Nat) (ru lu ti : Int) : opChk nm dl x2 ky la wo tk y2 ru lu ti d xs = 121 := by
  unfold opChk
  rw [hd, if_pos (.inl rfl)]
end Cd
end Go.Proofs.YtbjcckfhfbjchaaGreat

/- Codec: little; Same as it is asked. -/
namespace Go.Proofs.YtbjcckfhfbjchaaGreat
namespace Cd
open Go.RowKit Go.Deep

def litC : Array Value := #[.string ⟨#[97]⟩, .int .i64 0, .int .i64 2, .int .i64 10, .int .i64 0, .int .i64 4, .int .i64 8, .int .i64 0, .slice none 0 0, .slice none 0 0]
theorem lit_row : litN.q.row.toArray = litC := rfl
theorem rd_lit {w : World} {g B : Nat} (h : w.heap[g]? = some (.cells litC 57 (0, 0))) (hB : g < B) : Gr.RdP B w (some ⟨g, 0, none⟩, 1, 1) [litN] := by
  refine ⟨rfl, (show (1 : Nat) ≤ 1172812402926 by decide), .inr ⟨g, 0, rfl, hB, fun i x hx => ?_⟩, fun x hx => ?_⟩
  · cases i with
    | zero =>
      simp only [List.getElem?_cons_zero, Option.some.injEq] at hx
      subst hx
      intro j u hu
      have e : (⟨g, 0 + 0 * 10 + j, none⟩ : Addr) = ⟨g, j, none⟩ := by simp
      rw [e]
      refine cell_blk h j ?_
      rw [← lit_row]
      simpa using hu
    | succ i => simp at hx
  · simp only [List.mem_singleton] at hx
    subst hx
    exact ⟨⟨rfl, by decide, .inl rfl⟩, ⟨rfl, by decide, .inl rfl⟩⟩
set_option maxRecDepth 10000 in
set_option maxHeartbeats 1000000 in
theorem little_any (w : World) : Calls Tryz.prog 20 #[] w fun en w' => ∃ g, en = .returned (.agg #[.string ⟨#[112]⟩, .int .i64 100, .slice (some ⟨g, 0, none⟩) 1 1]) ∧ Gr.RdP w'.heap.size w' (some ⟨g, 0, none⟩, 1, 1) [litN] ∧ Below w.heap.size w w' := by
  have hx0 := heap_alloc_new w (.cells #[.string ⟨#[]⟩, .int .i64 0, .slice none 0 0] 30)
  have hb0 : Below w.heap.size w (w.alloc (.cells #[.string ⟨#[]⟩, .int .i64 0, .slice none 0 0] 30)) := (Below.refl _ _).alloc (Nat.le_refl _) _
  have HX0 := hide hx0
  have HB0 := hide hb0
  have HS0 := hide (blk_lt hx0)
  clear hx0 hb0
  go_enter Tryz.func20, Tryz.ntmps20
  go_upto_region 1 with fail
  generalize w.alloc (.cells #[.string ⟨#[]⟩, .int .i64 0, .slice none 0 0] 30) = w0 at *
  have HN := hide (heap_alloc_new w0 (.cells litC 57))
  have HB1 := hide (HB0.out.trans (((Below.refl w0.heap.size w0).alloc (Nat.le_refl _) (.cells litC 57)).mono HB0.out.size))
  have HX1 := hide (blkB HX0.out ((Below.refl w0.heap.size w0).alloc (Nat.le_refl _) (.cells litC 57)))
  have HI : Hid ((Tryz.prog.info? 30).map (·.size) = some (#[.string ⟨#[112]⟩, .int .i64 100, .slice (some ⟨w0.heap.size, 0, none⟩) 1 1] : Array Value).size) := sizePn
  have HO := hide (onesPn ⟨#[112]⟩ 100 (some ⟨w0.heap.size, 0, none⟩) 1 1)
  go_wp2_with (first
    | (refine Go.Great.wpList_buildSliceTo rfl 28 57 1 #[(0, .tmp 1)] rfl w0.heap.size rfl (some 2) (by kernel_rfl) Tryz.underlying28 litC (by kernel_rfl) ?_)
    | (refine wpList_store_row rfl 30 _ _ rfl w.heap.size #[.string ⟨#[112]⟩, .int .i64 100, .slice (some ⟨w0.heap.size, 0, none⟩) 1 1] rfl rfl 30 _ HX1.out HI.out rfl HO.out ?_))
  have HXr := hide (setRow_heap _ w.heap.size _ #[.string ⟨#[112]⟩, .int .i64 100, .slice (some ⟨w0.heap.size, 0, none⟩) 1 1] _ _ HX1.out)
  have hk := keep_row (w0.alloc (.cells litC 57)) w.heap.size #[.string ⟨#[112]⟩, .int .i64 100, .slice (some ⟨w0.heap.size, 0, none⟩) 1 1]
  have hn := hk.blk HN.out (by show ¬ _ = _; have := blk_lt HX0.out; omega)
  exact bodyPost_ret (resPn rfl _ _ w.heap.size _ rfl rfl HXr.out) rfl ⟨w0.heap.size, rfl, rd_lit hn (blk_lt hn), HB1.out.trans (hk.below HB1.out.size fun i e => by have e : i = _ := e; omega)⟩
end Cd
end Go.Proofs.YtbjcckfhfbjchaaGreat
