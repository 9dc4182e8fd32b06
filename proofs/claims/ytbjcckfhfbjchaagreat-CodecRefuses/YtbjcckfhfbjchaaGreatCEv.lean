import Derived.Test.YtbjcckfhfbjchaaGreatCGd
import Derived.Test.YtbjcckfhfbjchaaGreatCEt
/- Codec: bytes of what may be: mathematics, and the calls. -/
namespace Go.Proofs.YtbjcckfhfbjchaaGreat
namespace Cd
open Go.RowKit Go.Deep

def opBs (d : Ov) : List Nat := (opS d).laid
def plBs (d : Pv) : List Nat := (planW d ⟨[], room 8192, 0⟩).laid
theorem opS_ok {d : Ov} (h : OpOk d) : opS d = ⟨opBs d, room 8192, 0⟩ ∧ 1 ≤ (opBs d).length ∧ (opBs d).length ≤ 5170 := by
  obtain ⟨bs, b1, b2, b3⟩ := fit_op d h ⟨[], room 8192, 0⟩ rfl (by show 0 + 5170 ≤ room 8192; decide)
  have b3 : opS d = ⟨[] ++ bs, room 8192, 0⟩ := b3
  unfold opBs
  rw [b3]
  exact ⟨rfl, b1, b2⟩
theorem plS_ok {d : Pv} (h : may d = true) : planW d ⟨[], room 8192, 0⟩ = ⟨plBs d, room 8192, 0⟩ ∧ 1 ≤ (plBs d).length ∧ (plBs d).length ≤ 5104 := by
  obtain ⟨bs, b1, b2, b3⟩ := fit_may d h ⟨[], room 8192, 0⟩ rfl (by show 0 + 5104 ≤ room 8192; decide)
  have b3 : planW d ⟨[], room 8192, 0⟩ = ⟨[] ++ bs, room 8192, 0⟩ := b3
  unfold plBs
  rw [b3]
  exact ⟨rfl, b1, b2⟩
/-- these bytes, ahead of whatever others, are taken as that -/
theorem op_takes {d : Ov} (h : OpOk d) (t : List Nat) : opR ⟨opBs d ++ t, 0, 0⟩ = ⟨opBs d ++ t, (opBs d).length, 0⟩ ∧ opVal ⟨opBs d ++ t, 0, 0⟩ = d := by
  obtain ⟨e1, e2, e3⟩ := opS_ok h
  have hm : d.ki = 1 → may d.pl = true := fun hk => h.pt 0 (by rw [hk]; exact prts_one rfl)
  obtain ⟨bs, b1, b2, b3, b4⟩ := op_wr d h.lu hm ⟨[], room 8192, 0⟩ rfl (by show 0 ≤ _; exact Nat.zero_le _) (by decide) (by show (opS d).fault = 0; rw [e1])
  have b3 : opS d = ⟨[] ++ bs, room 8192, 0⟩ := b3
  rw [e1] at b3
  have eb : opBs d = bs := by injection b3
  obtain ⟨c1, c2⟩ := b4 ⟨opBs d ++ t, 0, 0⟩ t rfl (by rw [← eb]; rfl)
  rw [c1, c2, h.nf, ← eb]
  exact ⟨by simp [K.RS.go], rfl⟩
theorem pl_takes {d : Pv} (h : may d = true) (t : List Nat) : chkR may planR planVal ⟨plBs d ++ t, 0, 0⟩ = ⟨plBs d ++ t, (plBs d).length, 0⟩ ∧ planVal ⟨plBs d ++ t, 0, 0⟩ = d := by
  obtain ⟨e1, e2, e3⟩ := plS_ok h
  obtain ⟨bs, b1, b2, b3, b4⟩ := wr_plan d ⟨[], room 8192, 0⟩ rfl (by show 0 ≤ _; exact Nat.zero_le _) (by decide) (by rw [e1])
  have b3 : planW d ⟨[], room 8192, 0⟩ = ⟨[] ++ bs, room 8192, 0⟩ := b3
  rw [e1] at b3
  have eb : plBs d = bs := by injection b3
  obtain ⟨c1, c2⟩ := b4 ⟨plBs d ++ t, 0, 0⟩ t rfl (by rw [← eb]; rfl)
  have hc : chkR may planR planVal ⟨plBs d ++ t, 0, 0⟩ = planR ⟨plBs d ++ t, 0, 0⟩ := by
    unfold chkR
    rw [c2, h, if_neg (by simp)]
  rw [hc, c1, c2, ← eb]
  exact ⟨by simp [K.RS.go], rfl⟩
theorem newR_ok {l : List Nat} (h : l.length ≤ 16777216) : newR l = ⟨l, 0, 0⟩ := by unfold newR; rw [if_pos h]
theorem op_back {d : Ov} (h : OpOk d) : opE (opBs d) = 0 ∧ opVal (newR (opBs d)) = d := by
  have e3 := (opS_ok h).2.2
  have ht := op_takes h []
  rw [List.append_nil] at ht
  rw [newR_ok (by omega)]
  refine ⟨?_, ht.2⟩
  unfold opE
  rw [newR_ok (by omega), takeR_run rfl, ht.1]
  unfold endR
  rw [if_neg (by simp)]
theorem pl_back {d : Pv} (h : may d = true) : planE (plBs d) = 0 ∧ planVal (newR (plBs d)) = d := by
  have e3 := (plS_ok h).2.2
  have ht := pl_takes h []
  rw [List.append_nil] at ht
  rw [newR_ok (by omega)]
  refine ⟨?_, ht.2⟩
  unfold planE
  rw [newR_ok (by omega), takeR_run rfl, ht.1]
  unfold endR
  rw [if_neg (by simp)]
theorem op_more {d : Ov} (h : OpOk d) (x : Nat) : opE (opBs d ++ [x]) ≠ 0 := by
  have e3 := (opS_ok h).2.2
  have ht := op_takes h [x]
  unfold opE
  rw [newR_ok (by simp; omega), takeR_run rfl, ht.1]
  unfold endR
  rw [if_pos ⟨rfl, by simp⟩]
  decide
theorem pl_more {d : Pv} (h : may d = true) (x : Nat) : planE (plBs d ++ [x]) ≠ 0 := by
  have e3 := (plS_ok h).2.2
  have ht := pl_takes h [x]
  unfold planE
  rw [newR_ok (by simp; omega), takeR_run rfl, ht.1]
  unfold endR
  rw [if_pos ⟨rfl, by simp⟩]
  decide
/-- bytes that begin others are the same -/
theorem op_pre {d e : Ov} (h : OpOk d) (g : OpOk e) {t : List Nat} (ht : opBs e = opBs d ++ t) : d = e ∧ t = [] := by
  have h1 := op_takes h t
  have h2 := op_takes g []
  rw [List.append_nil, ht, h1.1, h1.2] at h2
  refine ⟨h2.2, ?_⟩
  have h3 : (opBs d).length = (opBs d ++ t).length := by have := h2.1; injection this
  simp at h3
  exact h3
theorem pl_pre {d e : Pv} (h : may d = true) (g : may e = true) {t : List Nat} (ht : plBs e = plBs d ++ t) : d = e ∧ t = [] := by
  have h1 := pl_takes h t
  have h2 := pl_takes g []
  rw [List.append_nil, ht, h1.1, h1.2] at h2
  refine ⟨h2.2, ?_⟩
  have h3 : (plBs d).length = (plBs d ++ t).length := by have := h2.1; injection this
  simp at h3
  exact h3
theorem whole_opB {l : List Nat} (hl : ∀ d ∈ l, d < 256) (he : opE l = 0) : OvK (opVal (newR l)) ∧ opBs (opVal (newR l)) = l := by
  obtain ⟨h1, h2, _⟩ := whole_op hl he
  exact ⟨h1, by unfold opBs; rw [h2]⟩
theorem whole_plB {l : List Nat} (hl : ∀ d ∈ l, d < 256) (he : planE l = 0) : PvK (planVal (newR l)) ∧ may (planVal (newR l)) = true ∧ plBs (planVal (newR l)) = l := by
  obtain ⟨h1, h2, h3, _⟩ := whole_plan hl he
  exact ⟨h1, h2, by unfold plBs; rw [h3]⟩
theorem op_less {d : Ov} (h : OpOk d) (hd : ∀ x ∈ opBs d, x < 256) : opE ((opBs d).take ((opBs d).length - 1)) ≠ 0 := fun he => by
  have e2 := (opS_ok h).2.1
  obtain ⟨k1, k2⟩ := whole_opB (fun x hx => hd x (List.mem_of_mem_take hx)) he
  have := (op_pre k1.ok h (t := (opBs d).drop ((opBs d).length - 1)) (by rw [k2, List.take_append_drop])).2
  have := congrArg List.length this
  simp at this
  omega
theorem pl_less {d : Pv} (h : may d = true) (hd : ∀ x ∈ plBs d, x < 256) : planE ((plBs d).take ((plBs d).length - 1)) ≠ 0 := fun he => by
  have e2 := (plS_ok h).2.1
  obtain ⟨_, k1, k2⟩ := whole_plB (fun x hx => hd x (List.mem_of_mem_take hx)) he
  have := (pl_pre k1 h (t := (plBs d).drop ((plBs d).length - 1)) (by rw [k2, List.take_append_drop])).2
  have := congrArg List.length this
  simp at this
  omega
theorem check_good {d : Ov} {w : World} {v : Value} (h : OvV d w v) (hk : OvK d) : Calls Tryz.prog 13 #[v] w fun en w' => en = .returned (.int .i64 0) ∧ Below w.heap.size w w' := by
  obtain ⟨ki, nm, dl, x1, x2, x3, ky, la, wo, tk, y1, y2, y3, ru, lu, ti, xs, rfl, hod, hki, hsz, hpo, hck, -⟩ := h.inp hk
  have := Check_any ki nm dl x1 x2 x3 ky la wo tk y1 y2 y3 ru lu ti d xs w hod hsz
  rw [hck] at this
  exact this
theorem opBytes_good {d : Ov} {w : World} {v : Value} (h : OvV d w v) (hk : OvK d) : Calls Tryz.prog 11 #[v] w fun en w' => ∃ x, en = .returned (.tuple #[x, .int .i64 0]) ∧ w'.ownsRow w.heap.size 5 1 x (opBs d).length (B8 (opBs d)) ∧ Below w.heap.size w w' ∧ ∀ b ∈ opBs d, b < 256 := by
  obtain ⟨ki, nm, dl, x1, x2, x3, ky, la, wo, tk, y1, y2, y3, ru, lu, ti, xs, rfl, hod, hki, hsz, hpo, hck, -⟩ := h.inp hk
  have h1 := OpBytes_any ki nm dl x1 x2 x3 ky la wo tk y1 y2 y3 ru lu ti d xs w hod hki hsz (fun _ => hpo)
  have e1 := (opS_ok hk.ok).1
  have eB : opB 0 d = opBs d := by unfold opB told; rw [if_pos rfl, e1]; rfl
  have eC : opC 0 d = 0 := by unfold opC; rw [if_pos rfl, e1]
  rw [hck, eB, eC] at h1
  refine h1.mono ?_
  rintro e w' ⟨x, rfl, ho, hb, hf⟩
  exact ⟨x, rfl, ho, hb, hf.1⟩
theorem planBytes_good {d : Pv} {w : World} {v : Value} (h : PlV d w v) (hk : PvK d) (hm : may d = true) : Calls Tryz.prog 12 #[v] w fun en w' => ∃ x, en = .returned (.tuple #[x, .int .i64 0]) ∧ w'.ownsRow w.heap.size 5 1 x (plBs d).length (B8 (plBs d)) ∧ Below w.heap.size w w' ∧ ∀ b ∈ plBs d, b < 256 := by
  obtain ⟨a, n, c, xs, rfl, h1, h2, h3, h4, h5, -, -⟩ := h.inp hk
  have t := PlanBytes_any (str d.1.1) d.1.2 a n c xs w h1 h2 (fun _ => h3)
  have e0 : (Gr.chk (str d.1.1) d.1.2 xs).2 = 0 := by rw [hm] at h5; exact of_decide_eq_true h5.symm
  have e1 := (plS_ok hm).1
  have eB : planB (str d.1.1) d.1.2 xs = plBs d := by unfold planB planS told; rw [if_pos e0, h4, e1]; rfl
  have eC : planC (str d.1.1) d.1.2 xs = 0 := by unfold planC planS; rw [if_pos e0, h4, e1]
  rw [eB, eC] at t
  refine t.mono ?_
  rintro e w' ⟨x, rfl, ho, hb, hf⟩
  exact ⟨x, rfl, ho, hb, hf.1⟩
theorem OvV.bel {d : Ov} {w w' : World} {v : Value} (h : OvV d w v) (hb : Below w.heap.size w w') : OvV d w' v := by
  obtain ⟨ki, nm, dl, x1, x2, x3, ky, la, wo, tk, y1, y2, y3, ru, lu, ti, e, h⟩ := h
  exact ⟨_, _, _, _, _, _, _, _, _, _, _, _, _, _, _, _, e, h.keep (T := 32) (by decide) (by decide) (by decide) (Keep.ofBelow (S := fun _ => False) hb (Nat.le_refl _)) (fun _ f => f.elim)⟩
theorem PlV.bel {d : Pv} {w w' : World} {v : Value} (h : PlV d w v) (hb : Below w.heap.size w w') : PlV d w' v := by
  obtain ⟨a, n, c, e, h⟩ := h
  exact ⟨a, n, c, e, stable_Ns (T := 30) (by decide) (by decide) _ _ _ _ _ h (Keep.ofBelow (S := fun _ => False) hb (Nat.le_refl _)) (fun _ f => f.elim)⟩
end Cd
end Go.Proofs.YtbjcckfhfbjchaaGreat

/- Codec: known: the document's examples, by value. -/
namespace Go.Proofs.YtbjcckfhfbjchaaGreat
namespace Cd
open Go.RowKit Go.Deep

def litN : Gr.No := ⟨⟨⟨#[97]⟩, 0, 2, 10, 0, 4, 8, 0, (none, 0, 0), (none, 0, 0)⟩, [], []⟩
def litB : List Nat := [1, 112, 100, 1, 1, 97, 0, 2, 10, 0, 4, 8, 0, 0, 0]
theorem lit_cyc : Gr.cyc [litN] = 0 := by
  refine Gr.cyc_eq (.inl ⟨rfl, fun x h => ?_⟩)
  have he : ∀ y, Gr.eg [litN] y = [] := fun y => by
    cases y with
    | zero => rfl
    | succ y => rfl
  rcases h.cases with h | ⟨y, h, _⟩
  · rw [he] at h; cases h
  · rw [he] at h; cases h
theorem lit_cW : Gr.cW ⟨#[112]⟩ 100 [litN] = 0 := by decide
theorem lit_cN : Gr.cN 1 0 [] [litN] = (0, 0) := by decide
theorem lit_chk : Gr.chk ⟨#[112]⟩ 100 [litN] = (0, 0) := by
  unfold Gr.chk
  rw [if_neg (by rw [lit_cW]; decide), if_neg (by rw [show [litN].length = 1 from rfl, lit_cN]; decide), if_neg (by rw [lit_cyc]; decide)]
theorem lit_told : told (planS ⟨#[112]⟩ 100 [litN]) = litB := by decide
theorem lit_flt : (planS ⟨#[112]⟩ 100 [litN]).fault = 0 := by decide
theorem lit_R : takeR planR (newR litB) = ⟨litB, 15, 0⟩ := by rfl
theorem lit_V : planVal (newR litB) = pv ⟨#[112]⟩ 100 [litN] := by rfl
def pollO : Ov := { ov0 2 with la := 3, wo := 200 }
theorem poll_h : hldB pollO [2, 3] = true := by decide
theorem poll_told : told (opS pollO) = [2, 3, 200, 1] := by decide
theorem poll_flt : (opS pollO).fault = 0 := by decide
theorem poll_e : oE (emps ⟨#[]⟩ 0 0 ⟨#[]⟩ 3 200 0 0 0 0 0) [2, 3] = true := by
  unfold emps
  rw [ByteArray.toList_eq]
  decide
theorem lit_B : planB ⟨#[112]⟩ 100 [litN] = litB := by unfold planB; rw [if_pos (by rw [lit_chk]), lit_told]
theorem lit_C : planC ⟨#[112]⟩ 100 [litN] = 0 := by unfold planC; rw [if_pos (by rw [lit_chk]), lit_flt]
theorem lit_may : may (planVal (newR litB)) = true := by rw [lit_V, may_pv, lit_chk]; rfl
theorem lit_E : planE litB = 0 := by
  have h1 : planR (newR litB) = ⟨litB, 15, 0⟩ := by rfl
  have h2 : takeR (chkR may planR planVal) (newR litB) = ⟨litB, 15, 0⟩ := by
    unfold takeR
    rw [if_pos (show (newR litB).fault = 0 from rfl)]
    unfold chkR
    rw [lit_may, h1]
    rfl
  unfold planE
  rw [h2]
  rfl
theorem poll_chk (xs : List Gr.No) : opChk ⟨#[]⟩ 0 0 ⟨#[]⟩ 3 200 0 0 0 0 0 pollO xs = 0 := by
  unfold opChk
  rw [show prts pollO.ki = [2, 3] from rfl, poll_e, poll_h, if_neg (by simp), if_neg (by decide)]
theorem poll_B (k : Nat) (h : k = 0) : opB k pollO = [2, 3, 200, 1] := by unfold opB; rw [if_pos h, poll_told]
theorem poll_C (k : Nat) (h : k = 0) : opC k pollO = 0 := by unfold opC; rw [if_pos h, poll_flt]
theorem tick_E : opE [9, 0] = 0 := by
  have h : takeR opR (newR [9, 0]) = ⟨[9, 0], 2, 0⟩ := by rfl
  unfold opE
  rw [h]
  rfl
theorem tick_V : (opVal (newR [9, 0])).ki = 9 := by rfl
theorem none_chk (d : Ov) (hd : d.ki = 0) (xs : List Gr.No) (nm : ByteArray) (dl : Int) (x2 : Nat) (ky : ByteArray) (la wo tk : Int) (y2 : Nat) (ru lu ti : Int) : opChk nm dl x2 ky la wo tk y2 ru lu ti d xs = 121 := by
  unfold opChk
  rw [hd, if_pos (.inl rfl)]
end Cd
end Go.Proofs.YtbjcckfhfbjchaaGreat

/- Codec: little; Same as it is asked. -/
namespace Go.Proofs.YtbjcckfhfbjchaaGreat
namespace Cd
open Go.RowKit Go.Deep

def litC : Array Value := #[.string ⟨#[97]⟩, .int .i64 0, .int .i64 2, .int .i64 10, .int .i64 0, .int .i64 4, .int .i64 8, .int .i64 0, .slice none 0 0, .slice none 0 0]
theorem lit_row : litN.q.row.toArray = litC := rfl
theorem rd_lit {w : World} {g B : Nat} (h : w.heap[g]? = some (.cells litC 57 (0, 0))) (hB : g < B) : Gr.RdP B w (some ⟨g, 0, none⟩, 1, 1) [litN] := by
  refine ⟨rfl, (show (1 : Nat) ≤ 1172812402926 by decide), .inr ⟨g, 0, rfl, hB, fun i x hx => ?_⟩, fun x hx => ?_⟩
  · cases i with
    | zero =>
      simp only [List.getElem?_cons_zero, Option.some.injEq] at hx
      subst hx
      intro j u hu
      have e : (⟨g, 0 + 0 * 10 + j, none⟩ : Addr) = ⟨g, j, none⟩ := by simp
      rw [e]
      refine cell_blk h j ?_
      rw [← lit_row]
      simpa using hu
    | succ i => simp at hx
  · simp only [List.mem_singleton] at hx
    subst hx
    exact ⟨⟨rfl, by decide, .inl rfl⟩, ⟨rfl, by decide, .inl rfl⟩⟩
set_option maxRecDepth 10000 in
set_option maxHeartbeats 1000000 in
theorem little_any (w : World) : Calls Tryz.prog 20 #[] w fun en w' => ∃ g, en = .returned (.agg #[.string ⟨#[112]⟩, .int .i64 100, .slice (some ⟨g, 0, none⟩) 1 1]) ∧ Gr.RdP w'.heap.size w' (some ⟨g, 0, none⟩, 1, 1) [litN] ∧ Below w.heap.size w w' := by
  have hx0 := heap_alloc_new w (.cells #[.string ⟨#[]⟩, .int .i64 0, .slice none 0 0] 30)
  have hb0 : Below w.heap.size w (w.alloc (.cells #[.string ⟨#[]⟩, .int .i64 0, .slice none 0 0] 30)) := (Below.refl _ _).alloc (Nat.le_refl _) _
  have HX0 := hide hx0
  have HB0 := hide hb0
  have HS0 := hide (blk_lt hx0)
  clear hx0 hb0
  go_enter Tryz.func20, Tryz.ntmps20
  go_upto_region 1 with fail
  generalize w.alloc (.cells #[.string ⟨#[]⟩, .int .i64 0, .slice none 0 0] 30) = w0 at *
  have HN := hide (heap_alloc_new w0 (.cells litC 57))
  have HB1 := hide (HB0.out.trans (((Below.refl w0.heap.size w0).alloc (Nat.le_refl _) (.cells litC 57)).mono HB0.out.size))
  have HX1 := hide (blkB HX0.out ((Below.refl w0.heap.size w0).alloc (Nat.le_refl _) (.cells litC 57)))
  have HI : Hid ((Tryz.prog.info? 30).map (·.size) = some (#[.string ⟨#[112]⟩, .int .i64 100, .slice (some ⟨w0.heap.size, 0, none⟩) 1 1] : Array Value).size) := sizePn
  have HO := hide (onesPn ⟨#[112]⟩ 100 (some ⟨w0.heap.size, 0, none⟩) 1 1)
  go_wp2_with (first
    | (refine Go.Great.wpList_buildSliceTo rfl 28 57 1 #[(0, .tmp 1)] rfl w0.heap.size rfl (some 2) (by kernel_rfl) Tryz.underlying28 litC (by kernel_rfl) ?_)
    | (refine wpList_store_row rfl 30 _ _ rfl w.heap.size #[.string ⟨#[112]⟩, .int .i64 100, .slice (some ⟨w0.heap.size, 0, none⟩) 1 1] rfl rfl 30 _ HX1.out HI.out rfl HO.out ?_))
  have HXr := hide (setRow_heap _ w.heap.size _ #[.string ⟨#[112]⟩, .int .i64 100, .slice (some ⟨w0.heap.size, 0, none⟩) 1 1] _ _ HX1.out)
  have hk := keep_row (w0.alloc (.cells litC 57)) w.heap.size #[.string ⟨#[112]⟩, .int .i64 100, .slice (some ⟨w0.heap.size, 0, none⟩) 1 1]
  have hn := hk.blk HN.out (by show ¬ _ = _; have := blk_lt HX0.out; omega)
  exact bodyPost_ret (resPn rfl _ _ w.heap.size _ rfl rfl HXr.out) rfl ⟨w0.heap.size, rfl, rd_lit hn (blk_lt hn), HB1.out.trans (hk.below HB1.out.size fun i e => by have e : i = _ := e; omega)⟩
end Cd
end Go.Proofs.YtbjcckfhfbjchaaGreat
