/- Package source: the lines of edges. -/
import Derived.Test.YtfoahfgehmghcaaGreatDoorUTx2
namespace Go.Proofs.YtfoahfgehmghcaaGreatDoor
namespace U
open Go.RowKit

theorem rdp_below {B C : Nat} {w w' : World} {s : Option Addr × Nat × Nat} {xs : List Gr.No} (h : Gr.RdP B w s xs) (k : Below C w w') (hC : B ≤ C) : Gr.RdP B w' s xs := h.keep (S := fun i => B ≤ i) ⟨k.os, k.tape, k.output, k.size, fun i _ hi => k.block i (by omega)⟩ fun _ h => h
theorem rdz_below {B C : Nat} {w w' : World} {s : Option Addr × Nat × Nat} {z : List Int} (h : Gr.RdZ B w s z) (k : Below C w w') (hC : B ≤ C) : Gr.RdZ B w' s z := h.keep (S := fun i => B ≤ i) ⟨k.os, k.tape, k.output, k.size, fun i _ hi => k.block i (by omega)⟩ fun _ h => h
/-- a node's name, by its number -/
def nameAt (xs : List Gr.No) (e : Int) : List UInt8 := match xs[e.toNat]? with
  | some x => x.q.nm.data.toList
  | none => []
/-- the words of a line of edges -/
def edgeW (first : List UInt8) (z : List Int) (xs : List Gr.No) : List (List UInt8) := first :: z.map (nameAt xs)
def edgeT (first : List UInt8) (z : List Int) (xs : List Gr.No) : List UInt8 := if z = [] then [] else lineT (edgeW first z xs)
theorem edgeW_len (first : List UInt8) (z : List Int) (xs : List Gr.No) : (edgeW first z xs).length = z.length + 1 := by simp [edgeW]
theorem edgeW_snoc (first : List UInt8) (z : List Int) (xs : List Gr.No) (i : Nat) (e : Int) (h : z[i]? = some e) : edgeW first (z.take (i + 1)) xs = edgeW first (z.take i) xs ++ [nameAt xs e] := by
  rw [Gr.take_snoc z i e h]; simp [edgeW]
theorem nameAt_len (xs : List Gr.No) (h : ∀ x ∈ xs, x.q.nm.size ≤ 40) (e : Int) : (nameAt xs e).length ≤ 40 := by
  unfold nameAt
  split
  · rename_i x hx
    exact h x (List.mem_of_getElem? hx)
  · simp
theorem edgeW_sum (first : List UInt8) (z : List Int) (xs : List Gr.No) (h : ∀ x ∈ xs, x.q.nm.size ≤ 40) : ((edgeW first z xs).map (·.length)).sum ≤ first.length + z.length * 40 := by
  unfold edgeW
  induction z with
  | nil => simp
  | cons e z ih =>
    have := nameAt_len xs h e
    simp only [List.map_cons, List.sum_cons, List.length_cons] at ih ⊢
    omega
set_option maxRecDepth 100000 in
set_option maxHeartbeats 4000000 in
theorem writeEdges_any (b : Nat) (l first : List UInt8) (z : List Int) (ez ns : Option Addr × Nat × Nat) (xs : List Gr.No) (B : Nat) (w : World) (hb : Bd w b l) (hB : B ≤ b) (hz : Gr.RdZ B w ez z) (hP : Gr.RdP B w ns xs) (hv : ∀ e ∈ z, 0 ≤ e ∧ e < xs.length) (hzl : z.length ≤ 256) (hnm : ∀ x ∈ xs, x.q.nm.size ≤ 40) (hf : first.length ≤ 40) (hl : l.length ≤ 1000000000) :
    Calls Tryz.prog 33 #[.pointer (some ⟨b, 0, none⟩), .string (ba first), .slice ez.1 ez.2.1 ez.2.2, .slice ns.1 ns.2.1 ns.2.2] w fun e w' => e = .returned (.tuple #[]) ∧ Bd w' b (l ++ edgeT first z xs) ∧ Below b w w' ∧ Oth b w w' := by
  obtain ⟨za, zn, zc⟩ := ez
  obtain ⟨na, nn, nc⟩ := ns
  have hbl := hb.lt
  have hznl : zn = z.length := hz.1
  have hnnl : nn = xs.length := hP.1
  have HB := hide hb
  have HZ := hide hz
  have HP := hide hP
  have HV := hide hv
  have HNM := hide hnm
  simp only
  by_cases h0 : z = []
  · have hzn : zn = 0 := by rw [hznl, h0]; rfl
    have HT : Hid (edgeT first z xs = []) := by show _ = _; unfold edgeT; rw [if_pos h0]
    clear hb hz hP hv hnm hznl h0
    subst hzn
    go_enter Tryz.func33, Tryz.ntmps33
    go_wp2_with fail
    (try simp only [Exit.inBlock, Exit.then])
    refine bodyPost_ret (results_none rfl _ _ _) rfl ?_
    rw [HT.out, List.append_nil]
    exact ⟨rfl, HB.out, Below.refl _ _, Oth.refl _ _⟩
  · have HT : Hid (edgeT first z xs = lineT (edgeW first z xs)) := by show _ = _; unfold edgeT; rw [if_neg h0]
    have hzp : 0 < zn := by rw [hznl]; exact List.length_pos_iff.2 h0
    have hz0 : ((zn : Int) == 0) = false := by simp; omega
    have HZN := hide hznl
    have HNN := hide hnnl
    have WL := hide (fun a c w' hb hr hc => writeLine_any b l a (edgeW first z xs) c w' hb hr (by simp [edgeW]) hc (by have := edgeW_sum first z xs hnm; have := edgeW_len first z xs; omega) hl)
    rw [edgeW_len, ← hznl] at WL
    have hzn2 : zn ≤ 256 := by omega
    clear hb hz hP hv hnm hznl hnnl h0
    go_enter Tryz.func33, Tryz.ntmps33
    go_wp2_with fail
    go_loopw [8, 18] (fun v iv wr => ∃ i : Nat, iv = .int .i64 (i : Nat) ∧ i ≤ zn ∧ wr.ownsRow w.heap.size 9 1 v (i + 1) (strs (edgeW first (z.take i) xs)) ∧ Hid (Below w.heap.size w wr)) (fun _ iv _ => zn - (intOf iv).toNat)
    case atStart => exact ⟨0, rfl, Nat.zero_le _, own_made w [first] (by simp), (Below.refl _ w).alloc (Nat.le_refl _) _⟩
    case round =>
      obtain ⟨i, rfl, hi', hown, HI⟩ := hrel
      obtain ⟨va, vc, rfl⟩ := own_shape hown
      by_cases hlt : i < zn
      · obtain ⟨g, off, e, he1, he2, hze, hce⟩ := (rdz_below HZ.out HI.out (by omega)).at (i := i) hlt
        simp only at he1
        subst he1
        have hve := HV.out e (List.mem_of_getElem? hze)
        obtain ⟨k, rfl⟩ : ∃ k : Nat, e = (k : Int) := ⟨e.toNat, by omega⟩
        have hkn : k < nn := by have := HNN.out; omega
        obtain ⟨g2, off2, x, hx1, hx2, hxx, hnd, _⟩ := (rdp_below HP.out HI.out (by omega)).at (i := k) hkn
        simp only at hx1
        subst hx1
        have HNA : Hid (nameAt xs (k : Int) = x.q.nm.data.toList) := by show _ = _; unfold nameAt; rw [show ((k : Int)).toNat = k by simp, hxx]
        have HSN := hide (edgeW_snoc first z xs i _ hze)
        have hcn := hnd.all.1
        rw [show x.q.nm = ba (nameAt xs (k : Int)) by rw [HNA.out]; rfl] at hcn
        have HOW := hide hown
        have hbs := HI.out.size
        generalize nameAt xs (k : Int) = nk at *
        have HLE : Hid (i + 1 = (edgeW first (z.take i) xs).length) := by show _ = _; rw [edgeW_len, List.length_take]; have := HZN.out; omega
        clear hown hnd hze hve hxx
        go_wp2_with (first
          | (at_builtin; refine wp_appendS rfl _ _ rfl w.heap.size _ (edgeW first (z.take i) xs) [nk] (i + 1) 1 _ 1 rfl rfl HLE.out rfl (HOW.out.alloc _) ?b1 ?b2 (temp_strs _ [nk]) ?_
             rotate_left 2
             intro va' vc' w8 own8 gr8
             have HF := hide (⟨own8, gr8⟩ : _ ∧ _)
             clear own8 gr8))
        · refine ⟨⟨i + 1, by go_num, by omega, ?_, HI.out.trans ?_⟩, ?_⟩
          · have h1 := HF.out.1
            rw [← HSN.out] at h1
            have h2 : (edgeW first (z.take (i + 1)) xs).length = i + 1 + 1 := by rw [HSN.out, List.length_append, ← HLE.out]; rfl
            rw [h2] at h1
            rw [← HLE.out]
            exact h1
          · exact ((Below.refl _ wr).alloc hbs _).grown HF.out.2 (by simp; omega) (fun j hj => (HOW.out.lt _ hj).1)
          · show zn - ((i : Int) + 1).toNat < zn - (i : Int).toNat
            omega
        case b1 => simp; omega
        case b2 => have := HLE.out; simp; omega
      · have hin : i = zn := by omega
        subst hin
        have hown2 : wr.ownsRow w.heap.size 9 1 (.slice va (i + 1) vc) (edgeW first z xs).length (strs (edgeW first z xs)) := by
          rw [edgeW_len, ← HZN.out]
          rw [List.take_of_length_le (by have := HZN.out; omega)] at hown
          exact hown
        have R := own_rdS hown2
        rw [edgeW_len, ← HZN.out] at R
        have C := hide (WL.out va vc wr (HB.out.keep HI.out) R.1 (by have := R.2; have := HZN.out; first | omega | (rw [edgeW_len]; omega)))
        clear hown hown2 R WL
        go_wp2_with fail
        go_at_call 30
        refine C.out.mono ?_
        rintro e w2 ⟨rfl, hb2, bl2, ot2⟩
        have F := hide (⟨hb2, bl2, ot2⟩ : _ ∧ _ ∧ _)
        clear hb2 bl2 ot2 C
        go_wp2_with fail
        go_end0
        rw [HT.out]
        exact ⟨rfl, F.out.1, (HI.out.mono (Nat.le_of_lt hbl)).trans F.out.2.1, (Oth.below HI.out).trans F.out.2.2⟩
end U
end Go.Proofs.YtfoahfgehmghcaaGreatDoor
