import Derived.Test.YtfoahfgehmghcaaGreatDoorUMod
import Derived.Laws.BytesArg
import Derived.Lib.SlBytesConst
import Derived.Lib.ItoaNum
import Derived.Lib.ItoaMem
import Derived.BigQuiet
import Derived.Deep.QuietTactic
import Derived.Deep.RegionHeld3
import Derived.Test.YtfoahfgehmghcaaGreatDoorSOu
/- The document's decimal. -/
namespace Go.Proofs.YtfoahfgehmghcaaGreatDoor
namespace U
namespace Tr
open Go.RowKit

theorem conv_one {W : World} {g : Nat} {c : UInt8} (h : W.cell? ⟨g, 0, none⟩ = some (.int .u8 (c.toNat : Int))) : (convert 72 9 (.slice (some ⟨g, 0, none⟩) 1 1)).run Tryz.prog W = .ok (.string (ba [c])) W := by
  have e : strOfNums [(c.toNat : Int)] = ba [c] := by
    unfold strOfNums ba
    simp
  rw [← e]
  refine run_convert_bytes_arg W 72 5 Tryz.underlying72 Tryz.underlying5 g 0 1 1 [(c.toNat : Int)] rfl (fun i hi => ?_) 9 Tryz.underlying9
  obtain rfl : i = 0 := by omega
  exact h
theorem ba_cat (a b : List UInt8) : ba a ++ ba b = ba (a ++ b) := by unfold ba; apply ByteArray.ext; simp
theorem dig_num (d : Nat) (h : d < 10) : ((UInt8.ofNat (48 + d)).toNat : Int) = 48 + d := by
  have : (UInt8.ofNat (48 + d)).toNat = 48 + d := by
    rw [UInt8.toNat_ofNat']
    omega
  omega
theorem dec_len : ∀ (n : Nat), n ≤ 9223372036854775807 → (Lib.decDigits n).length ≤ 20 := by
  have key : ∀ (k n : Nat), n < 10 ^ k → (Lib.decDigits n).length ≤ k + 1 := by
    intro k
    induction k with
    | zero => intro n h; rw [Lib.decDigits, dif_pos (by omega)]; simp
    | succ k ih =>
      intro n h
      rw [Lib.decDigits]
      split
      · simp
      · have := ih (n / 10) (by rw [Nat.pow_succ] at h; omega)
        rw [List.length_append]
        simp; omega
  intro n h
  exact Nat.le_trans (key 19 n (by omega)) (by omega)
theorem wrap_id {a : Int} (h0 : 0 ≤ a) (h1 : a ≤ 9223372036854775807) : IntKind.i64.wrap a = a := by simp [IntKind.wrap, IntKind.bits, IntKind.signed]; omega
theorem wrap_u8 {a : Int} (h0 : 0 ≤ a) (h1 : a < 256) : IntKind.u8.wrap a = a := by simp [IntKind.wrap, IntKind.bits, IntKind.signed]; omega
theorem bcell4 {W w1 : World} (hb : Below W.heap.size W w1) : (∀ b o, b < W.heap.size → w1.cell? ⟨b, o, none⟩ = W.cell? ⟨b, o, none⟩) ∧ (∀ b o, b < W.heap.size → w1.frozen? ⟨b, o, none⟩ = W.frozen? ⟨b, o, none⟩) :=
  ⟨fun b o h => hb.cell (p := ⟨b, o, none⟩) h, fun b o h => hb.frozen (p := ⟨b, o, none⟩) h⟩
set_option maxRecDepth 100000 in
set_option maxHeartbeats 1000000 in
theorem decimal_nat (n : Nat) : n ≤ 9223372036854775807 → ∀ w : World,
    Calls Tryz.prog 17 #[.int .i64 n] w fun e w' => e = .returned (.string (ba (Lib.decDigits n))) ∧ Below w.heap.size w w' := by
  induction n using Nat.strongRecOn with
  | ind n ih =>
    intro hn w
    by_cases h : n < 10
    · have hd : Lib.decDigits n = [UInt8.ofNat (48 + n)] := by rw [Lib.decDigits, dif_pos h]
      rw [hd]
      have hnum := dig_num n h
      generalize UInt8.ofNat (48 + n) = c at *
      have hcv := fun (W : World) (g : Nat) (h : W.cell? ⟨g, 0, none⟩ = some (.int .u8 (48 + (n : Int)))) => conv_one (c := c) (W := W) (g := g) (by rw [hnum]; exact h)
      have i0 : (n : Int) < 10 := by omega
      have i1 : (0 : Int) ≤ n := by omega
      clear ih hd hnum
      go_enter Tryz.func17, Tryz.ntmps17
      go_wp2_with fail
      go_ret
      exact ⟨rfl, (Below.refl _ _).alloc (Nat.le_refl _) _⟩
    · have hd : Lib.decDigits n = Lib.decDigits (n / 10) ++ [UInt8.ofNat (48 + n % 10)] := by rw [Lib.decDigits, dif_neg h]
      rw [hd, ← ba_cat]
      have hnum := dig_num (n % 10) (by omega)
      have IH := hide (ih (n / 10) (by omega) (by omega))
      have hl := dec_len (n / 10) (by omega)
      generalize UInt8.ofNat (48 + n % 10) = c at *
      have hcv := fun (W : World) (g : Nat) (h : W.cell? ⟨g, 0, none⟩ = some (.int .u8 (48 + ((n % 10 : Nat) : Int)))) => conv_one (c := c) (W := W) (g := g) (by rw [hnum]; exact h)
      have hsz : (ba (Lib.decDigits (n / 10))).size ≤ 20 := by rw [ba_size]; exact hl
      have hsz1 : (ba [c]).size = 1 := rfl
      have i0 : ¬ (n : Int) < 10 := by omega
      have i1 : (0 : Int) ≤ n := by omega
      have i2 : (n : Int) / 10 = ((n / 10 : Nat) : Int) := by omega
      have i3 : (n : Int) % 10 = ((n % 10 : Nat) : Int) := by omega
      have i4 : ((n % 10 : Nat) : Int) < 10 := by omega
      have i5 : (0 : Int) ≤ ((n % 10 : Nat) : Int) := by omega
      have v1 : IntKind.i64.wrap ((n / 10 : Nat) : Int) = ((n / 10 : Nat) : Int) := wrap_id (by omega) (by omega)
      have v2 : IntKind.i64.wrap ((n % 10 : Nat) : Int) = ((n % 10 : Nat) : Int) := wrap_id (by omega) (by omega)
      have v3 : IntKind.i64.wrap (48 + ((n % 10 : Nat) : Int)) = 48 + ((n % 10 : Nat) : Int) := wrap_id (by omega) (by omega)
      have v4 : IntKind.u8.wrap (48 + ((n % 10 : Nat) : Int)) = 48 + ((n % 10 : Nat) : Int) := wrap_u8 (by omega) (by omega)
      have v6 : Int.tmod (n : Int) 10 = ((n % 10 : Nat) : Int) := by rw [Int.tmod_eq_emod_of_nonneg (by omega)]; omega
      clear ih hd hnum hl
      generalize ba (Lib.decDigits (n / 10)) = A at *
      generalize ba [c] = B at *
      generalize n / 10 = nq at *
      generalize n % 10 = nr at *
      go_enter Tryz.func17, Tryz.ntmps17
      go_wp2_with fail
      refine wp_region_any (by kernel_rfl) ?_
      change wpAny _ _ _ _ _ _ _ (World.drew _)
      have hBd : Below w.heap.size w w.drew := (Below.refl _ w).drew
      generalize w.drew = W at *
      refine wpAny_take (i := 0) (v := .int .i64 n) rfl (by kernel_rfl) (by kernel_rfl) (by kernel_rfl) (fun _ _ _ h => h) (Or.inl ⟨by rfl, fun w => by go_simp⟩) ?_
      refine wpAny_take (i := 1) (v := .int .i64 nq) rfl (by kernel_rfl) (by kernel_rfl) (by kernel_rfl) (fun _ _ _ h => h) (Or.inl ⟨by rfl, fun w => by go_simp; first | done | exact v1 | simp [v1]⟩) ?_
      refine wpAny_take (i := 3) (v := .int .i64 n) rfl (by kernel_rfl) (by kernel_rfl) (by kernel_rfl) (fun _ _ _ h => h) (Or.inl ⟨by rfl, fun w => by go_simp⟩) ?_
      refine wpAny_take (i := 4) (v := .int .i64 nr) rfl (by kernel_rfl) (by kernel_rfl) (by kernel_rfl) (fun _ _ _ h => h) (Or.inl ⟨by rfl, fun w => by go_simp; first | done | exact v2 | exact i3 | exact v6 | (rw [v6]; exact v2) | trace_state⟩) ?_
      refine wpAny_take (i := 5) (v := .int .i64 (48 + nr)) rfl (by kernel_rfl) (by kernel_rfl) (by kernel_rfl) (fun _ _ _ h => h) (Or.inl ⟨by rfl, fun w => by go_simp; first | done | exact v3 | simp [v3]⟩) ?_
      refine wpAny_take (i := 6) (v := .int .u8 (48 + nr)) rfl (by kernel_rfl) (by kernel_rfl) (by kernel_rfl) (fun _ _ _ h => h) (Or.inl ⟨by rfl, fun w => by go_simp; first | done | exact v4 | simp [v4]⟩) ?_
      refine wpAny_ready (rs := [2, 7]) (by kernel_rfl) (by simp) ?_
      refine AllReady.cons rfl (fun K hK => ?_) (AllReady.cons rfl (fun K hK => ?_) AllReady.nil)
      · go_simp
        go_wp2_with (go_at_call 17; refine (IH.out _).mono ?_; rintro e w4 ⟨rfl, hb4⟩)
        try (refine hK _ _ ?_; clear hK K)
        have HBe := hide (hBd.trans (hb4.mono hBd.size))
        refine wpAny_ready (rs := [7]) (by kernel_rfl) (by simp) ?_
        refine AllReady.cons rfl (fun K hK => ?_) AllReady.nil
        go_simp
        try (refine hK _ _ ?_; clear hK K)
        refine wpAny_ready (rs := [8]) (by kernel_rfl) (by simp) ?_
        refine AllReady.cons rfl (fun K hK => ?_) AllReady.nil
        go_simp
        try (refine hK _ _ ?_; clear hK K)
        refine wpAny_ready (rs := [9]) (by kernel_rfl) (by simp) ?_
        refine AllReady.cons rfl (fun K hK => ?_) AllReady.nil
        go_simp
        go_wp2_with fail
        try (refine hK _ _ ?_; clear hK K)
        refine wpAny_ready (rs := [10]) (by kernel_rfl) (by simp) ?_
        refine AllReady.cons rfl (fun K hK => ?_) AllReady.nil
        go_simp
        try (refine hK _ _ ?_; clear hK K)
        refine wpAny_done (by kernel_rfl) ?_ _
        go_wp2_with fail
        go_ret
        exact ⟨rfl, HBe.out.alloc HBe.out.size _⟩
      · go_simp
        try (refine hK _ _ ?_; clear hK K)
        have hb5 : Below w.heap.size w (W.alloc (.cells #[.int .u8 (48 + (nr : Int))] 5)) := hBd.alloc hBd.size _
        have hc5 : (W.alloc (.cells #[.int .u8 (48 + (nr : Int))] 5)).cell? ⟨W.heap.size, 0, none⟩ = some (.int .u8 (48 + (nr : Int))) := by rw [cell_of_row _ _ _ _ _ _ (heap_alloc_new W _)]; rfl
        generalize W.alloc (.cells #[.int .u8 (48 + (nr : Int))] 5) = W5 at *
        generalize W.heap.size = g5 at *
        refine wpAny_ready (rs := [2, 8]) (by kernel_rfl) (by simp) ?_
        refine AllReady.cons rfl (fun K hK => ?_) (AllReady.cons rfl (fun K hK => ?_) AllReady.nil)
        · go_simp
          go_wp2_with (go_at_call 17; refine (IH.out _).mono ?_; rintro e w6 ⟨rfl, hb6⟩)
          try (refine hK _ _ ?_; clear hK K)
          have hc6 : w6.cell? ⟨g5, 0, none⟩ = some (.int .u8 (48 + (nr : Int))) := by rw [hb6.cell (p := ⟨g5, 0, none⟩) (World.block_lt_of_cell? _ _ hc5)]; exact hc5
          have HBe := hide (hb5.trans (hb6.mono hb5.size))
          refine wpAny_ready (rs := [8]) (by kernel_rfl) (by simp) ?_
          refine AllReady.cons rfl (fun K hK => ?_) AllReady.nil
          go_simp
          try (refine hK _ _ ?_; clear hK K)
          refine wpAny_ready (rs := [9]) (by kernel_rfl) (by simp) ?_
          refine AllReady.cons rfl (fun K hK => ?_) AllReady.nil
          go_simp
          go_wp2_with fail
          try (refine hK _ _ ?_; clear hK K)
          refine wpAny_ready (rs := [10]) (by kernel_rfl) (by simp) ?_
          refine AllReady.cons rfl (fun K hK => ?_) AllReady.nil
          go_simp
          try (refine hK _ _ ?_; clear hK K)
          refine wpAny_done (by kernel_rfl) ?_ _
          go_wp2_with fail
          go_ret
          exact ⟨rfl, HBe.out⟩
        · go_simp
          try (refine hK _ _ ?_; clear hK K)
          refine wpAny_ready (rs := [2]) (by kernel_rfl) (by simp) ?_
          refine AllReady.cons rfl (fun K hK => ?_) AllReady.nil
          go_simp
          go_wp2_with (go_at_call 17; refine (IH.out _).mono ?_; rintro e w6 ⟨rfl, hb6⟩)
          try (refine hK _ _ ?_; clear hK K)
          have HBe := hide (hb5.trans (hb6.mono hb5.size))
          refine wpAny_ready (rs := [9]) (by kernel_rfl) (by simp) ?_
          refine AllReady.cons rfl (fun K hK => ?_) AllReady.nil
          go_simp
          go_wp2_with fail
          try (refine hK _ _ ?_; clear hK K)
          refine wpAny_ready (rs := [10]) (by kernel_rfl) (by simp) ?_
          refine AllReady.cons rfl (fun K hK => ?_) AllReady.nil
          go_simp
          try (refine hK _ _ ?_; clear hK K)
          refine wpAny_done (by kernel_rfl) ?_ _
          go_wp2_with fail
          go_ret
          exact ⟨rfl, HBe.out⟩
theorem decimal_any (n : Int) (h0 : 0 ≤ n) (h1 : n ≤ 9223372036854775807) (w : World) :
    Calls Tryz.prog 17 #[.int .i64 n] w fun e w' => e = .returned (.string (ba (Lib.itoa n))) ∧ Below w.heap.size w w' := by
  obtain ⟨m, rfl⟩ : ∃ m : Nat, n = m := ⟨n.toNat, by omega⟩
  rw [Lib.itoa_nonneg]
  exact decimal_nat m (by omega) w
theorem itoa_len (n : Int) (h0 : 0 ≤ n) (h1 : n ≤ 9223372036854775807) : (ba (Lib.itoa n)).size ≤ 20 := by
  obtain ⟨m, rfl⟩ : ∃ m : Nat, n = m := ⟨n.toNat, by omega⟩
  rw [Lib.itoa_nonneg, ba_size]
  exact dec_len m (by omega)
end Tr
end U
end Go.Proofs.YtfoahfgehmghcaaGreatDoor

/- The document's names. -/
namespace Go.Proofs.YtfoahfgehmghcaaGreatDoor
namespace U
namespace Tr
open Go.RowKit

theorem rest_len (xs : List Gr.No) (h : ∀ x ∈ xs, x.q.nm.size ≤ 40) (z : List Int) : (rest (z.map (nameAt xs))).length ≤ z.length * 41 := by
  unfold rest
  induction z with
  | nil => simp
  | cons e z ih =>
    have := nameAt_len xs h e
    simp only [List.map_cons, List.flatten_cons, List.length_append, List.length_cons] at ih ⊢
    omega
theorem rest_snoc (xs : List Gr.No) (z : List Int) (i : Nat) (e : Int) (h : z[i]? = some e) (w : List UInt8) : ba (w ++ rest ((z.take i).map (nameAt xs))) ++ ba [32] ++ ba (nameAt xs e) = ba (w ++ rest ((z.take (i + 1)).map (nameAt xs))) := by
  rw [Gr.take_snoc z i e h, List.map_append, rest_app, ba_cat, ba_cat]
  simp [rest]
set_option maxRecDepth 100000 in
set_option maxHeartbeats 4000000 in
theorem names_any (nm : ByteArray) (dl : Int) (word : List UInt8) (hw : word.length ≤ 10) (z : List Int) (ez ns : Option Addr × Nat × Nat) (xs : List Gr.No) (B : Nat) (w : World) (hB : B ≤ w.heap.size) (hz : Gr.RdZ B w ez z) (hP : Gr.RdP B w ns xs) (hv : ∀ e ∈ z, 0 ≤ e ∧ e < xs.length) (hzl : z.length ≤ 256) (hnm : ∀ x ∈ xs, x.q.nm.size ≤ 40) :
    Calls Tryz.prog 18 #[.agg #[.string nm, .int .i64 dl, .slice ns.1 ns.2.1 ns.2.2], .string (ba word), .slice ez.1 ez.2.1 ez.2.2] w fun e w' => e = .returned (.string (ba (edgeT word z xs))) ∧ Below w.heap.size w w' := by
  obtain ⟨za, zn, zc⟩ := ez
  obtain ⟨na, nn, nc⟩ := ns
  have hznl : zn = z.length := hz.1
  have hnnl : nn = xs.length := hP.1
  have HZ := hide hz
  have HP := hide hP
  have HV := hide hv
  have HNM := hide hnm
  simp only
  have hbx := heap_alloc_new w (.cells #[.string nm, .int .i64 dl, .slice na nn nc] 24)
  have bel0 : Below w.heap.size w (w.alloc (.cells #[.string nm, .int .i64 dl, .slice na nn nc] 24)) := (Below.refl _ w).alloc (Nat.le_refl _) _
  by_cases h0 : z = []
  · have hzn : zn = 0 := by rw [hznl, h0]; rfl
    have HT : Hid (edgeT word z xs = []) := by show _ = _; unfold edgeT; rw [if_pos h0]
    have BEL := hide bel0
    clear hz hP hv hnm hznl hnnl h0 bel0 hbx
    subst hzn
    go_enter Tryz.func18, Tryz.ntmps18
    go_wp2_with fail
    go_ret
    exact ⟨by rw [HT.out]; rfl, BEL.out⟩
  · have HT := hide (edge_eq word z xs h0)
    have hzp : 0 < zn := by rw [hznl]; exact List.length_pos_iff.2 h0
    have hz0 : ((zn : Int) == 0) = false := by simp; omega
    have HZN := hide hznl
    have HNN := hide hnnl
    have hzn2 : zn ≤ 256 := by omega
    have HBX := hide hbx
    have BEL := hide bel0
    have HLn := hide (rest_len xs hnm)
    generalize edgeT word z xs = E at *
    clear hz hP hv hnm hznl hnnl h0 bel0 hbx
    go_enter Tryz.func18, Tryz.ntmps18
    go_wp2_with fail
    generalize w.alloc (.cells #[.string nm, .int .i64 dl, .slice na nn nc] 24) = W at *
    have hpl : w.heap.size < W.heap.size := (Array.getElem?_eq_some_iff.1 HBX.out).1
    go_loopw [7, 8] (fun v iv wr => ∃ (i : Nat) (A : ByteArray), iv = .int .i64 (i : Nat) ∧ v = .string A ∧ i ≤ zn ∧ Hid (A = ba (word ++ rest ((z.take i).map (nameAt xs)))) ∧ Below W.heap.size W wr) (fun _ iv _ => zn - (intOf iv).toNat)
    case atStart => exact ⟨0, _, rfl, rfl, Nat.zero_le _, (by show _ = _; simp [rest]), Below.refl _ _⟩
    case round =>
      obtain ⟨i, A, rfl, rfl, hi', HA, hI⟩ := hrel
      have hAs : A.size ≤ 10 + 256 * 41 := by
        rw [HA.out, ba_size, List.length_append]
        have := HLn.out (z.take i)
        have h2 : (z.take i).length ≤ 256 := by rw [List.length_take]; have := HZN.out; omega
        have h3 : (z.take i).length * 41 ≤ 256 * 41 := Nat.mul_le_mul_right 41 h2
        omega
      have hW := BEL.out.trans (hI.mono BEL.out.size)
      have cb : wr.cell? ⟨w.heap.size, 2, none⟩ = some (.slice na nn nc) := by
        rw [hI.cell (p := ⟨w.heap.size, 2, none⟩) hpl]; exact cell_blk HBX.out 2 rfl
      by_cases hlt : i < zn
      · obtain ⟨g, off, e, he1, he2, hze, hce⟩ := (rdz_below HZ.out hW hB).at (i := i) hlt
        simp only at he1
        subst he1
        have hve := HV.out e (List.mem_of_getElem? hze)
        obtain ⟨k, rfl⟩ : ∃ k : Nat, e = (k : Int) := ⟨e.toNat, by omega⟩
        have hkn : k < nn := by have := HNN.out; omega
        obtain ⟨g2, off2, x, hx1, hx2, hxx, hnd, _⟩ := (rdp_below HP.out hW hB).at (i := k) hkn
        simp only at hx1
        subst hx1
        have HNA : Hid (nameAt xs (k : Int) = x.q.nm.data.toList) := by show _ = _; unfold nameAt; rw [show ((k : Int)).toNat = k by simp, hxx]
        have hcn := hnd.all.1
        rw [show x.q.nm = ba (nameAt xs (k : Int)) by rw [HNA.out]; rfl] at hcn
        have HSt := hide (rest_snoc xs z i _ hze word)
        rw [← HA.out] at HSt
        have hns : (ba (nameAt xs (k : Int))).size ≤ 40 := by rw [ba_size]; exact nameAt_len xs HNM.out _
        have HS32 : Hid (ba [32] = ⟨#[32]⟩) := rfl
        rw [HS32.out] at HSt
        generalize ba (nameAt xs (k : Int)) = nk at *
        have i0 : (i : Int) < zn := by omega
        have i1 : (k : Int) < nn := by omega
        have hdr : ∀ j, Below W.heap.size W (wr.drewN j) := fun j => hI.trans ⟨rfl, rfl, rfl, Nat.le_refl _, fun _ _ => rfl⟩
        have HDR := hide hdr
        clear hnd hze hve hxx hdr hI hW HA HNA HS32
        go_wp2_with fail
        go_quiet (fail)
        go_wp2_with fail
        exact ⟨⟨i + 1, _, by go_num, rfl, by omega, HSt, HDR.out _⟩, by simp [intOf]; omega⟩
      · have hin : i = zn := by omega
        subst hin
        have HFin : Hid (A ++ ⟨#[10]⟩ = ba E) := by
          show _ = _
          rw [HA.out, List.take_of_length_le (by have := HZN.out; omega), ← HT.out, ← ba_cat (word ++ rest (z.map (nameAt xs))) [10]]
          rfl
        have HBe := hide hW
        have i0 : ¬ (i : Int) < (i : Int) := by omega
        clear hI hW HA cb
        go_wp2_with fail
        go_ret
        exact ⟨by rw [← HFin.out]; rfl, HBe.out⟩
end Tr
end U
end Go.Proofs.YtfoahfgehmghcaaGreatDoor
