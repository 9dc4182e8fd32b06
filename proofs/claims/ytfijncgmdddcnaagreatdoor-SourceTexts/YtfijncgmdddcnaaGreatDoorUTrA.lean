import Derived.Test.YtfijncgmdddcnaaGreatDoorUTx5
import Derived.Test.YtfijncgmdddcnaaGreatDoorUBkM
import Derived.Test.YtfijncgmdddcnaaGreatDoorUKno
import Derived.Test.YtfijncgmdddcnaaGreatDoorUMod
import Derived.Laws.BytesArg
import Derived.Lib.SlBytesConst
import Derived.Lib.ItoaNum
import Derived.Lib.ItoaMem
import Derived.BigQuiet
import Derived.Deep.QuietTactic
import Derived.Deep.RegionHeld3
import Derived.Test.YtfijncgmdddcnaaGreatDoorGRfE
/- The document's Text: the mathematics. -/
namespace Go.Proofs.YtfijncgmdddcnaaGreatDoor
namespace U
namespace Tr
open Go.RowKit

theorem join_two (x y : List UInt8) (r : List (List UInt8)) : Lib.join (x :: y :: r) [32] = x ++ 32 :: Lib.join (y :: r) [32] := by
  simp [Lib.join, List.intercalate, List.intersperse]
theorem join_one (x : List UInt8) : Lib.join [x] [32] = x := by simp [Lib.join, List.intercalate]
/-- Words behind a first one, each with a blank ahead. -/
def rest (ns : List (List UInt8)) : List UInt8 := (ns.map fun n => 32 :: n).flatten
theorem join_rest : ∀ (w : List UInt8) (ns : List (List UInt8)), Lib.join (w :: ns) [32] = w ++ rest ns
  | w, [] => by simp [join_one, rest]
  | w, n :: ns => by rw [join_two, join_rest n ns]; simp [rest]
theorem rest_app (a b : List (List UInt8)) : rest (a ++ b) = rest a ++ rest b := by simp [rest]
theorem line_rest (w : List UInt8) (ns : List (List UInt8)) : lineT (w :: ns) = w ++ rest ns ++ [10] := by unfold lineT; rw [join_rest]
/-- The plan's line, as the document writes it. -/
def planS (nm : List UInt8) (dl : Int) : List UInt8 := [112, 108, 97, 110, 32] ++ nm ++ [32, 100, 101, 97, 100, 108, 105, 110, 101, 32] ++ Lib.itoa dl ++ [10]
theorem planS_eq (nm : List UInt8) (dl : Int) : planS nm dl = lineT (planW nm dl) := by
  unfold planS planW
  rw [line_rest]
  simp [rest, kwPlan, kwDead]
def nodeS (nm : List UInt8) (la bu cl : Int) : List UInt8 := [110, 111, 100, 101, 32] ++ nm ++ [32, 108, 97, 110, 101, 32] ++ Lib.itoa la ++ [32, 98, 117, 100, 103, 101, 116, 32] ++ Lib.itoa bu ++ [32, 99, 108, 111, 115, 101, 32] ++ Lib.itoa cl
def beatS (be : Int) : List UInt8 := if be = 0 then [] else [32, 98, 101, 97, 116, 32] ++ Lib.itoa be
def backS (bs ca : Int) : List UInt8 := if bs = 1 ∧ ca = 1 then [] else [32, 98, 97, 99, 107, 111, 102, 102, 32] ++ Lib.itoa bs ++ [32, 116, 111, 32] ++ Lib.itoa ca
def jitS (ji : Int) : List UInt8 := if ji = 0 then [] else [32, 106, 105, 116, 116, 101, 114, 32] ++ Lib.itoa ji
theorem nodeS_eq (x : Pn) : nodeS x.nm x.la x.bu x.cl ++ beatS x.be ++ backS x.bs x.ca ++ jitS x.ji ++ [10] = lineT (nodeW x) := by
  unfold nodeW wNode
  rw [List.cons_append, List.cons_append, List.cons_append, line_rest]
  have e1 : rest (wBeat x.be) = beatS x.be := by unfold wBeat beatS; split <;> simp [rest, kwBeat]
  have e2 : rest (wBack x.bs x.ca) = backS x.bs x.ca := by unfold wBack backS; split <;> simp [rest, kwBack, kwTo]
  have e3 : rest (wJit x.ji) = jitS x.ji := by unfold wJit jitS; split <;> simp [rest, kwJit]
  rw [rest_app, rest_app, rest_app, e1, e2, e3]
  simp [nodeS, rest, kwNode, kwLane, kwBudget, kwClose]
theorem edge_eq (first : List UInt8) (z : List Int) (xs : List Gr.No) (h : z ≠ []) : first ++ rest (z.map (nameAt xs)) ++ [10] = edgeT first z xs := by
  unfold edgeT edgeW
  rw [if_neg h, line_rest]
/-- The text of the first so many nodes. -/
def upto (nm : List UInt8) (dl : Int) (xs : List Gr.No) (i : Nat) : List UInt8 := lineT (planW nm dl) ++ ((xs.take i).map (nodeT xs)).flatten
theorem upto_all (nm : List UInt8) (dl : Int) (xs : List Gr.No) : upto nm dl xs xs.length = textOf nm dl xs := by
  unfold upto textOf
  rw [List.take_length]
theorem upto_step (nm : List UInt8) (dl : Int) (xs : List Gr.No) (i : Nat) (x : Gr.No) (hx : xs[i]? = some x) : upto nm dl xs (i + 1) = upto nm dl xs i ++ nodeT xs x := by
  have hlt : i < xs.length := (List.getElem?_eq_some_iff.1 hx).1
  have e : xs.take (i + 1) = xs.take i ++ [x] := by
    rw [List.take_add_one, hx]; rfl
  unfold upto
  rw [e]
  simp
theorem upto_len (nm : List UInt8) (dl : Int) (xs : List Gr.No) (i : Nat) : (upto nm dl xs i).length ≤ (textOf nm dl xs).length := by
  unfold upto textOf
  rw [List.length_append, List.length_append]
  generalize nodeT xs = F
  have : ((xs.take i).map F).flatten.length ≤ (xs.map F).flatten.length := by
    conv => rhs; rw [← List.take_append_drop i xs]
    rw [List.map_append, List.flatten_append, List.length_append]
    omega
  omega
theorem upto_zero (nm : List UInt8) (dl : Int) (xs : List Gr.No) : upto nm dl xs 0 = lineT (planW nm dl) := by simp [upto]
/-- a node as it lies in memory, without its lists' places -/
def pn (x : Gr.No) : Pn := ⟨x.q.nm.data.toList, x.q.la, x.q.bu, x.q.cl, x.q.be, x.q.ba, x.q.ca, x.q.ji, x.nl, x.al⟩
theorem no_pn (x : Gr.No) : no (pn x) = er x := by
  obtain ⟨⟨nm, la, bu, cl, be, bs, ca, ji, ne, af⟩, nl, al⟩ := x
  unfold no pn er
  simp [ba_of]
theorem map_pn (xs : List Gr.No) : (xs.map pn).map no = xs.map er := by
  rw [List.map_map]
  exact List.map_congr_left fun x _ => no_pn x
theorem text_short {nm : List UInt8} {dl : Int} {xs : List Gr.No} (h : (Gr.chk (ba nm) dl xs).2 = 0) : (textOf nm dl xs).length ≤ 65536 := by
  have h1 : (Gr.chk (ba nm) dl ((xs.map pn).map no)).2 = 0 := by rw [map_pn, chk_er]; exact h
  have h2 := Bk.back h1
  rw [map_pn, txt_er] at h2
  have h3 := h2.2
  unfold txt at h3
  rw [if_pos h] at h3
  exact h3
end Tr
end U
end Go.Proofs.YtfijncgmdddcnaaGreatDoor

/- The document's decimal. -/
namespace Go.Proofs.YtfijncgmdddcnaaGreatDoor
namespace U
namespace Tr
open Go.RowKit

theorem conv_one {W : World} {g : Nat} {c : UInt8} (h : W.cell? ⟨g, 0, none⟩ = some (.int .u8 (c.toNat : Int))) : (convert 53 9 (.slice (some ⟨g, 0, none⟩) 1 1)).run Tryz.prog W = .ok (.string (ba [c])) W := by
  have e : strOfNums [(c.toNat : Int)] = ba [c] := by
    unfold strOfNums ba
    simp
  rw [← e]
  refine run_convert_bytes_arg W 53 5 Tryz.underlying53 Tryz.underlying5 g 0 1 1 [(c.toNat : Int)] rfl (fun i hi => ?_) 9 Tryz.underlying9
  obtain rfl : i = 0 := by omega
  exact h
theorem ba_cat (a b : List UInt8) : ba a ++ ba b = ba (a ++ b) := by unfold ba; apply ByteArray.ext; simp
theorem dig_num (d : Nat) (h : d < 10) : ((UInt8.ofNat (48 + d)).toNat : Int) = 48 + d := by
  have : (UInt8.ofNat (48 + d)).toNat = 48 + d := by
    rw [UInt8.toNat_ofNat']
    omega
  omega
theorem dec_len : ∀ (n : Nat), n ≤ 9223372036854775807 → (Lib.decDigits n).length ≤ 20 := by
  have key : ∀ (k n : Nat), n < 10 ^ k → (Lib.decDigits n).length ≤ k + 1 := by
    intro k
    induction k with
    | zero => intro n h; rw [Lib.decDigits, dif_pos (by omega)]; simp
    | succ k ih =>
      intro n h
      rw [Lib.decDigits]
      split
      · simp
      · have := ih (n / 10) (by rw [Nat.pow_succ] at h; omega)
        rw [List.length_append]
        simp; omega
  intro n h
  exact Nat.le_trans (key 19 n (by omega)) (by omega)
theorem wrap_id {a : Int} (h0 : 0 ≤ a) (h1 : a ≤ 9223372036854775807) : IntKind.i64.wrap a = a := by simp [IntKind.wrap, IntKind.bits, IntKind.signed]; omega
theorem wrap_u8 {a : Int} (h0 : 0 ≤ a) (h1 : a < 256) : IntKind.u8.wrap a = a := by simp [IntKind.wrap, IntKind.bits, IntKind.signed]; omega
theorem bcell4 {W w1 : World} (hb : Below W.heap.size W w1) : (∀ b o, b < W.heap.size → w1.cell? ⟨b, o, none⟩ = W.cell? ⟨b, o, none⟩) ∧ (∀ b o, b < W.heap.size → w1.frozen? ⟨b, o, none⟩ = W.frozen? ⟨b, o, none⟩) :=
  ⟨fun b o h => hb.cell (p := ⟨b, o, none⟩) h, fun b o h => hb.frozen (p := ⟨b, o, none⟩) h⟩
set_option maxRecDepth 100000 in
set_option maxHeartbeats 1000000 in
theorem decimal_nat (n : Nat) : n ≤ 9223372036854775807 → ∀ w : World,
    Calls Tryz.prog 11 #[.int .i64 n] w fun e w' => e = .returned (.string (ba (Lib.decDigits n))) ∧ Below w.heap.size w w' := by
  induction n using Nat.strongRecOn with
  | ind n ih =>
    intro hn w
    by_cases h : n < 10
    · have hd : Lib.decDigits n = [UInt8.ofNat (48 + n)] := by rw [Lib.decDigits, dif_pos h]
      rw [hd]
      have hnum := dig_num n h
      generalize UInt8.ofNat (48 + n) = c at *
      have hcv := fun (W : World) (g : Nat) (h : W.cell? ⟨g, 0, none⟩ = some (.int .u8 (48 + (n : Int)))) => conv_one (c := c) (W := W) (g := g) (by rw [hnum]; exact h)
      have i0 : (n : Int) < 10 := by omega
      have i1 : (0 : Int) ≤ n := by omega
      clear ih hd hnum
      go_enter Tryz.func11, Tryz.ntmps11
      go_wp2_with fail
      go_ret
      exact ⟨rfl, (Below.refl _ _).alloc (Nat.le_refl _) _⟩
    · have hd : Lib.decDigits n = Lib.decDigits (n / 10) ++ [UInt8.ofNat (48 + n % 10)] := by rw [Lib.decDigits, dif_neg h]
      rw [hd, ← ba_cat]
      have hnum := dig_num (n % 10) (by omega)
      have IH := hide (ih (n / 10) (by omega) (by omega))
      have hl := dec_len (n / 10) (by omega)
      generalize UInt8.ofNat (48 + n % 10) = c at *
      have hcv := fun (W : World) (g : Nat) (h : W.cell? ⟨g, 0, none⟩ = some (.int .u8 (48 + ((n % 10 : Nat) : Int)))) => conv_one (c := c) (W := W) (g := g) (by rw [hnum]; exact h)
      have hsz : (ba (Lib.decDigits (n / 10))).size ≤ 20 := by rw [ba_size]; exact hl
      have hsz1 : (ba [c]).size = 1 := rfl
      have i0 : ¬ (n : Int) < 10 := by omega
      have i1 : (0 : Int) ≤ n := by omega
      have i2 : (n : Int) / 10 = ((n / 10 : Nat) : Int) := by omega
      have i3 : (n : Int) % 10 = ((n % 10 : Nat) : Int) := by omega
      have i4 : ((n % 10 : Nat) : Int) < 10 := by omega
      have i5 : (0 : Int) ≤ ((n % 10 : Nat) : Int) := by omega
      have v1 : IntKind.i64.wrap ((n / 10 : Nat) : Int) = ((n / 10 : Nat) : Int) := wrap_id (by omega) (by omega)
      have v2 : IntKind.i64.wrap ((n % 10 : Nat) : Int) = ((n % 10 : Nat) : Int) := wrap_id (by omega) (by omega)
      have v3 : IntKind.i64.wrap (48 + ((n % 10 : Nat) : Int)) = 48 + ((n % 10 : Nat) : Int) := wrap_id (by omega) (by omega)
      have v4 : IntKind.u8.wrap (48 + ((n % 10 : Nat) : Int)) = 48 + ((n % 10 : Nat) : Int) := wrap_u8 (by omega) (by omega)
      have v6 : Int.tmod (n : Int) 10 = ((n % 10 : Nat) : Int) := by rw [Int.tmod_eq_emod_of_nonneg (by omega)]; omega
      clear ih hd hnum hl
      generalize ba (Lib.decDigits (n / 10)) = A at *
      generalize ba [c] = B at *
      generalize n / 10 = nq at *
      generalize n % 10 = nr at *
      go_enter Tryz.func11, Tryz.ntmps11
      go_wp2_with fail
      refine wp_region_any (by kernel_rfl) ?_
      change wpAny _ _ _ _ _ _ _ (World.drew _)
      have hBd : Below w.heap.size w w.drew := (Below.refl _ w).drew
      generalize w.drew = W at *
      refine wpAny_take (i := 0) (v := .int .i64 n) rfl (by kernel_rfl) (by kernel_rfl) (by kernel_rfl) (fun _ _ _ h => h) (Or.inl ⟨by rfl, fun w => by go_simp⟩) ?_
      refine wpAny_take (i := 1) (v := .int .i64 nq) rfl (by kernel_rfl) (by kernel_rfl) (by kernel_rfl) (fun _ _ _ h => h) (Or.inl ⟨by rfl, fun w => by go_simp; first | done | exact v1 | simp [v1]⟩) ?_
      refine wpAny_take (i := 3) (v := .int .i64 n) rfl (by kernel_rfl) (by kernel_rfl) (by kernel_rfl) (fun _ _ _ h => h) (Or.inl ⟨by rfl, fun w => by go_simp⟩) ?_
      refine wpAny_take (i := 4) (v := .int .i64 nr) rfl (by kernel_rfl) (by kernel_rfl) (by kernel_rfl) (fun _ _ _ h => h) (Or.inl ⟨by rfl, fun w => by go_simp; first | done | exact v2 | exact i3 | exact v6 | (rw [v6]; exact v2) | trace_state⟩) ?_
      refine wpAny_take (i := 5) (v := .int .i64 (48 + nr)) rfl (by kernel_rfl) (by kernel_rfl) (by kernel_rfl) (fun _ _ _ h => h) (Or.inl ⟨by rfl, fun w => by go_simp; first | done | exact v3 | simp [v3]⟩) ?_
      refine wpAny_take (i := 6) (v := .int .u8 (48 + nr)) rfl (by kernel_rfl) (by kernel_rfl) (by kernel_rfl) (fun _ _ _ h => h) (Or.inl ⟨by rfl, fun w => by go_simp; first | done | exact v4 | simp [v4]⟩) ?_
      refine wpAny_ready (rs := [2, 7]) (by kernel_rfl) (by simp) ?_
      refine AllReady.cons rfl (fun K hK => ?_) (AllReady.cons rfl (fun K hK => ?_) AllReady.nil)
      · go_simp
        go_wp2_with (go_at_call 11; refine (IH.out _).mono ?_; rintro e w4 ⟨rfl, hb4⟩)
        try (refine hK _ _ ?_; clear hK K)
        have HBe := hide (hBd.trans (hb4.mono hBd.size))
        refine wpAny_ready (rs := [7]) (by kernel_rfl) (by simp) ?_
        refine AllReady.cons rfl (fun K hK => ?_) AllReady.nil
        go_simp
        try (refine hK _ _ ?_; clear hK K)
        refine wpAny_ready (rs := [8]) (by kernel_rfl) (by simp) ?_
        refine AllReady.cons rfl (fun K hK => ?_) AllReady.nil
        go_simp
        try (refine hK _ _ ?_; clear hK K)
        refine wpAny_ready (rs := [9]) (by kernel_rfl) (by simp) ?_
        refine AllReady.cons rfl (fun K hK => ?_) AllReady.nil
        go_simp
        go_wp2_with fail
        try (refine hK _ _ ?_; clear hK K)
        refine wpAny_ready (rs := [10]) (by kernel_rfl) (by simp) ?_
        refine AllReady.cons rfl (fun K hK => ?_) AllReady.nil
        go_simp
        try (refine hK _ _ ?_; clear hK K)
        refine wpAny_done (by kernel_rfl) ?_ _
        go_wp2_with fail
        go_ret
        exact ⟨rfl, HBe.out.alloc HBe.out.size _⟩
      · go_simp
        try (refine hK _ _ ?_; clear hK K)
        have hb5 : Below w.heap.size w (W.alloc (.cells #[.int .u8 (48 + (nr : Int))] 5)) := hBd.alloc hBd.size _
        have hc5 : (W.alloc (.cells #[.int .u8 (48 + (nr : Int))] 5)).cell? ⟨W.heap.size, 0, none⟩ = some (.int .u8 (48 + (nr : Int))) := by rw [cell_of_row _ _ _ _ _ _ (heap_alloc_new W _)]; rfl
        generalize W.alloc (.cells #[.int .u8 (48 + (nr : Int))] 5) = W5 at *
        generalize W.heap.size = g5 at *
        refine wpAny_ready (rs := [2, 8]) (by kernel_rfl) (by simp) ?_
        refine AllReady.cons rfl (fun K hK => ?_) (AllReady.cons rfl (fun K hK => ?_) AllReady.nil)
        · go_simp
          go_wp2_with (go_at_call 11; refine (IH.out _).mono ?_; rintro e w6 ⟨rfl, hb6⟩)
          try (refine hK _ _ ?_; clear hK K)
          have hc6 : w6.cell? ⟨g5, 0, none⟩ = some (.int .u8 (48 + (nr : Int))) := by rw [hb6.cell (p := ⟨g5, 0, none⟩) (World.block_lt_of_cell? _ _ hc5)]; exact hc5
          have HBe := hide (hb5.trans (hb6.mono hb5.size))
          refine wpAny_ready (rs := [8]) (by kernel_rfl) (by simp) ?_
          refine AllReady.cons rfl (fun K hK => ?_) AllReady.nil
          go_simp
          try (refine hK _ _ ?_; clear hK K)
          refine wpAny_ready (rs := [9]) (by kernel_rfl) (by simp) ?_
          refine AllReady.cons rfl (fun K hK => ?_) AllReady.nil
          go_simp
          go_wp2_with fail
          try (refine hK _ _ ?_; clear hK K)
          refine wpAny_ready (rs := [10]) (by kernel_rfl) (by simp) ?_
          refine AllReady.cons rfl (fun K hK => ?_) AllReady.nil
          go_simp
          try (refine hK _ _ ?_; clear hK K)
          refine wpAny_done (by kernel_rfl) ?_ _
          go_wp2_with fail
          go_ret
          exact ⟨rfl, HBe.out⟩
        · go_simp
          try (refine hK _ _ ?_; clear hK K)
          refine wpAny_ready (rs := [2]) (by kernel_rfl) (by simp) ?_
          refine AllReady.cons rfl (fun K hK => ?_) AllReady.nil
          go_simp
          go_wp2_with (go_at_call 11; refine (IH.out _).mono ?_; rintro e w6 ⟨rfl, hb6⟩)
          try (refine hK _ _ ?_; clear hK K)
          have HBe := hide (hb5.trans (hb6.mono hb5.size))
          refine wpAny_ready (rs := [9]) (by kernel_rfl) (by simp) ?_
          refine AllReady.cons rfl (fun K hK => ?_) AllReady.nil
          go_simp
          go_wp2_with fail
          try (refine hK _ _ ?_; clear hK K)
          refine wpAny_ready (rs := [10]) (by kernel_rfl) (by simp) ?_
          refine AllReady.cons rfl (fun K hK => ?_) AllReady.nil
          go_simp
          try (refine hK _ _ ?_; clear hK K)
          refine wpAny_done (by kernel_rfl) ?_ _
          go_wp2_with fail
          go_ret
          exact ⟨rfl, HBe.out⟩
theorem decimal_any (n : Int) (h0 : 0 ≤ n) (h1 : n ≤ 9223372036854775807) (w : World) :
    Calls Tryz.prog 11 #[.int .i64 n] w fun e w' => e = .returned (.string (ba (Lib.itoa n))) ∧ Below w.heap.size w w' := by
  obtain ⟨m, rfl⟩ : ∃ m : Nat, n = m := ⟨n.toNat, by omega⟩
  rw [Lib.itoa_nonneg]
  exact decimal_nat m (by omega) w
theorem itoa_len (n : Int) (h0 : 0 ≤ n) (h1 : n ≤ 9223372036854775807) : (ba (Lib.itoa n)).size ≤ 20 := by
  obtain ⟨m, rfl⟩ : ∃ m : Nat, n = m := ⟨n.toNat, by omega⟩
  rw [Lib.itoa_nonneg, ba_size]
  exact dec_len m (by omega)
end Tr
end U
end Go.Proofs.YtfijncgmdddcnaaGreatDoor

/- The document's names. -/
namespace Go.Proofs.YtfijncgmdddcnaaGreatDoor
namespace U
namespace Tr
open Go.RowKit

theorem rest_len (xs : List Gr.No) (h : ∀ x ∈ xs, x.q.nm.size ≤ 40) (z : List Int) : (rest (z.map (nameAt xs))).length ≤ z.length * 41 := by
  unfold rest
  induction z with
  | nil => simp
  | cons e z ih =>
    have := nameAt_len xs h e
    simp only [List.map_cons, List.flatten_cons, List.length_append, List.length_cons] at ih ⊢
    omega
theorem rest_snoc (xs : List Gr.No) (z : List Int) (i : Nat) (e : Int) (h : z[i]? = some e) (w : List UInt8) : ba (w ++ rest ((z.take i).map (nameAt xs))) ++ ba [32] ++ ba (nameAt xs e) = ba (w ++ rest ((z.take (i + 1)).map (nameAt xs))) := by
  rw [Gr.take_snoc z i e h, List.map_append, rest_app, ba_cat, ba_cat]
  simp [rest]
set_option maxRecDepth 100000 in
set_option maxHeartbeats 4000000 in
theorem names_any (nm : ByteArray) (dl : Int) (word : List UInt8) (hw : word.length ≤ 10) (z : List Int) (ez ns : Option Addr × Nat × Nat) (xs : List Gr.No) (B : Nat) (w : World) (hB : B ≤ w.heap.size) (hz : Gr.RdZ B w ez z) (hP : Gr.RdP B w ns xs) (hv : ∀ e ∈ z, 0 ≤ e ∧ e < xs.length) (hzl : z.length ≤ 256) (hnm : ∀ x ∈ xs, x.q.nm.size ≤ 40) :
    Calls Tryz.prog 12 #[.agg #[.string nm, .int .i64 dl, .slice ns.1 ns.2.1 ns.2.2], .string (ba word), .slice ez.1 ez.2.1 ez.2.2] w fun e w' => e = .returned (.string (ba (edgeT word z xs))) ∧ Below w.heap.size w w' := by
  obtain ⟨za, zn, zc⟩ := ez
  obtain ⟨na, nn, nc⟩ := ns
  have hznl : zn = z.length := hz.1
  have hnnl : nn = xs.length := hP.1
  have HZ := hide hz
  have HP := hide hP
  have HV := hide hv
  have HNM := hide hnm
  simp only
  have hbx := heap_alloc_new w (.cells #[.string nm, .int .i64 dl, .slice na nn nc] 24)
  have bel0 : Below w.heap.size w (w.alloc (.cells #[.string nm, .int .i64 dl, .slice na nn nc] 24)) := (Below.refl _ w).alloc (Nat.le_refl _) _
  by_cases h0 : z = []
  · have hzn : zn = 0 := by rw [hznl, h0]; rfl
    have HT : Hid (edgeT word z xs = []) := by show _ = _; unfold edgeT; rw [if_pos h0]
    have BEL := hide bel0
    clear hz hP hv hnm hznl hnnl h0 bel0 hbx
    subst hzn
    go_enter Tryz.func12, Tryz.ntmps12
    go_wp2_with fail
    go_ret
    exact ⟨by rw [HT.out]; rfl, BEL.out⟩
  · have HT := hide (edge_eq word z xs h0)
    have hzp : 0 < zn := by rw [hznl]; exact List.length_pos_iff.2 h0
    have hz0 : ((zn : Int) == 0) = false := by simp; omega
    have HZN := hide hznl
    have HNN := hide hnnl
    have hzn2 : zn ≤ 256 := by omega
    have HBX := hide hbx
    have BEL := hide bel0
    have HLn := hide (rest_len xs hnm)
    generalize edgeT word z xs = E at *
    clear hz hP hv hnm hznl hnnl h0 bel0 hbx
    go_enter Tryz.func12, Tryz.ntmps12
    go_wp2_with fail
    generalize w.alloc (.cells #[.string nm, .int .i64 dl, .slice na nn nc] 24) = W at *
    have hpl : w.heap.size < W.heap.size := (Array.getElem?_eq_some_iff.1 HBX.out).1
    go_loopw [7, 8] (fun v iv wr => ∃ (i : Nat) (A : ByteArray), iv = .int .i64 (i : Nat) ∧ v = .string A ∧ i ≤ zn ∧ Hid (A = ba (word ++ rest ((z.take i).map (nameAt xs)))) ∧ Below W.heap.size W wr) (fun _ iv _ => zn - (intOf iv).toNat)
    case atStart => exact ⟨0, _, rfl, rfl, Nat.zero_le _, (by show _ = _; simp [rest]), Below.refl _ _⟩
    case round =>
      obtain ⟨i, A, rfl, rfl, hi', HA, hI⟩ := hrel
      have hAs : A.size ≤ 10 + 256 * 41 := by
        rw [HA.out, ba_size, List.length_append]
        have := HLn.out (z.take i)
        have h2 : (z.take i).length ≤ 256 := by rw [List.length_take]; have := HZN.out; omega
        have h3 : (z.take i).length * 41 ≤ 256 * 41 := Nat.mul_le_mul_right 41 h2
        omega
      have hW := BEL.out.trans (hI.mono BEL.out.size)
      have cb : wr.cell? ⟨w.heap.size, 2, none⟩ = some (.slice na nn nc) := by
        rw [hI.cell (p := ⟨w.heap.size, 2, none⟩) hpl]; exact cell_blk HBX.out 2 rfl
      by_cases hlt : i < zn
      · obtain ⟨g, off, e, he1, he2, hze, hce⟩ := (rdz_below HZ.out hW hB).at (i := i) hlt
        simp only at he1
        subst he1
        have hve := HV.out e (List.mem_of_getElem? hze)
        obtain ⟨k, rfl⟩ : ∃ k : Nat, e = (k : Int) := ⟨e.toNat, by omega⟩
        have hkn : k < nn := by have := HNN.out; omega
        obtain ⟨g2, off2, x, hx1, hx2, hxx, hnd, _⟩ := (rdp_below HP.out hW hB).at (i := k) hkn
        simp only at hx1
        subst hx1
        have HNA : Hid (nameAt xs (k : Int) = x.q.nm.data.toList) := by show _ = _; unfold nameAt; rw [show ((k : Int)).toNat = k by simp, hxx]
        have hcn := hnd.all.1
        rw [show x.q.nm = ba (nameAt xs (k : Int)) by rw [HNA.out]; rfl] at hcn
        have HSt := hide (rest_snoc xs z i _ hze word)
        rw [← HA.out] at HSt
        have hns : (ba (nameAt xs (k : Int))).size ≤ 40 := by rw [ba_size]; exact nameAt_len xs HNM.out _
        have HS32 : Hid (ba [32] = ⟨#[32]⟩) := rfl
        rw [HS32.out] at HSt
        generalize ba (nameAt xs (k : Int)) = nk at *
        have i0 : (i : Int) < zn := by omega
        have i1 : (k : Int) < nn := by omega
        have hdr : ∀ j, Below W.heap.size W (wr.drewN j) := fun j => hI.trans ⟨rfl, rfl, rfl, Nat.le_refl _, fun _ _ => rfl⟩
        have HDR := hide hdr
        clear hnd hze hve hxx hdr hI hW HA HNA HS32
        go_wp2_with fail
        go_quiet (fail)
        go_wp2_with fail
        exact ⟨⟨i + 1, _, by go_num, rfl, by omega, HSt, HDR.out _⟩, by simp [intOf]; omega⟩
      · have hin : i = zn := by omega
        subst hin
        have HFin : Hid (A ++ ⟨#[10]⟩ = ba E) := by
          show _ = _
          rw [HA.out, List.take_of_length_le (by have := HZN.out; omega), ← HT.out, ← ba_cat (word ++ rest (z.map (nameAt xs))) [10]]
          rfl
        have HBe := hide hW
        have i0 : ¬ (i : Int) < (i : Int) := by omega
        clear hI hW HA cb
        go_wp2_with fail
        go_ret
        exact ⟨by rw [← HFin.out]; rfl, HBe.out⟩
end Tr
end U
end Go.Proofs.YtfijncgmdddcnaaGreatDoor

/- The document's Text: the pieces of its walk. -/
namespace Go.Proofs.YtfijncgmdddcnaaGreatDoor
namespace U
namespace Tr
open Go.RowKit

/-- a number that decimal writes -/
def d64 (n : Int) : Prop := 0 ≤ n ∧ n ≤ 9223372036854775807
theorem num_of {nm : List UInt8} {dl : Int} {xs : List Gr.No} (h : (Gr.chk (ba nm) dl xs).2 = 0) : d64 dl ∧ ∀ x ∈ xs, d64 x.q.la ∧ d64 x.q.bu ∧ d64 x.q.cl ∧ d64 x.q.be ∧ d64 x.q.ba ∧ d64 x.q.ca ∧ d64 x.q.ji := by
  obtain ⟨h1, h2, h3, h4, h5⟩ := Gr.chk_ok h
  have hn := cN_each _ _ _ _ h2
  unfold Gr.cW at h1
  split at h1
  · simp at h1
  · rename_i c1
    split at h1
    · simp at h1
    · rename_i c2
      split at h1
      · simp at h1
      · rename_i c3
        simp only [Bool.not_eq_true', Bool.not_eq_false, Bool.or_eq_true, not_or, decide_eq_true_eq] at c1 c2 c3
        refine ⟨?_, fun x hx => ?_⟩
        · simp [Gr.wI] at c2
          exact ⟨by omega, by omega⟩
        · obtain ⟨g1, g2⟩ := hn x hx
          unfold Gr.fOk at g2
          simp [Gr.wI] at g2
          refine ⟨⟨?_, ?_⟩, ⟨?_, ?_⟩, ⟨?_, ?_⟩, ⟨?_, ?_⟩, ⟨?_, ?_⟩, ⟨?_, ?_⟩, ⟨?_, ?_⟩⟩ <;> omega
theorem calls_b {f : FuncId} {args : Array Value} {W : World} (u : Gr.Behind W) {v : Value}
    (h : Calls Tryz.prog f args u.1 fun e w' => e = .returned v ∧ Below u.1.heap.size u.1 w') : Calls Tryz.prog f args u.1 fun e w'' => e = .returned v ∧ ∃ u' : Gr.Behind W, w'' = u'.1 :=
  h.mono fun _ w'' ⟨he, hb⟩ => ⟨he, ⟨w'', u.2.trans (hb.mono u.2.size)⟩, rfl⟩
theorem dec_lit {n : Int} (h : d64 n) (w : World) : Calls Tryz.prog 11 #[.int .i64 n] w fun e w' => e = .returned (.string (ba (Lib.itoa n))) ∧ Below w.heap.size w w' := decimal_any n h.1 h.2 w
theorem dec_sz {n : Int} (h : d64 n) : (ba (Lib.itoa n)).size ≤ 20 := itoa_len n h.1 h.2
/-- a number and its text -/
structure Dc (n : Int) (s : ByteArray) : Prop where
  h : d64 n
  e : s = ba (Lib.itoa n)
theorem dcall {n : Int} {s : ByteArray} (h : Dc n s) (w : World) : Calls Tryz.prog 11 #[.int .i64 n] w fun e w' => e = .returned (.string s) ∧ Below w.heap.size w w' := by rw [h.e]; exact dec_lit h.h w
theorem Dc.mk1 {n : Int} (h : d64 n) : Dc n (ba (Lib.itoa n)) := ⟨h, rfl⟩
/-- a call of names, wherever memory stands behind a world -/
structure Nc (l p : Value) (wd t : ByteArray) (W0 : World) : Prop where
  c : ∀ u : Gr.Behind W0, Calls Tryz.prog 12 #[p, .string wd, l] u.1 fun e w' => e = .returned (.string t) ∧ Below u.1.heap.size u.1 w'
theorem ncall {l p : Value} {wd t : ByteArray} {W0 : World} (h : Nc l p wd t W0) (u : Gr.Behind W0) : Calls Tryz.prog 12 #[p, .string wd, l] u.1 fun e w' => e = .returned (.string t) ∧ Below u.1.heap.size u.1 w' := h.c u
theorem planE (nm : List UInt8) (dl : Int) (xs : List Gr.No) : ((((⟨#[112, 108, 97, 110, 32]⟩ : ByteArray) ++ ba nm) ++ ⟨#[32, 100, 101, 97, 100, 108, 105, 110, 101, 32]⟩) ++ ba (Lib.itoa dl)) ++ ⟨#[10]⟩ = ba (upto nm dl xs 0) := by
  rw [upto_zero, ← planS_eq]
  unfold planS
  rw [← ba_cat, ← ba_cat, ← ba_cat, ← ba_cat]
  rfl
theorem nodeE (L nm : List UInt8) (la bu cl : Int) : (((((((ba L ++ (⟨#[110, 111, 100, 101, 32]⟩ : ByteArray)) ++ ba nm) ++ ⟨#[32, 108, 97, 110, 101, 32]⟩) ++ ba (Lib.itoa la)) ++ ⟨#[32, 98, 117, 100, 103, 101, 116, 32]⟩) ++ ba (Lib.itoa bu)) ++ ⟨#[32, 99, 108, 111, 115, 101, 32]⟩) ++ ba (Lib.itoa cl) = ba (L ++ nodeS nm la bu cl) := by
  unfold nodeS
  rw [show (⟨#[110, 111, 100, 101, 32]⟩ : ByteArray) = ba [110, 111, 100, 101, 32] from rfl, show (⟨#[32, 108, 97, 110, 101, 32]⟩ : ByteArray) = ba [32, 108, 97, 110, 101, 32] from rfl, show (⟨#[32, 98, 117, 100, 103, 101, 116, 32]⟩ : ByteArray) = ba [32, 98, 117, 100, 103, 101, 116, 32] from rfl, show (⟨#[32, 99, 108, 111, 115, 101, 32]⟩ : ByteArray) = ba [32, 99, 108, 111, 115, 101, 32] from rfl]
  simp only [ba_cat, List.append_assoc]
theorem beatE (L : List UInt8) (be : Int) (h : be ≠ 0) : (ba L ++ (⟨#[32, 98, 101, 97, 116, 32]⟩ : ByteArray)) ++ ba (Lib.itoa be) = ba (L ++ beatS be) := by
  unfold beatS
  rw [if_neg h, show (⟨#[32, 98, 101, 97, 116, 32]⟩ : ByteArray) = ba [32, 98, 101, 97, 116, 32] from rfl]
  simp only [ba_cat, List.append_assoc]
theorem backE (L : List UInt8) (bs ca : Int) (h : ¬ (bs = 1 ∧ ca = 1)) : (((ba L ++ (⟨#[32, 98, 97, 99, 107, 111, 102, 102, 32]⟩ : ByteArray)) ++ ba (Lib.itoa bs)) ++ ⟨#[32, 116, 111, 32]⟩) ++ ba (Lib.itoa ca) = ba (L ++ backS bs ca) := by
  unfold backS
  rw [if_neg h, show (⟨#[32, 98, 97, 99, 107, 111, 102, 102, 32]⟩ : ByteArray) = ba [32, 98, 97, 99, 107, 111, 102, 102, 32] from rfl, show (⟨#[32, 116, 111, 32]⟩ : ByteArray) = ba [32, 116, 111, 32] from rfl]
  simp only [ba_cat, List.append_assoc]
theorem jitE (L : List UInt8) (ji : Int) (h : ji ≠ 0) : (ba L ++ (⟨#[32, 106, 105, 116, 116, 101, 114, 32]⟩ : ByteArray)) ++ ba (Lib.itoa ji) = ba (L ++ jitS ji) := by
  unfold jitS
  rw [if_neg h, show (⟨#[32, 106, 105, 116, 116, 101, 114, 32]⟩ : ByteArray) = ba [32, 106, 105, 116, 116, 101, 114, 32] from rfl]
  simp only [ba_cat, List.append_assoc]
theorem lastE (nm : List UInt8) (dl : Int) (xs : List Gr.No) (i : Nat) (x : Gr.No) (hx : xs[i]? = some x) : ((ba (upto nm dl xs i ++ nodeS x.q.nm.data.toList x.q.la x.q.bu x.q.cl ++ beatS x.q.be ++ backS x.q.ba x.q.ca ++ jitS x.q.ji) ++ (⟨#[10]⟩ : ByteArray)) ++ ba (edgeT kwNeeds2 x.nl xs)) ++ ba (edgeT kwAfter2 x.al xs) = ba (upto nm dl xs (i + 1)) := by
  rw [upto_step nm dl xs i x hx]
  unfold nodeT noW
  rw [← nodeS_eq, show (⟨#[10]⟩ : ByteArray) = ba [10] from rfl]
  simp only [ba_cat, List.append_assoc]
theorem node_len {nm : List UInt8} {la bu cl : Int} (h : nm.length ≤ 40) (h1 : d64 la) (h2 : d64 bu) (h3 : d64 cl) : (nodeS nm la bu cl).length ≤ 140 := by
  have a1 := dec_sz h1; have a2 := dec_sz h2; have a3 := dec_sz h3
  rw [ba_size] at a1 a2 a3
  unfold nodeS
  simp only [List.length_append, List.length_cons, List.length_nil]
  omega
theorem beat_len {be : Int} (h1 : d64 be) : (beatS be).length ≤ 40 := by
  have a1 := dec_sz h1
  rw [ba_size] at a1
  unfold beatS
  split
  · simp
  · simp only [List.length_append, List.length_cons, List.length_nil]
    omega
theorem back_len {bs ca : Int} (h1 : d64 bs) (h2 : d64 ca) : (backS bs ca).length ≤ 60 := by
  have a1 := dec_sz h1; have a2 := dec_sz h2
  rw [ba_size] at a1 a2
  unfold backS
  split
  · simp
  · simp only [List.length_append, List.length_cons, List.length_nil]
    omega
theorem jit_len {ji : Int} (h1 : d64 ji) : (jitS ji).length ≤ 40 := by
  have a1 := dec_sz h1
  rw [ba_size] at a1
  unfold jitS
  split
  · simp
  · simp only [List.length_append, List.length_cons, List.length_nil]
    omega
end Tr
end U
end Go.Proofs.YtfijncgmdddcnaaGreatDoor
