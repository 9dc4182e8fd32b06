import Derived.Test.YtilpidioengnbaaDPw
/- DiskPlays: the document's List. -/
namespace Go.Proofs.Ytilpidioengnbaa
namespace DP
open Go.RowKit

theorem info_i : (Try.prog.info? 3).map (fun i => (i.zero, i.size, i.bytes)) = some (some (.int .i64 0), 1, 8) := by kernel_rfl
def kv (L : List Sg) : List Value := L.map fun e => .int .i64 e.1
/-- a number more behind a row of the call's own -/
theorem wp_app_i {w : World} {ops : Array Oper} {rest : List Oper} {o : Oper} {a : Act} {Q : Exit → Act → World → Prop} (hgd : o.guard = none) (s x : Operand)
    (ho : o.op = .call { callee := .builtin .append, args := #[s, x], argTypes := #[34, 34] })
    (base : Nat) (v : Value) (n : Nat) (xs : List Value) (hs : a.eval s = v) (hown : w.ownsRow base 3 1 v n xs) (B : Nat) (k : Int) (hx : a.eval x = .slice (some ⟨B, 0, none⟩) 1 1) (hq : w.heap[B]? = some (.cells #[.int .i64 k] 3 (0, 0))) (hn : n ≤ 2199023255552) (hbase : base ≤ w.heap.size)
    (h : ∀ v' w', w'.ownsRow base 3 1 v' (n + 1) (xs ++ [.int .i64 k]) → Keep (fun k => v.ownBlock = some k) w w' → wpList Try.prog ops Q rest (a.put o.dst v') w') : wpList Try.prog ops Q (o :: rest) a w := by
  obtain ⟨i0, hi, hz0, hz1, hz2⟩ := info_parts info_i
  refine wpList_append_own_at _ hgd s x 34 ho base 3 i0 _ 1 8 Try.underlying34 hi hz0 hz1 hz2 rfl (by decide) v n xs hs hown ⟨B, 0, none⟩ 1 1 [.int .i64 k] hx rfl (fun j u hu => ?_) (fun u hu => ?_) (by unfold maxLen; omega) (by omega) hbase ?_
  · have e : (⟨B, 0, none⟩ : Addr).add j = ⟨B, j, none⟩ := by unfold Addr.add; split <;> simp_all
    rw [e, cell_of_row _ _ _ _ _ _ hq]
    simpa using hu
  · simp at hu
    rw [hu]
    rfl
  · intro v' w' h1 h2 _ _
    exact h v' w' h1 (Keep.grown h2 fun k e => e)
/-- what List answers -/
def ListR (w : World) (r : Rf) (e : Ending) (w' : World) : Prop :=
  ∃ v, e = .returned (.tuple #[v, .int .i64 (if r.off then 56 else 0)]) ∧ w'.ownsRow w.heap.size 3 1 v (if r.off then 0 else r.th.length) (if r.off then [] else kv r.th) ∧ Keep (fun _ => False) w w'
set_option maxRecDepth 100000 in
set_option maxHeartbeats 1600000 in
theorem refList_any (S : Nat → Prop) (w : World) (P : Nat) (r : Rf) (h : RIn S w P r) (hlen : r.th.length ≤ 1099511627776) :
    Calls Try.prog 42 #[.pointer (some ⟨P, 0, none⟩)] w (ListR w r) := by
  obtain ⟨vt, L, vs, ls, h, ht, hs⟩ := h
  obtain ⟨rc, rth, rsf, rl, ro⟩ := r
  dsimp only at h ht hs hlen
  have c4 := cell_blk h.blk 4 (v := .bool ro) rfl
  obtain ⟨a, c, hvt, _⟩ := ownsRow_sh h.t.row
  subst hvt
  have c1 := cell_blk h.blk 1 (v := .slice a L.length c) rfl
  have HR := hide h.t
  have HT := hide ht
  have hll : L.length ≤ 1099511627776 := by rw [ht, List.length_map] at hlen; exact hlen
  unfold ListR
  dsimp only
  clear h ht hs
  cases ro with
  | true =>
    go_enter Try.func42, Try.ntmps42
    go_wp2
    go_ret2
    exact ⟨_, rfl, World.ownsRow_nil _ _ _ _, Keep.refl _ _⟩
  | false =>
    have HC1 := hide c1
    clear c1
    go_enter Try.func42, Try.ntmps42
    go_wp2_with fail
    go_loopw [4, 5] (fun v iv wr => ∃ i : Nat, iv = .int .i64 (i : Nat) ∧ i ≤ L.length ∧ wr.ownsRow w.heap.size 3 1 v i (kv ((L.take i).map Sv.sg)) ∧ Hid (Keep (fun _ => False) w wr)) (fun _ iv _ => L.length - (intOf iv).toNat)
    case atStart => exact ⟨0, rfl, Nat.zero_le _, World.ownsRow_nil _ _ _ _, Keep.refl _ _⟩
    case round =>
      obtain ⟨i, rfl, hil, hrow, HK⟩ := hrel
      have c1 := HK.out.cell HC1.out fun f => f
      by_cases hlt : i < L.length
      · have hlt' : (i : Int) < (L.length : Int) := by omega
        obtain ⟨e, he⟩ : ∃ e, L[i]? = some e := ⟨_, List.getElem?_eq_getElem hlt⟩
        have hRw := ownsRow_keep HR.out.row HK.out fun _ _ f => f
        obtain ⟨g, cap, hv, c0, _⟩ := row_at hRw he
        injection hv with hv1 _ hv2
        subst hv1
        have HTk : Hid (kv ((L.take (i + 1)).map Sv.sg) = kv ((L.take i).map Sv.sg) ++ [.int .i64 e.k]) := by
          show _ = _
          rw [take_at he]
          unfold kv
          simp [Sv.sg]
        have hw : wrap64 ((i : Int) + 1) = ((i + 1 : Nat) : Int) := wr' (by omega) (by omega) (by omega)
        have HIL := hide (show i + 1 ≤ L.length by omega)
        clear hRw hv2 he
        go_wp2_with (first | (at_builtin; refine wp_app_i rfl _ _ rfl w.heap.size _ _ _ rfl (hrow.alloc _) _ _ rfl (heap_alloc_new _ _) ?b1 ?b2 ?_) | go_in)
        case b1 => have := HIL.out; omega
        case b2 => have := HK.out.size; first | (simp only [World.size_alloc]; omega) | omega
        intro v' w4 hown' hkp
        have HK4 : Hid (Keep (fun _ => False) w w4) := HK.out.trans ((Keep.alloc _ _ _).more hkp) fun i e => .inr (hrow.lt i e).1
        have hown4 : w4.ownsRow w.heap.size 3 1 v' (i + 1) (kv ((L.take (i + 1)).map Sv.sg)) := by
          rw [HTk.out]
          rw [List.map_take]
          exact hown'
        clear hown' hkp hrow
        go_wp2
        go_roundw
        case rel => exact ⟨i + 1, by go_num, HIL.out, hown4, HK4⟩
        case measure => simp [intOf]; omega
      · have hlt' : ¬ (i : Int) < (L.length : Int) := by omega
        obtain rfl : i = L.length := by omega
        rw [List.take_length, ← HT.out] at hrow
        have HRw := hide hrow
        have HLl := hide (show L.length = rth.length by rw [HT.out, List.length_map])
        clear hrow
        go_wp2
        go_ret2
        have h1 := HRw.out
        rw [HLl.out] at h1
        exact ⟨_, rfl, h1, HK.out⟩
end DP
end Go.Proofs.Ytilpidioengnbaa

/- DiskPlays: the document's Read. -/
namespace Go.Proofs.Ytilpidioengnbaa
namespace DP
open Go.RowKit

/-- append([]byte{}, l...) : bytes of the call's own -/
theorem wp_copyB {w : World} {ops : Array Oper} {rest : List Oper} {o : Oper} {ac : Act} {Q : Exit → Act → World → Prop} (hgd : o.guard = none) (s x : Operand)
    (ho : o.op = .call { callee := .builtin .append, args := #[s, x], argTypes := #[33, 33] })
    (hs : ac.eval s = .slice (some ⟨w.heap.size, 0, none⟩) 0 0) (v : Value) (l : List Nat) (hx : ac.eval x = v) (hr : Row w v l) (hsz : l.length ≤ 140737488355328)
    (h : ∀ a' c' w', Row w' (.slice a' l.length c') l → (∀ g, (Value.slice a' l.length c').ownBlock = some g → w.heap.size ≤ g) → Keep (fun _ => False) w w' → wpList Try.prog ops Q rest (ac.put o.dst (.slice a' l.length c')) w') : wpList Try.prog ops Q (o :: rest) ac (w.alloc (.cells #[] 5)) := by
  have ka : Keep (fun _ => False) w (w.alloc (.cells #[] 5)) := Keep.alloc _ _ _
  obtain ⟨a, c, rfl, hrd, h0, _⟩ := hr.rd (by omega)
  refine wpList_append_rd hgd s x ho (.slice (some ⟨w.heap.size, 0, none⟩) 0 0) [] w.heap.size hs ⟨rfl, .inr ⟨w.heap.size, 0, #[], rfl, Nat.le_refl _, heap_alloc_new w _, Nat.le_refl _, Nat.zero_le _, rfl, rfl⟩⟩ a l.length c l hx (hrd.stay ka fun _ _ _ f => f) h0 (by simpa using hsz) ka.size fun v' w' h1 h2 h3 => ?_
  rw [List.nil_append] at h1
  obtain ⟨a', c', rfl, _⟩ := ownsRow_sh h1
  refine h a' c' w' ⟨h1.mono (Nat.zero_le _), hr.2⟩ (fun g e => (h1.lt g e).1) ?_
  exact ⟨h2.os.trans ka.os, h2.tape.trans ka.tape, h2.output.trans ka.output, Nat.le_trans ka.size h2.size, fun k hk _ => (h2.block k (Nat.lt_of_lt_of_le hk ka.size) (fun e => by have e : some k = some w.heap.size := e; injection e with e; omega)).trans (ka.block k hk fun f => f)⟩
/-- what Read answers -/
def ReadC (w : World) (b : List Nat) (c : Int) (e : Ending) (w' : World) : Prop :=
  ∃ v, e = .returned (.tuple #[v, .int .i64 c]) ∧ Row w' v b ∧ (∀ g, v.ownBlock = some g → w.heap.size ≤ g) ∧ Keep (fun _ => False) w w'
def ReadR (w : World) (r : Rf) (k : Int) : Ending → World → Prop :=
  ReadC w (if r.off then [] else (lookS r.th k).getD []) (if r.off then 56 else if lookS r.th k = none then 53 else 0)
set_option maxRecDepth 100000 in
set_option maxHeartbeats 1600000 in
theorem refRead_any (S : Nat → Prop) (w : World) (P : Nat) (r : Rf) (k : Int) (h : RIn S w P r) (_h1 : -9223372036854775808 ≤ k) (_h2 : k ≤ 9223372036854775807) (hlen : r.th.length ≤ 1099511627776) (hby : ∀ e ∈ r.th, e.2.length ≤ 67108864) :
    Calls Try.prog 38 #[.pointer (some ⟨P, 0, none⟩), .int .i64 k] w (ReadR w r k) := by
  obtain ⟨vt, L, vs, ls, h, ht, hs⟩ := h
  obtain ⟨rc, rth, rsf, rl, ro⟩ := r
  dsimp only at h ht hs hlen hby
  have c4 := cell_blk h.blk 4 (v := .bool ro) rfl
  obtain ⟨a, c, hvt, _⟩ := ownsRow_sh h.t.row
  subst hvt
  have c1 := cell_blk h.blk 1 (v := .slice a L.length c) rfl
  have hll : L.length ≤ 1099511627776 := by rw [ht, List.length_map] at hlen; exact hlen
  have HPl := hide (place_any _ L k w h.t.row (by omega))
  have hL := h.t
  unfold ReadR
  dsimp only
  clear hs
  cases ro with
  | true =>
    clear h ht hL
    simp only [if_true]
    go_enter Try.func38, Try.ntmps38
    go_wp2
    go_ret2
    exact ⟨_, rfl, row_nil w, (fun g e => by cases e), Keep.refl _ _⟩
  | false =>
    have hlk := idxK_look (L := L) (k := k)
    rw [← ht] at hlk
    cases hi : idxK L k with
    | none =>
      rw [atK_none hi] at HPl
      have hN := hlk.1.1 hi
      simp only [Bool.false_eq_true, if_false, hN, if_true, Option.getD_none]
      clear hN
      clear h ht hL hlk hi
      go_enter Try.func38, Try.ntmps38
      go_wp2_with (go_at_call 54; refine HPl.out.mono ?_; rintro e w1 ⟨rfl, hw⟩; have hw := hw.symm; subst hw)
      go_ret2
      exact ⟨_, rfl, row_nil w, (fun g e => by cases e), Keep.refl _ _⟩
    | some i =>
      rw [atK_some hi] at HPl
      obtain ⟨e, he, _, hle⟩ := hlk.2 i hi
      have hil := (List.getElem?_eq_some_iff.1 he).1
      have hlt' : (i : Int) < (L.length : Int) := by omega
      have hn0 : ¬ (i : Int) < 0 := by omega
      obtain ⟨g, cap, hv, _, z1⟩ := row_at hL.row he
      injection hv with hv1 _ hv2
      subst hv1
      have hem := List.mem_of_getElem? he
      have hrb := hL.by8 e hem
      have hbl : e.b.length ≤ 140737488355328 := by
        have h1 := hby e.sg (by rw [ht]; exact List.mem_map_of_mem hem)
        have h2 : e.sg.2.length = e.b.length := rfl
        omega
      simp only [Bool.false_eq_true, if_false, hle, reduceCtorEq, Option.getD_some]
      have HRB := hide hrb
      have HBL := hide hbl
      generalize e.v = ev at *
      generalize e.b = eb at *
      obtain ⟨ba, bc, hev, _⟩ := ownsRow_sh hrb.1
      subst hev
      have c1' := (Keep.alloc (fun _ => False) w (.cells #[] 5)).cell c1 fun f => f
      have z1' := (Keep.alloc (fun _ => False) w (.cells #[] 5)).cell z1 fun f => f
      clear h ht hL hlk hi he hle hrb hem hv2 hlen hby hbl
      go_enter Try.func38, Try.ntmps38
      go_wp2_with (first
        | (go_at_call 54; refine HPl.out.mono ?_; rintro e w1 ⟨rfl, hw⟩; have hw := hw.symm; subst hw)
        | (at_builtin; refine wp_copyB rfl _ _ rfl rfl _ eb rfl HRB.out HBL.out ?_; intro a' c' w4 hr4 hn4 hk4)
        | go_in)
      go_ret2
      exact ⟨_, rfl, hr4, hn4, hk4⟩
end DP
end Go.Proofs.Ytilpidioengnbaa

/- DiskPlays: the document's There. -/
namespace Go.Proofs.Ytilpidioengnbaa
namespace DP
open Go.RowKit

set_option maxRecDepth 100000 in
set_option maxHeartbeats 800000 in
theorem refThere_any (S : Nat → Prop) (w : World) (P : Nat) (r : Rf) (h : RIn S w P r) (hlen : r.th.length ≤ 1099511627776) (hby : ∀ e ∈ r.th, e.2.length ≤ 67108864) :
    Calls Try.prog 18 #[.pointer (some ⟨P, 0, none⟩)] w fun e w' => ∃ v', e = .returned v' ∧ ∃ out, LsIn (fun g => w.heap.size ≤ g) w' v' out ∧ out.map Sv.sg = r.th ∧ Keep (fun _ => False) w w' := by
  obtain ⟨vt, lt, vs, ls, h, ht, hs⟩ := h
  have hll : lt.length ≤ 1099511627776 := by rw [ht, List.length_map] at hlen; exact hlen
  have HCp := hide (copied_any vt lt w h.t hll fun e he => by
    have h1 := hby e.sg (by rw [ht]; exact List.mem_map_of_mem he)
    have h2 : e.sg.2.length = e.b.length := rfl
    omega)
  have c1 := cell_blk h.blk 1 (v := vt) rfl
  have HT := hide ht
  clear h ht hs hlen hby
  go_enter Try.func18, Try.ntmps18
  go_wp2_with (go_at_call 30; refine HCp.out.mono ?_; rintro e w1 ⟨v', rfl, out, hL, hsg, hk1⟩)
  go_ret
  exact ⟨_, rfl, out, hL, hsg.trans HT.out.symm, hk1⟩
end DP
end Go.Proofs.Ytilpidioengnbaa
