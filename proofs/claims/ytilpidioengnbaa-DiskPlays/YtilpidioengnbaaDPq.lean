/- DiskPlays: the document's lists: copied (ag_gen.py, out of DPq.part). -/
import Derived.Test.YtilpidioengnbaaDPp
namespace Go.Proofs.Ytilpidioengnbaa
namespace DP
open Go.RowKit

theorem own_emptyB {w : World} {E : Nat} (h : w.heap[E]? = some (.cells #[] 5 (0, 0))) : w.ownsRow 0 5 1 (.slice (some ⟨E, 0, none⟩) 0 0) 0 [] :=
  ⟨rfl, .inr ⟨E, 0, #[], rfl, Nat.zero_le _, h, Nat.le_refl _, Nat.zero_le _, rfl, rfl⟩⟩
theorem low0 {w w1 w2 : World} {U : Nat → Prop} (h : Keep (fun _ => False) w w1) (k : Keep U w1 w2) (hU : ∀ b, U b → w.heap.size ≤ b) : Keep (fun _ => False) w w2 :=
  ⟨k.os.trans h.os, k.tape.trans h.tape, k.output.trans h.output, Nat.le_trans h.size k.size, fun b hb _ => (k.block b (Nat.lt_of_lt_of_le hb h.size) fun hu => by have := hU b hu; omega).trans (h.block b hb fun f => f)⟩
theorem B8_one (l : List Nat) : ∀ u ∈ B8 l, u.oneCell' = true := fun u hu => by
  unfold B8 at hu
  obtain ⟨x, _, rfl⟩ := List.mem_map.1 hu
  rfl
theorem B8_len (l : List Nat) : (B8 l).length = l.length := by unfold B8; simp
/-- bytes copied behind an empty row -/
theorem copyB_run {w1 wB : World} {src : Value} {b : List Nat} (hs : Row wB src b) (hn : b.length ≤ 140737488355328) (kB : Keep (fun _ => False) w1 wB) {E : Nat} (hE : wB.heap[E]? = some (.cells #[] 5 (0, 0))) (hEn : w1.heap.size ≤ E) :
    ∃ va vc wC, (Builtin.append_ #[33, 33] 33 #[.slice (some ⟨E, 0, none⟩) 0 0, src]).run Try.prog wB = .ok (.slice va b.length vc) wC ∧ Row wC (.slice va b.length vc) b ∧ Keep (fun _ => False) w1 wC ∧ Keep (fun k => k = E) wB wC ∧ ∀ k, (Value.slice va b.length vc).ownBlock = some k → w1.heap.size ≤ k := by
  obtain ⟨i0, hi, hz0, hz1, hz2⟩ := info_parts info_u8
  have hfr : ∀ v' w', (v' : Value).ownBlock = (Value.slice (some ⟨E, 0, none⟩) 0 0).ownBlock ∨ v'.ownBlock = some wB.heap.size → Keep (fun k => k = E) wB w' → Keep (fun _ => False) w1 w' ∧ ∀ k, v'.ownBlock = some k → w1.heap.size ≤ k := fun v' w' h k => by
    refine ⟨low0 kB k fun b e => by omega, fun x e => ?_⟩
    rcases h with h | h
    · rw [h] at e
      have e : some E = some x := e
      injection e with e
      omega
    · rw [h] at e
      injection e with e
      have := kB.size
      omega
  obtain ⟨a, c, rfl, ha⟩ := ownsRow_sh hs.1
  cases a with
  | none =>
    have h0 : b.length = 0 ∧ c = 0 := by
      rcases hs.1.2 with ⟨e, h0⟩ | ⟨g, cap, cur, e, _⟩
      · injection e with _ _ e; exact ⟨h0, e⟩
      · cases e
    obtain ⟨hb, rfl⟩ := h0
    have hb' := List.eq_nil_of_length_eq_zero hb
    subst hb'
    have hrun := run_append_owned_none (P := Try.prog) wB 0 33 33 5 i0 1 Try.underlying33 hi _ 0 [] (own_emptyB hE)
    obtain ⟨h1, h2⟩ := hfr (.slice (some ⟨E, 0, none⟩) 0 0) wB (.inl rfl) (Keep.refl _ _)
    exact ⟨_, _, wB, hrun, ⟨own_emptyB hE, hs.2⟩, h1, Keep.refl _ _, h2⟩
  | some ad =>
    obtain ⟨g, rfl⟩ : ∃ g, ad = ⟨g, 0, none⟩ := by
      rcases hs.1.2 with ⟨e, _⟩ | ⟨g, cap, cur, e, _⟩
      · cases e
      · injection e with e; injection e with e; exact ⟨g, e⟩
    obtain ⟨v', w', h2, h3, h4, _, h5⟩ := run_append_own_at (P := Try.prog) wB 0 33 33 5 i0 (.int .u8 0) 1 1 Try.underlying33 hi hz0 hz1 hz2 rfl (by decide) _ 0 [] (own_emptyB hE) ⟨g, 0, none⟩ b.length c (B8 b) (by rw [B8_len]; omega) (fun j u hu => hs.1.cells rfl j u hu) (B8_one b) (by unfold maxLen; omega) (by omega) (Nat.zero_le _)
    rw [Nat.zero_add, List.nil_append] at h3
    obtain ⟨va, vc, rfl, _⟩ := ownsRow_sh h3
    have hk : Keep (fun k => k = E) wB w' := ⟨h4.os, h4.tape, h4.output, h4.size, fun k hk hn => h4.block k hk fun e => hn (by have e : some k = some E := e; injection e)⟩
    obtain ⟨h6, h7⟩ := hfr _ _ h5 hk
    exact ⟨va, vc, w', h2, ⟨h3, hs.2⟩, h6, hk, h7⟩
theorem own_up {w : World} {N size n : Nat} {e : TypeId} {v : Value} {xs : List Value} (h : w.ownsRow 0 e size v n xs) (hN : ∀ g, v.ownBlock = some g → N ≤ g) : w.ownsRow N e size v n xs := by
  refine ⟨h.1, ?_⟩
  rcases h.2 with h' | ⟨g, cap, cur, h1, _, h3⟩
  · exact .inl h'
  · exact .inr ⟨g, cap, cur, h1, hN g (by rw [h1]; rfl), h3⟩
theorem seg_ne {w : World} {B n : Nat} {v e : Value} {xs : List Value} {b : List Nat} (h : w.ownsRow B 77 2 v n xs) (hr : Row w e b) {g : Nat} (h1 : e.ownBlock = some g) : v.ownBlock ≠ some g := fun e2 => by
  obtain ⟨cs, hc⟩ := row_blk hr h1
  rcases h.2 with ⟨h1, _⟩ | ⟨g', cap, cur, h1, _, h2, _⟩
  · rw [h1] at e2; cases e2
  · rw [h1] at e2
    have e3 : g' = g := by injection e2
    rw [e3, hc] at h2
    injection h2 with h2
    simp at h2
theorem LsIn.add {N : Nat} {wr wC wF : World} {v v' cv : Value} {out : List Sv} {k : Int} {b : List Nat} (h : LsIn (fun g => N ≤ g) wr v out) (hN : N ≤ wr.heap.size) (kC : Keep (fun _ => False) wr wC) (hC : Row wC cv b) (hn : ∀ g, cv.ownBlock = some g → wr.heap.size ≤ g)
    (kF : Keep (fun g => v.ownBlock = some g) wC wF) (hv : wF.ownsRow N 77 2 v' (out.length + 1) (rowS out ++ [.int .i64 k, cv])) : LsIn (fun g => N ≤ g) wF v' (out ++ [⟨k, b, cv⟩]) := by
  have kr : Keep (fun g => v.ownBlock = some g) wr wF := (kC.mono fun _ f => f.elim).more kF
  refine ⟨?_, fun e he => ?_, ?_, fun g e => (hv.lt g e).1, fun e he g e2 => ?_⟩
  · rw [rowS_one]
    have := hv.mono (Nat.zero_le N)
    simpa using this
  · rcases List.mem_append.1 he with he | he
    · exact (h.by8 e he).keep kr fun g e2 => seg_ne h.row (h.by8 e he) e2
    · simp at he
      subst he
      refine hC.keep kF fun g e2 e3 => ?_
      have h1 := hn g e2
      have h2 := (h.row.lt g e3).2
      omega
  · rw [List.pairwise_append]
    refine ⟨h.sep, List.pairwise_singleton _ _, fun a ha c hc g e1 e2 => ?_⟩
    simp at hc
    subst hc
    have h1 := hn g e2
    have h2 := ((h.by8 a ha).1.lt g e1).2
    omega
  · rcases List.mem_append.1 he with he | he
    · exact h.sb e he g e2
    · simp at he
      subst he
      have := hn g e2
      omega
theorem LsIn.nil (S : Nat → Prop) (w : World) : LsIn S w (.slice none 0 0) [] := ⟨World.ownsRow_nil _ _ _ _, fun e he => by (cases he), List.Pairwise.nil, fun g e => by (cases e), fun e he => by (cases he)⟩
theorem app_runS {w : World} {v : Value} {B n : Nat} {xs : List Value} (h : w.ownsRow B 77 2 v n xs) (hB : B ≤ w.heap.size) {I : Nat} {k : Int} {rv : Value} (hI : w.heap[I]? = some (.cells #[.int .i64 k, rv] 77 (0, 0))) (h1 : rv.oneCell' = true) (hn : n ≤ 2199023255552) (ty : TypeId) :
    ∃ a c w', (Builtin.append_ #[45, 45] ty #[v, .slice (some ⟨I, 0, none⟩) 1 1]).run Try.prog w = .ok (.slice a (n + 1) c) w' ∧ w'.ownsRow B 77 2 (.slice a (n + 1) c) (n + 1) (xs ++ [.int .i64 k, rv]) ∧ Keep (fun k => v.ownBlock = some k) w w' := by
  obtain ⟨i0, hi, hz0, hz1, hz2⟩ := info_parts info_seg
  obtain ⟨v', w', h2, h3, h4, _, _⟩ := run_append_own_at (P := Try.prog) w B 45 ty 77 i0 _ 2 32 Try.underlying45 hi hz0 hz1 hz2 rfl (by decide) v n xs h ⟨I, 0, none⟩ 1 1 [.int .i64 k, rv] rfl (fun j u hu => by rw [Addr.add_mid, Nat.zero_add]; exact cell_blk hI j (by simpa using hu)) (fun u hu => by simp at hu; rcases hu with rfl | rfl <;> first | rfl | exact h1) (by unfold maxLen; omega) (by omega) hB
  obtain ⟨a, c, rfl, _⟩ := ownsRow_sh h3
  exact ⟨a, c, w', h2, h3, ⟨h4.os, h4.tape, h4.output, h4.size, fun k hk hn => h4.block k hk fun e => hn e.symm⟩⟩
theorem step_append_run {ops : Array Oper} {o : Oper} {a : Act} {w : World} {K : Act → World → Prop} {Q : Exit → Act → World → Prop} {E : Prop}
    (hg : o.guard = none) (d x : Operand) (t : TypeId) (hop : o.op = Op.call { callee := Callee.builtin Builtin.append, args := #[d, x], argTypes := #[t, t] })
    (v u : Value) (hd : a.eval d = v) (hx : a.eval x = u) {v' : Value} {w' : World} (hr : (Builtin.append_ #[t, t] o.type #[v, u]).run Try.prog w = .ok v' w') (hK : K (a.put o.dst v') w') :
    if Region.wanted o (yielded ops a.tmps) = true then Oper.wp Try.prog o a w K Q else E := by
  have hw : Region.wanted o (yielded ops a.tmps) = true := by simp [Region.wanted, hg]
  rw [if_pos hw]
  unfold Oper.wp
  simp [execOp, hop, resolve, invoke, builtin, hd, hx, hr, Result.andThen]
  exact hK

/-- a list of segments that can be read, wherever the bytes lie -/
structure LsR (w : World) (v : Value) (L : List Sv) : Prop where
  row : w.ownsRow 0 77 2 v L.length (rowS L)
  by8 : ∀ e ∈ L, Row w e.v e.b
set_option maxRecDepth 100000 in
set_option maxHeartbeats 8000000 in
theorem copied_r (v : Value) (L : List Sv) (w : World) (h : LsR w v L) (hl : L.length ≤ 1099511627776) (hb : ∀ e ∈ L, e.b.length ≤ 140737488355328) :
    Calls Try.prog 30 #[v] w fun e w' => ∃ v', e = .returned v' ∧ ∃ out, LsIn (fun g => w.heap.size ≤ g) w' v' out ∧ out.map Sv.sg = L.map Sv.sg ∧ Keep (fun _ => False) w w' := by
  obtain ⟨a, c, rfl, _⟩ := ownsRow_sh h.row
  have HL := hide h
  have HBl := hide hb
  clear h hb
  go_enter Try.func30, Try.ntmps30
  go_wp2_with fail
  go_loopw [3, 4] (fun v iv wx => ∃ (i : Nat) (out : List Sv), iv = .int .i64 (i : Nat) ∧ i ≤ L.length ∧ Hid (LsIn (fun g => w.heap.size ≤ g) wx v out ∧ out.map Sv.sg = (L.take i).map Sv.sg ∧ Keep (fun _ => False) w wx)) (fun _ iv _ => L.length - (intOf iv).toNat)
  case atStart => exact ⟨0, [], rfl, Nat.zero_le _, LsIn.nil _ _, rfl, Keep.refl _ _⟩
  case round =>
    obtain ⟨i, out, rfl, hil, HI⟩ := hrel
    by_cases hlt : i < L.length
    · have hlt' : (i : Int) < (L.length : Int) := by omega
      obtain ⟨e, he⟩ : ∃ e, L[i]? = some e := ⟨_, List.getElem?_eq_getElem hlt⟩
      have hem := List.mem_of_getElem? he
      have hkw := HI.out.2.2
      have hRw := ownsRow_keep HL.out.row hkw fun _ _ f => f
      obtain ⟨g, cap, hv, c0, c1⟩ := row_at hRw he
      injection hv with hv1 _ hv2
      subst hv1
      have HE := hide he
      have hrb := HL.out.by8 e hem
      have hbl := HBl.out e hem
      obtain ⟨ek, eb, ev⟩ := e
      obtain ⟨ba, bc, hev, _⟩ := ownsRow_sh hrb.1
      dsimp only at hev hrb hbl c0 c1
      subst hev
      have HRB := hide hrb
      have HIL := hide hil
      have hol : out.length = i := by
        have := congrArg List.length HI.out.2.1
        simpa [Nat.min_eq_left hil] using this
      have hlg : g < wr.heap.size := block_lt_of_cell c0
      have HS5 : Hid (∀ W, Keep (fun _ => False) wr W → (fun W' : World => W'.cell? ⟨g, i * 2, none⟩ = some (.int .i64 ek) ∧ W'.cell? ⟨g, i * 2 + 1, none⟩ = some (.slice ba eb.length bc)) W) := fun W kk => ⟨kk.cell c0 fun f => f, kk.cell c1 fun f => f⟩
      have HC0 := hide c0
      have HC1 := hide c1
      have HKW := hide hkw
      have HG := hide ((HL.out.row.lt g rfl).2)
      clear hRw hv2 he hem hil hrb c0 c1 hkw
      go_upto_region 5 with fail
      refine RL.wp_region_held_last (S := fun W' : World => W'.cell? ⟨g, i * 2, none⟩ = some (.int .i64 ek) ∧ W'.cell? ⟨g, i * 2 + 1, none⟩ = some (.slice ba eb.length bc)) rfl (by kernel_rfl) (by kernel_rfl) (HS5.out _ (Keep.drew _ _)) (fun hHeld => ?_)
      change wpAnyH _ _ _ _ _ 17 (Array.replicate 17 false) _ _
      simp only [List.dropLast, List.getLast, List.cons_append, List.nil_append, RL.still]
      refine wpAnyH_take (i := 0) (oi := _) (v := ?_) rfl (by kernel_rfl) (by kernel_rfl) (by kernel_rfl) (fun _ _ _ h => h) (Or.inl ⟨by rfl, ?_⟩) (by assumption) ?_
      rotate_left
      · (intro w hSw; (try dsimp only at hSw); go_simp)
        all_goals with_reducible rfl
      go_simp
      refine wpAnyH_take (i := 1) (oi := _) (v := ?_) rfl (by kernel_rfl) (by kernel_rfl) (by kernel_rfl) (fun _ _ _ h => h) (Or.inl ⟨by rfl, ?_⟩) (by assumption) ?_
      rotate_left
      · (intro w hSw; (try dsimp only at hSw); go_simp)
        all_goals with_reducible rfl
      go_simp
      refine wpAnyH_take (i := 2) (oi := _) (v := ?_) rfl (by kernel_rfl) (by kernel_rfl) (by kernel_rfl) (fun _ _ _ h => h) (Or.inl ⟨by rfl, ?_⟩) (by assumption) ?_
      rotate_left
      · (intro w hSw; (try dsimp only at hSw); go_simp)
        all_goals with_reducible rfl
      go_simp
      refine wpAnyH_take (i := 3) (oi := _) (v := ?_) rfl (by kernel_rfl) (by kernel_rfl) (by kernel_rfl) (fun _ _ _ h => h) (Or.inl ⟨by rfl, ?_⟩) (by assumption) ?_
      rotate_left
      · (intro w hSw; (try dsimp only at hSw); go_simp)
        all_goals with_reducible rfl
      go_simp
      refine wpAnyH_take (i := 4) (oi := _) (v := ?_) rfl (by kernel_rfl) (by kernel_rfl) (by kernel_rfl) (fun _ _ _ h => h) (Or.inl ⟨by rfl, ?_⟩) (by assumption) ?_
      rotate_left
      · (intro w hSw; (try dsimp only at hSw); go_simp)
        all_goals with_reducible rfl
      go_simp
      refine wpAnyH_take (i := 5) (oi := _) (v := ?_) rfl (by kernel_rfl) (by kernel_rfl) (by kernel_rfl) (fun _ _ _ h => h) (Or.inl ⟨by rfl, ?_⟩) (by assumption) ?_
      rotate_left
      · (intro w hSw; (try dsimp only at hSw); go_simp)
        all_goals with_reducible rfl
      go_simp
      refine wpAnyH_take (i := 7) (oi := _) (v := ?_) rfl (by kernel_rfl) (by kernel_rfl) (by kernel_rfl) (fun _ _ _ h => h) (Or.inl ⟨by rfl, ?_⟩) (by assumption) ?_
      rotate_left
      · (intro w hSw; (try dsimp only at hSw); go_simp)
        all_goals with_reducible rfl
      go_simp
      refine wpAnyH_take (i := 8) (oi := _) (v := ?_) rfl (by kernel_rfl) (by kernel_rfl) (by kernel_rfl) (fun _ _ _ h => h) (Or.inl ⟨by rfl, ?_⟩) (by assumption) ?_
      rotate_left
      · (intro w hSw; (try dsimp only at hSw); go_simp)
        all_goals with_reducible rfl
      go_simp
      refine wpAnyH_take (i := 9) (oi := _) (v := ?_) rfl (by kernel_rfl) (by kernel_rfl) (by kernel_rfl) (fun _ _ _ h => h) (Or.inl ⟨by rfl, ?_⟩) (by assumption) ?_
      rotate_left
      · (intro w hSw; (try dsimp only at hSw); go_simp)
        all_goals with_reducible rfl
      go_simp
      refine wpAnyH_take (i := 10) (oi := _) (v := ?_) rfl (by kernel_rfl) (by kernel_rfl) (by kernel_rfl) (fun _ _ _ h => h) (Or.inl ⟨by rfl, ?_⟩) (by assumption) ?_
      rotate_left
      · (intro w hSw; (try dsimp only at hSw); go_simp)
        all_goals with_reducible rfl
      go_simp
      refine wpAnyH_take (i := 11) (oi := _) (v := ?_) rfl (by kernel_rfl) (by kernel_rfl) (by kernel_rfl) (fun _ _ _ h => h) (Or.inl ⟨by rfl, ?_⟩) (by assumption) ?_
      rotate_left
      · (intro w hSw; (try dsimp only at hSw); go_simp)
        all_goals with_reducible rfl
      go_simp
      have kD0 : Keep (fun _ => False) wr wr.drew := Keep.drew _ _
      have kA := kD0.more (Keep.alloc (fun _ => False) wr.drew (.cells #[] 5))
      refine wpAnyH_ready (rs := [6]) (by kernel_rfl) (by simp) ?_
      refine AllReadyH.cons (o := _) rfl (fun K hK => ?_) AllReadyH.nil
      rw [if_pos (by rfl)]
      unfold Oper.wp
      go_simp
      refine hK.out _ _ (HS5.out _ kA) (fun hHeld => ?_)
      clear hK K
      try simp only [Act.put, List.setIfInBounds_toArray, List.set_cons_zero, List.set_cons_succ]
      obtain ⟨va, vc, wC, hrC, hoC, kC, kEC, hnC⟩ := copyB_run (E := wr.heap.size) (w1 := wr) (wB := wr.drew.alloc (.cells #[] 5)) (HRB.out.keep (HKW.out.more kA) fun _ _ f => f) hbl kA (heap_alloc_new wr.drew _) (Nat.le_refl _)
      refine wpAnyH_ready (rs := [12]) (by kernel_rfl) (by simp) ?_
      refine AllReadyH.cons (o := _) rfl (fun K hK => ?_) AllReadyH.nil
      refine step_append_run rfl _ _ _ rfl _ _ rfl rfl hrC ?_
      refine hK.out _ _ (HS5.out _ kC) (fun hHeld => ?_)
      clear hK K
      try simp only [Act.put]
      refine wpAnyH_take (i := 13) (oi := _) (v := ?_) rfl (by kernel_rfl) (by kernel_rfl) (by kernel_rfl) (fun _ _ _ h => h) (Or.inl ⟨by rfl, ?_⟩) (by assumption) ?_
      rotate_left
      · (intro w hSw; (try dsimp only at hSw); go_simp)
        all_goals with_reducible rfl
      go_simp
      have kA2 := kC.more (Keep.alloc (fun _ => False) wC (.cells #[.int .i64 ek, .slice va eb.length vc] 77))
      refine wpAnyH_ready (rs := [14]) (by kernel_rfl) (by simp) ?_
      refine AllReadyH.cons (o := _) rfl (fun K hK => ?_) AllReadyH.nil
      rw [if_pos (by rfl)]
      unfold Oper.wp
      go_simp
      refine hK.out _ _ (HS5.out _ kA2) (fun hHeld => ?_)
      clear hK K
      try simp only [Act.put, List.setIfInBounds_toArray, List.set_cons_zero, List.set_cons_succ]
      have hNr := HI.out.2.2.size
      obtain ⟨xa, xc, wF, hrF, hoF, kF⟩ := app_runS (B := w.heap.size) (ownsRow_keep (own_up HI.out.1.row HI.out.1.sv) kA2 fun _ _ f => f) (Nat.le_trans hNr kA2.size) (heap_alloc_new wC _) rfl (by omega) 45
      have kCF : Keep (fun g => u3.ownBlock = some g) wC wF := (Keep.alloc _ _ _).more kF
      have kWr : Keep (fun g => u3.ownBlock = some g) wr wF := (kA2.mono fun _ f => f.elim).more kF
      have kW : Keep (fun _ => False) w wF := low0 (HI.out.2.2.more kA2) kF fun b e => HI.out.1.sv b e
      have hLs0 := (HI.out.1.add (v' := .slice xa (out.length + 1) xc) (k := ek) (b := eb) (cv := .slice va eb.length vc) hNr kC hoC hnC kCF hoF)
      rw [hol] at hLs0
      have hLs := hide hLs0
      clear hLs0
      have HKw := hide kW
      have hS6 : (fun W' : World => W'.cell? ⟨g, i * 2, none⟩ = some (.int .i64 ek) ∧ W'.cell? ⟨g, i * 2 + 1, none⟩ = some (.slice ba eb.length bc)) wF := ⟨kWr.cell HC0.out fun e => by have := HI.out.1.sv g e; have := HG.out; omega, kWr.cell HC1.out fun e => by have := HI.out.1.sv g e; have := HG.out; omega⟩
      have HSg : Hid ((out ++ [(⟨ek, eb, .slice va eb.length vc⟩ : Sv)]).map Sv.sg = (L.take (i + 1)).map Sv.sg) := by
        show _ = _
        rw [take_at HE.out, List.map_append, List.map_append, HI.out.2.1]
        rfl
      refine wpAnyH_ready (rs := [15]) (by kernel_rfl) (by simp) ?_
      refine AllReadyH.cons (o := _) rfl (fun K hK => ?_) AllReadyH.nil
      refine step_append_run rfl _ _ _ rfl _ _ rfl rfl hrF ?_
      refine hK.out _ _ hS6 (fun hHeld => ?_)
      clear hK K
      try simp only [Act.put, List.setIfInBounds_toArray]
      clear hoF hoC
      refine wpAnyH_take (i := 16) (oi := _) (v := ?_) rfl (by kernel_rfl) (by kernel_rfl) (by kernel_rfl) (fun _ _ _ h => h) (Or.inl ⟨by rfl, ?_⟩) (by assumption) ?_
      rotate_left
      · (intro w hSw; (try dsimp only at hSw); go_simp)
        all_goals with_reducible rfl
      go_simp
      refine wpAnyH_done (by kernel_rfl) ?_ _
      simp only [RL.endQ]
      unfold Oper.wp
      go_simp
      go_wp2_with fail
      go_roundw
      case rel => exact ⟨i + 1, _, by go_num, by omega, hLs.out, HSg.out, HKw.out⟩
      case measure => simp [intOf]; omega
    · have hlt' : ¬ (i : Int) < (L.length : Int) := by omega
      obtain rfl : i = L.length := by omega
      obtain ⟨h1, h2, h3⟩ := HI.out
      rw [List.take_length] at h2
      have H1 := hide h1
      clear h1
      go_wp2
      go_ret
      exact ⟨_, rfl, out, H1.out, h2, h3⟩
theorem copied_any {S0 : Nat → Prop} (v : Value) (L : List Sv) (w : World) (h : LsIn S0 w v L) (hl : L.length ≤ 1099511627776) (hb : ∀ e ∈ L, e.b.length ≤ 140737488355328) :
    Calls Try.prog 30 #[v] w fun e w' => ∃ v', e = .returned v' ∧ ∃ out, LsIn (fun g => w.heap.size ≤ g) w' v' out ∧ out.map Sv.sg = L.map Sv.sg ∧ Keep (fun _ => False) w w' :=
  copied_r v L w ⟨h.row, h.by8⟩ hl hb
end DP
end Go.Proofs.Ytilpidioengnbaa
