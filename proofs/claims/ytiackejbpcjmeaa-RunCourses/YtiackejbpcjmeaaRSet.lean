/- Package run: settleOn. -/
import Derived.Test.YtiackejbpcjmeaaRAll
import Derived.Test.YtiackejbpcjmeaaRLst
import Derived.Laws.ResultCell
namespace Go.Proofs.Ytiackejbpcjmeaa
namespace Rn
open Go.RowKit Gr

theorem step_append_run {ops : Array Oper} {o : Oper} {a : Act} {w : World} {K : Act → World → Prop} {Q : Exit → Act → World → Prop} {E : Prop}
    (hg : o.guard = none) (d x : Operand) (t : TypeId) (hop : o.op = Op.call { callee := Callee.builtin Builtin.append, args := #[d, x], argTypes := #[t, t] })
    (v u : Value) (hd : a.eval d = v) (hx : a.eval x = u) {v' : Value} {w' : World} (hr : (Builtin.append_ #[t, t] o.type #[v, u]).run Try.prog w = .ok v' w') (hK : K (a.put o.dst v') w') :
    if Region.wanted o (yielded ops a.tmps) = true then Oper.wp Try.prog o a w K Q else E := by
  have hw : Region.wanted o (yielded ops a.tmps) = true := by simp [Region.wanted, hg]
  rw [if_pos hw]
  unfold Oper.wp
  simp [execOp, hop, resolve, invoke, builtin, hd, hx, hr, Result.andThen]
  exact hK
/-- a row of numbers behind a row of numbers -/
theorem append_ints {w : World} {b : Nat} {v : Value} {l : List Nat} (h : w.ownsRow b 3 1 v l.length (iv l)) (hb : b ≤ w.heap.size) {c : Nat} {u : Value} {m : List Nat} (hu : w.ownsRow c 3 1 u m.length (iv m)) (hl : l.length + m.length ≤ 1048576) (ty : TypeId) :
    ∃ v' w', (Builtin.append_ #[25, 25] ty #[v, u]).run Try.prog w = .ok v' w' ∧ w'.ownsRow b 3 1 v' (l ++ m).length (iv (l ++ m)) ∧ w.grownBy w' v.ownBlock := by
  obtain ⟨i0, hi, hz0, hz1, hz2⟩ := info_parts info_int
  rcases hu.2 with ⟨rfl, h0⟩ | ⟨g, cap, cur, rfl, hbg, hg, hc, _, hcs, htk⟩
  · obtain rfl : m = [] := List.eq_nil_of_length_eq_zero h0
    exact ⟨v, w, run_append_owned_none (P := Try.prog) (w := w) b 25 ty 3 i0 1 Try.underlying25 hi v _ _ h, by simpa using h, ⟨rfl, rfl, rfl, Nat.le_refl _, fun _ _ _ => rfl⟩⟩
  · obtain ⟨v', w', h1, h2, h3, _⟩ := run_append_own (P := Try.prog) w b 25 ty 3 i0 (.int .i64 0) 1 8 Try.underlying25 hi hz0 hz1 hz2 rfl (by decide) v l.length _ h ⟨g, 0, none⟩ m.length cap (iv m) (by rw [iv_len]; omega) (hu.cells rfl) (fun u hu => by
        simp only [iv, List.mem_map] at hu
        obtain ⟨x, _, rfl⟩ := hu
        rfl) (by unfold maxLen; omega) (by omega) hb
    refine ⟨v', w', h1, ?_, h3⟩
    rw [List.length_append, show iv (l ++ m) = iv l ++ iv m by simp [iv]]
    exact h2
/-- a row of numbers lies in no block of another type -/
theorem row_far {w : World} {b : Nat} {v : Value} {n : Nat} {l : List Value} (h : w.ownsRow b 3 1 v n l) {A : Nat} {cs : Array Value} {t : TypeId} (hA : w.heap[A]? = some (.cells cs t (0, 0))) (ht : t ≠ 3) {i : Nat} (hi : v.ownBlock = some i) (e : i = A) : False := by
  subst e
  rcases h.2 with ⟨rfl, _⟩ | ⟨g, cap, cur, rfl, _, hg, _⟩
  · simp [Value.ownBlock] at hi
  · simp [Value.ownBlock] at hi
    subst hi
    rw [hg] at hA
    injection hA with hA
    injection hA with h1 h2 h3
    exact ht h2.symm
theorem info_chg : (Try.prog.info? 45).map (·.size) = some 4 := by kernel_rfl
def put4 (w : World) (g : Nat) (a b c d : Value) : World := (((w.setCell ⟨g, 0, none⟩ a).setCell ⟨g, 1, none⟩ b).setCell ⟨g, 2, none⟩ c).setCell ⟨g, 3, none⟩ d
theorem put4_keep (w : World) (g : Nat) (a b c d : Value) : Keep (fun i => i = g) w (put4 w g a b c d) := (((keep_cell w g 0 a).more (keep_cell _ g 1 b)).more (keep_cell _ g 2 c)).more (keep_cell _ g 3 d)
theorem put4_blk {w : World} {g : Nat} {x0 x1 x2 x3 : Value} {t : TypeId} (h : w.heap[g]? = some (.cells #[x0, x1, x2, x3] t (0, 0))) (a b c d : Value) : (put4 w g a b c d).heap[g]? = some (.cells #[a, b, c, d] t (0, 0)) := by
  unfold put4
  rw [set_blk (set_blk (set_blk (set_blk h 0 a) 1 b) 2 c) 3 d]
  rfl
theorem res_chg {fn : Func} {p : Tmp} (h : fn.results = #[.cell p 45]) (tmps : Array Value) (w : World) (g : Nat) (a b c d : Value) (hp : tmps.getD p undef = .pointer (some ⟨g, 0, none⟩)) (hg : w.heap[g]? = some (.cells #[a, b, c, d] 45 (0, 0))) :
    (results fn tmps).run Try.prog w = .ok (.agg #[a, b, c, d]) w :=
  results_cell_row h tmps w g 45 #[a, b, c, d] (0, 0) _ hp hg Try.underlying45 rfl (by rw [info_chg]; rfl)
/-- the status is stored -/
theorem RunAt.setStt {T : Nat → Prop} {w : World} {P G : Nat} {nm : ByteArray} {dl : Int} {s : Option Addr × Nat × Nat} {xs : List No} {R : Rs} (h : RunAt T w P G nm dl s xs R) (v : Int) : RunAt T (w.setCell ⟨P, 3, none⟩ (.int .i64 v)) P G nm dl s xs ⟨v, R.ps⟩ := by
  have hK := keep_cell w P 3 (.int .i64 v)
  have hS : Free T w G G (fun k => k = P) := fun i hi => .inr ⟨hi ▸ h.tp, fun e => h.ne (hi.symm.trans e), fun e => h.ne (hi.symm.trans e)⟩
  obtain ⟨⟨c, hb⟩, ⟨cs, hg⟩, h3, h4, h5, h6, h7, h8, h9, h10, h11⟩ := h
  exact ⟨⟨c, set_blk hb 3 _⟩, ⟨cs, blk_keep hK hS (.inr rfl) hg⟩, fun i p hi => by obtain ⟨m, hm⟩ := h3 i p hi; exact ⟨m, hm.keep hK hS⟩, rdp_keep hK hS h5 h4, h5, h6, h7, h8, h9, h10, h11⟩

set_option maxRecDepth 100000 in
set_option maxHeartbeats 4000000 in
theorem settleOn_core {T : Nat → Prop} {w : World} {P G : Nat} {nm : ByteArray} {dl : Int} {s : Option Addr × Nat × Nat} {xs : List No} {R : Rs} (h : RunAt T w P G nm dl s xs R) (hT : ∀ k, w.heap.size ≤ k → T k) (da sa ra : Option Addr) (dn dc sn sc rc : Nat) (st0 : Int) (rd : List Nat) (b0 : Nat) (hb0 : b0 ≤ w.heap.size) (hrd : w.ownsRow b0 3 1 (.slice ra rd.length rc) rd.length (iv rd)) (hrl : rd.length ≤ 1)
    (hro : ∀ k, (Value.slice ra rd.length rc).ownBlock = some k → T k ∧ k ≠ P ∧ k ≠ G) :
    Calls Try.prog 28 #[.pointer (some ⟨P, 0, none⟩), .agg #[.slice da dn dc, .slice sa sn sc, .slice ra rd.length rc, .int .i64 st0]] w fun e w' => ∃ va vb, e = .returned (.agg #[.slice da dn dc, va, vb, .int .i64 (settleR (xs.map nx) R).2.stt]) ∧ RunAt T w' P G nm dl s xs (settleR (xs.map nx) R).2 ∧ w'.ownsRow w.heap.size 3 1 va (settleR (xs.map nx) R).1.1.length (iv (settleR (xs.map nx) R).1.1) ∧ w'.ownsRow b0 3 1 vb (rd ++ (settleR (xs.map nx) R).1.2).length (iv (rd ++ (settleR (xs.map nx) R).1.2)) ∧ Keep (fun k => k = P ∨ k = G ∨ (Value.slice ra rd.length rc).ownBlock = some k) w w' := by
  have HT := hide hT
  have hPl : P < w.heap.size := by obtain ⟨cs, hg⟩ := h.blk; exact (Array.getElem?_eq_some_iff.1 hg).1
  have hGl : G < w.heap.size := by obtain ⟨cs, hg⟩ := h.prt; exact (Array.getElem?_eq_some_iff.1 hg).1
  have HPL := hide hPl
  have HGL := hide hGl
  have HPG : Hid (P ≠ G) := h.ne
  have HTP : Hid (T P ∧ T G) := ⟨h.tp, h.tg⟩
  have HLN : Hid (R.ps.length = xs.length) := h.len
  have HL64 : Hid (xs.length ≤ 64) := h.val.1
  have HRO := hide hro
  have HRL := hide hrl
  have HB0 := hide hb0
  -- what it comes to
  have hA1 := turnF_adv (xs := xs.map nx) (how := 2) (st := 7) (.inr rfl) xs.length (sts R.ps)
  have HST : Hid (settleR (xs.map nx) R = ((((turnF (xs.map nx) 2 7 xs.length (sts R.ps)).1, (turnF (xs.map nx) 1 2 xs.length (turnF (xs.map nx) 2 7 xs.length (sts R.ps)).2).1)), ⟨if allSet (withS R.ps (turnF (xs.map nx) 1 2 xs.length (turnF (xs.map nx) 2 7 xs.length (sts R.ps)).2).2) then (if allDone (withS R.ps (turnF (xs.map nx) 1 2 xs.length (turnF (xs.map nx) 2 7 xs.length (sts R.ps)).2).2) then 2 else 3) else R.stt, withS R.ps (turnF (xs.map nx) 1 2 xs.length (turnF (xs.map nx) 2 7 xs.length (sts R.ps)).2).2⟩)) := by
    show _ = _
    unfold settleR settle
    rw [List.length_map]
  have T1 := hide (fun (W : World) (hq : RunAt T W P G nm dl s xs R) => turn_any hq 2 7 (by decide))
  generalize hF1 : turnF (xs.map nx) 2 7 xs.length (sts R.ps) = F1 at *
  have hl1 : F1.2.length = R.ps.length := by rw [hA1.1, sts_length]
  have HL1 := hide hl1
  have T2 := hide (fun (W : World) (hq : RunAt T W P G nm dl s xs ⟨R.stt, withS R.ps F1.2⟩) => turn_any hq 1 2 (by decide))
  simp only [sts_withS hl1] at T2
  have hw2 : ∀ ss : List Int, ss.length = R.ps.length → withS (withS R.ps F1.2) ss = withS R.ps ss := fun ss hs => by
    refine List.ext_getElem? fun i => ?_
    by_cases hi : i < R.ps.length
    · have e1 : R.ps[i]? = some R.ps[i] := List.getElem?_eq_getElem hi
      have e2 : F1.2[i]? = some (F1.2[i]'(by omega)) := List.getElem?_eq_getElem _
      have e3 : ss[i]? = some (ss[i]'(by omega)) := List.getElem?_eq_getElem _
      rw [withS_at (withS_at e1 e2) e3, withS_at e1 e3]
    · rw [List.getElem?_eq_none (by rw [withS_length _ _ (by rw [withS_length _ _ hl1]; exact hs), withS_length _ _ hl1]; omega), List.getElem?_eq_none (by rw [withS_length _ _ hs]; omega)]
  have hA2 := turnF_adv (xs := xs.map nx) (how := 1) (st := 2) (.inl rfl) xs.length F1.2
  generalize hF2 : turnF (xs.map nx) 1 2 xs.length F1.2 = F2 at *
  rw [hw2 F2.2 (hA2.1.trans hl1)] at T2
  have HN1 : Hid (F2.1.length ≤ 1000) := by
    show _ ≤ _
    have key : ∀ (f : Nat) (ss : List Int), (turnF (xs.map nx) 1 2 f ss).1.length ≤ f := by
      intro f
      induction f with
      | zero => intro ss; exact Nat.le_refl _
      | succ f ih =>
        intro ss
        unfold turnF
        split
        · exact Nat.zero_le _
        · simp only [List.length_cons]
          exact Nat.succ_le_succ (ih _)
    have := key xs.length F1.2
    rw [hF2] at this
    have := HL64.out
    omega
  generalize settleR (xs.map nx) R = SR at *
  clear hA1 hA2 hw2 hF1 hF2 hl1
  generalize hps2 : withS R.ps F2.2 = ps2 at *
  clear hps2
  -- the boxes
  have k1 := Keep.alloc (fun _ => False) w (.cells #[.slice da dn dc, .slice sa sn sc, .slice ra rd.length rc, .int .i64 st0] 45)
  have b1 := heap_alloc_new w (.cells #[.slice da dn dc, .slice sa sn sc, .slice ra rd.length rc, .int .i64 st0] 45)
  have k2 := Keep.alloc (fun _ => False) (w.alloc (.cells #[.slice da dn dc, .slice sa sn sc, .slice ra rd.length rc, .int .i64 st0] 45)) (.cells #[.slice none 0 0, .slice none 0 0, .slice none 0 0, .int .i64 0] 45)
  have b2 := heap_alloc_new (w.alloc (.cells #[.slice da dn dc, .slice sa sn sc, .slice ra rd.length rc, .int .i64 st0] 45)) (.cells #[.slice none 0 0, .slice none 0 0, .slice none 0 0, .int .i64 0] 45)
  have hz2 : ((w.alloc (.cells #[.slice da dn dc, .slice sa sn sc, .slice ra rd.length rc, .int .i64 st0] 45)).alloc (.cells #[.slice none 0 0, .slice none 0 0, .slice none 0 0, .int .i64 0] 45)).heap.size = w.heap.size + 2 := by simp
  rw [show (w.alloc (.cells #[.slice da dn dc, .slice sa sn sc, .slice ra rd.length rc, .int .i64 st0] 45)).heap.size = w.heap.size + 1 by simp] at b2
  have KW := hide (k1.more k2)
  have HA := hide (k2.blk b1 (fun f => f))
  have HB := hide b2
  have HZ2 := hide hz2
  have HR1 := hide (h.new (k1.more k2))
  have HRD := hide (ownsRow_new hrd (k1.more k2))
  have HRB : Hid (∀ k, (Value.slice ra rd.length rc).ownBlock = some k → k < w.heap.size) := fun k hk => (hrd.lt k hk).2
  generalize hrn : rd.length = rn at *
  clear h hT hrd hro hrl hb0 k1 k2 b1 b2 hz2 hPl hGl
  go_enter Try.func28, Try.ntmps28
  go_upto_region 1 with fail
  generalize (w.alloc (.cells #[.slice da dn dc, .slice sa sn sc, .slice ra rn rc, .int .i64 st0] 45)).alloc (.cells #[.slice none 0 0, .slice none 0 0, .slice none 0 0, .int .i64 0] 45) = w1 at *
  have C1 := hide (T1.out w1 HR1.out)
  generalize hAA : w.heap.size = A at *
  clear T1
  go_wp2_with fail
  go_at_call 47
  refine C1.out.mono ?_
  rintro e w2 ⟨va, rfl, hr2, ho2, k2⟩
  obtain ⟨aa, ac, rfl⟩ := ownsRow_shape ho2
  rw [HZ2.out] at ho2
  have hba := k2.blk HA.out (fun e => by have := HGL.out; omega)
  have ca := cell_blk hba 1 (v := .slice sa sn sc) rfl
  have fa := frozen_blk hba 1
  have HA2 := hide (set_blk hba 1 (.slice aa F1.1.length ac))
  have HB2 := hide ((keep_cell w2 A 1 (.slice aa F1.1.length ac)).blk (k2.blk HB.out (fun e => by have := HGL.out; omega)) (fun e => by omega))
  have HO2 := hide (ownsRow_keep ho2 (keep_cell w2 A 1 (.slice aa F1.1.length ac)) (fun i hi hh => by have := (ho2.lt i hh).1; omega))
  have HR2 := hide (hr2.keep (keep_cell w2 A 1 (.slice aa F1.1.length ac)) (fun i hi => .inr ⟨HT.out i (by omega), fun e => by have := HPL.out; omega, fun e => by have := HGL.out; omega⟩))
  have HRD2 := hide (ownsRow_keep (ownsRow_keep HRD.out k2 (fun i hi hh => (HRO.out i hh).2.2 hi)) (keep_cell w2 A 1 (.slice aa F1.1.length ac)) (fun i hi hh => by have := HRB.out i hh; omega))
  have KK2 : Hid (Keep (fun k => k = G ∨ A ≤ k) w (w2.setCell ⟨A, 1, none⟩ (.slice aa F1.1.length ac))) := ((KW.out.mono (fun _ f => f.elim)).more (k2.mono fun i hi => .inl hi)).more ((keep_cell w2 A 1 (.slice aa F1.1.length ac)).mono fun i hi => .inr (by omega))
  have HZ3 : Hid (A + 2 ≤ (w2.setCell ⟨A, 1, none⟩ (.slice aa F1.1.length ac)).heap.size) := by have := k2.size; have := (keep_cell w2 A 1 (.slice aa F1.1.length ac)).size; have := HZ2.out; show _ ≤ _; omega
  clear C1 hr2 ho2 k2 hba HA HB HR1 HRD KW HZ2
  go_upto_region 2 with fail
  generalize w2.setCell ⟨A, 1, none⟩ (.slice aa F1.1.length ac) = w3 at *
  clear ca fa
  have c2 := cell_blk HA2.out 2 (v := .slice ra rn rc) rfl
  have kd := Keep.drew (fun _ => False) w3
  have C2 := hide (T2.out w3.drew (HR2.out.new kd))
  have hz3 : w3.drew.heap.size = w3.heap.size := rfl
  clear T2
  refine RL.wp_region_held_last (S := fun wx => wx.cell? ⟨A, 2, none⟩ = some (.slice ra rn rc)) rfl (by kernel_rfl) (by kernel_rfl) c2 (fun hHeld => ?_)
  change wpAnyH _ _ _ _ _ 7 (Array.replicate 7 false) _ _
  simp only [List.dropLast, List.getLast, List.cons_append, List.nil_append, RL.still]
  refine wpAnyH_take (i := 0) (oi := _) (v := ?_) rfl (by kernel_rfl) (by kernel_rfl) (by kernel_rfl) (fun _ _ _ h => h) (Or.inl ⟨by rfl, ?_⟩) (by assumption) ?_
  rotate_left
  · (intro w hSw; (try dsimp only at hSw); go_simp)
    all_goals with_reducible rfl
  go_simp
  refine wpAnyH_take (i := 1) (oi := _) (v := ?_) rfl (by kernel_rfl) (by kernel_rfl) (by kernel_rfl) (fun _ _ _ h => h) (Or.inl ⟨by rfl, ?_⟩) (by assumption) ?_
  rotate_left
  · (intro w hSw; (try dsimp only at hSw); go_simp)
    all_goals with_reducible rfl
  go_simp
  refine wpAnyH_take (i := 2) (oi := _) (v := ?_) rfl (by kernel_rfl) (by kernel_rfl) (by kernel_rfl) (fun _ _ _ h => h) (Or.inl ⟨by rfl, ?_⟩) (by assumption) ?_
  rotate_left
  · (intro w hSw; (try dsimp only at hSw); go_simp)
    all_goals with_reducible rfl
  go_simp
  refine wpAnyH_ready (rs := [3]) (by kernel_rfl) (by simp) ?_
  refine AllReadyH.cons (o := _) rfl (fun K hK => ?_) AllReadyH.nil
  rw [if_pos (by rfl)]
  go_simp
  go_at_call 47
  refine C2.out.mono ?_
  rintro e w4 ⟨vq, rfl, hr4, ho4, k4⟩
  obtain ⟨qa, qc, rfl⟩ := ownsRow_shape ho4
  have k34 := (Keep.drew (fun k => k = G) w3).more k4
  have ha4 := k34.blk HA2.out (fun e => by have := HGL.out; omega)
  have hb4 := k34.blk HB2.out (fun e => by have := HGL.out; omega)
  have hrd4 := ownsRow_keep HRD2.out k34 (fun i hi hh => (HRO.out i hh).2.2 hi)
  have ho2' := ownsRow_keep HO2.out k34 (fun i hi hh => by have := (HO2.out.lt i hh).1; have := HGL.out; omega)
  rw [← hrn] at hrd4
  obtain ⟨vb, w5, hap, ho5, hg5⟩ := append_ints (ty := 25) hrd4 (by have := k34.size; have := HZ3.out; have := HB0.out; omega) ho4 (by have := HN1.out; have := HRL.out; omega)
  obtain ⟨ba, bc, rfl⟩ := ownsRow_shape ho5
  rw [hrn] at hap hg5
  generalize hbn : (rd ++ F2.1).length = bn at *
  have hk5 : Keep (fun k => (Value.slice ra rn rc).ownBlock = some k) w4 w5 := Keep.grown hg5 fun k e => e
  have HAP := hide hap
  have HR5 := hide (hr4.keep hk5 (fun i hi => .inr (HRO.out i hi)))
  have HA5 := hide (hk5.blk ha4 (fun e => by have := HRB.out _ e; omega))
  have HB5 := hide (hk5.blk hb4 (fun e => by have := HRB.out _ e; omega))
  have HO5 := hide ho5
  have HV5 := hide (ownsRow_keep ho2' hk5 (fun i hi hh => by have := (ho2'.lt i hh).1; have := HRB.out i hi; omega))
  have KK5 : Hid (Keep (fun k => k = G ∨ (Value.slice ra rn rc).ownBlock = some k ∨ A ≤ k) w w5) := ((KK2.out.mono fun i hi => hi.elim .inl fun h => .inr (.inr h)).more (k34.mono fun i hi => .inl hi)).more (hk5.mono fun i hi => .inr (.inl hi))
  have hc4 := cell_blk ha4 2 (v := .slice ra rn rc) rfl
  have hc5 := cell_blk HA5.out 2 (v := .slice ra rn rc) rfl
  have HSZ5 : Hid (A + 2 ≤ w5.heap.size) := by have := hk5.size; have := k34.size; have := HZ3.out; show _ ≤ _; omega
  clear hr4 ho4 k4 k34 ha4 hb4 hrd4 ho2' hap ho5 hg5 hk5 C2 HR2 HA2 HB2 HO2 HRD2 KK2 kd hz3 HZ3 c2
  go_simp
  refine hK.out _ _ hc4 (fun hHeld => ?_)
  clear hK K
  try simp only [Act.put, List.setIfInBounds_toArray, List.set_cons_zero, List.set_cons_succ]
  refine wpAnyH_ready (rs := [4]) (by kernel_rfl) (by simp) ?_
  refine AllReadyH.cons (o := _) rfl (fun K hK => ?_) AllReadyH.nil
  refine step_append_run (by rfl) _ _ 25 (by rfl) _ _ (by rfl) (by rfl) HAP.out ?_
  refine hK.out _ _ hc5 (fun hHeld => ?_)
  clear hK K
  go_simp
  refine wpAnyH_take (i := 5) (oi := _) (v := ?_) rfl (by kernel_rfl) (by kernel_rfl) (by kernel_rfl) (fun _ _ _ h => h) (Or.inl ⟨by rfl, ?_⟩) (by assumption) ?_
  rotate_left
  · (intro w hSw; (try dsimp only at hSw); go_simp)
    all_goals with_reducible rfl
  go_simp
  refine wpAnyH_take (i := 6) (oi := _) (v := ?_) rfl (by kernel_rfl) (by kernel_rfl) (by kernel_rfl) (fun _ _ _ h => h) (Or.inl ⟨by rfl, ?_⟩) (by assumption) ?_
  rotate_left
  · (intro w hSw; (try dsimp only at hSw); go_simp)
    all_goals with_reducible rfl
  go_simp
  refine wpAnyH_done (by kernel_rfl) ?_ _
  simp only [RL.endQ]
  have hfz := frozen_blk HA5.out 2
  have HA6 := hide (set_blk HA5.out 2 (.slice ba bn bc))
  have k56 := keep_cell w5 A 2 (.slice ba bn bc)
  have HB6 := hide (k56.blk HB5.out (fun e => by omega))
  have HR6 := hide (HR5.out.keep k56 (fun i hi => .inr ⟨HT.out i (by omega), fun e => by have := HPL.out; omega, fun e => by have := HGL.out; omega⟩))
  have HO6 := hide (ownsRow_keep HO5.out k56 (fun i hi hh => row_far HO5.out HA5.out (by decide) hh hi))
  have HV6 := hide (ownsRow_keep HV5.out k56 (fun i hi hh => by have := (HV5.out.lt i hh).1; omega))
  have KK6 : Hid (Keep (fun k => k = G ∨ (Value.slice ra rn rc).ownBlock = some k ∨ A ≤ k) w (w5.setCell ⟨A, 2, none⟩ (.slice ba bn bc))) := KK5.out.more (k56.mono fun i hi => .inr (.inr (by omega)))
  unfold Oper.wp
  go_simp
  go_wp2_with fail
  generalize w5.setCell ⟨A, 2, none⟩ (.slice ba bn bc) = w6 at *
  clear k56 hfz HA5 HB5 HR5 HO5 HV5 KK5 HAP hc4 hc5
  have S7 := hide (allSet_any HR6.out)
  simp only at S7
  go_at_call 48
  refine S7.out.mono ?_
  rintro e w7 ⟨rfl, k7⟩
  have HR7 := hide (HR6.out.new k7)
  have HA7 := hide (k7.blk HA6.out (fun f => f))
  have HB7 := hide (k7.blk HB6.out (fun f => f))
  have HO7 := hide (ownsRow_new HO6.out k7)
  have HV7 := hide (ownsRow_new HV6.out k7)
  have KK7 : Hid (Keep (fun k => k = P ∨ k = G ∨ (Value.slice ra rn rc).ownBlock = some k ∨ A ≤ k) w w7) := (KK6.out.more (k7.mono fun _ f => f.elim)).mono fun i hi => .inr hi
  clear k7 S7 HR6 HA6 HB6 HO6 HV6 KK6
  cases hq : allSet ps2 with
  | false =>
    obtain ⟨cc, _, _, _, p3, _⟩ := HR7.out.cells
    have a3 := cell_blk HA7.out 3 (v := .int .i64 st0) rfl
    have fa3 := frozen_blk HA7.out 3
    have ky := keep_cell w7 A 3 (.int .i64 R.stt)
    have HAy : Hid ((w7.setCell ⟨A, 3, none⟩ (.int .i64 R.stt)).heap[A]? = some (.cells #[.slice da dn dc, .slice aa F1.1.length ac, .slice ba bn bc, .int .i64 R.stt] 45 (0, 0))) := set_blk HA7.out 3 (.int .i64 R.stt)
    have HBy := hide (ky.blk HB7.out (fun e => by omega))
    have HRy := hide (HR7.out.keep ky (fun i hi => .inr ⟨HT.out i (by omega), fun e => by have := HPL.out; omega, fun e => by have := HGL.out; omega⟩))
    have HOy := hide (ownsRow_keep HO7.out ky (fun i hi hh => row_far HO7.out HA7.out (by decide) hh hi))
    have HVy := hide (ownsRow_keep HV7.out ky (fun i hi hh => row_far HV7.out HA7.out (by decide) hh hi))
    have KKy := hide (KK7.out.more (ky.mono fun i hi => .inr (.inr (.inr (by omega)))))
    clear ky
    go_upto_region 8 with fail
    generalize w7.setCell ⟨A, 3, none⟩ (.int .i64 R.stt) = wy at *
    clear p3 a3 fa3
    have y0 := cell_blk HAy.out 0 (v := .slice da dn dc) rfl
    have y1 := cell_blk HAy.out 1 (v := .slice aa F1.1.length ac) rfl
    have y2 := cell_blk HAy.out 2 (v := .slice ba bn bc) rfl
    have y3 := cell_blk HAy.out 3 (v := .int .i64 R.stt) rfl
    have z0 := cell_blk HBy.out 0 (v := .slice none 0 0) rfl
    have z1 := cell_blk HBy.out 1 (v := .slice none 0 0) rfl
    have z2 := cell_blk HBy.out 2 (v := .slice none 0 0) rfl
    have z3 := cell_blk HBy.out 3 (v := .int .i64 0) rfl
    have f0 := frozen_blk HBy.out 0
    have f1 := frozen_blk HBy.out 1
    have f2 := frozen_blk HBy.out 2
    have f3 := frozen_blk HBy.out 3
    have kz := put4_keep wy (A + 1) (.slice da dn dc) (.slice aa F1.1.length ac) (.slice ba bn bc) (.int .i64 R.stt)
    have HZB := hide (put4_blk HBy.out (.slice da dn dc) (.slice aa F1.1.length ac) (.slice ba bn bc) (.int .i64 R.stt))
    have HEN : Hid (RunAt T (put4 wy (A + 1) (.slice da dn dc) (.slice aa F1.1.length ac) (.slice ba bn bc) (.int .i64 R.stt)) P G nm dl s xs SR.2 ∧ (put4 wy (A + 1) (.slice da dn dc) (.slice aa F1.1.length ac) (.slice ba bn bc) (.int .i64 R.stt)).ownsRow A 3 1 (.slice aa F1.1.length ac) SR.1.1.length (iv SR.1.1) ∧ (put4 wy (A + 1) (.slice da dn dc) (.slice aa F1.1.length ac) (.slice ba bn bc) (.int .i64 R.stt)).ownsRow b0 3 1 (.slice ba bn bc) (rd ++ SR.1.2).length (iv (rd ++ SR.1.2)) ∧ Keep (fun k => k = P ∨ k = G ∨ (Value.slice ra rn rc).ownBlock = some k) w (put4 wy (A + 1) (.slice da dn dc) (.slice aa F1.1.length ac) (.slice ba bn bc) (.int .i64 R.stt)) ∧ SR.2.stt = R.stt) := by
      have hS1 : SR = ((F1.1, F2.1), ⟨R.stt, ps2⟩) := by rw [HST.out, hq, if_neg (by simp)]
      rw [hS1]
      refine ⟨HRy.out.keep kz (fun i hi => .inr ⟨HT.out i (by omega), fun e => by have := HPL.out; omega, fun e => by have := HGL.out; omega⟩), ownsRow_base (ownsRow_keep HVy.out kz (fun i hi hh => row_far HVy.out HBy.out (by decide) hh hi)) (by omega), ?_, ?_, rfl⟩
      · show World.ownsRow _ b0 _ 1 _ (rd ++ F2.1).length _
        rw [hbn]
        exact ownsRow_keep HOy.out kz (fun i hi hh => row_far HOy.out HBy.out (by decide) hh hi)
      · exact KKy.out.trans kz (fun i hi => .inr (by omega)) |>.trans (Keep.refl (fun _ => False) _) (fun _ f => f.elim) |> fun k => ⟨k.os, k.tape, k.output, k.size, fun j hj hn => k.block j hj fun hs => by
          rcases hs with h | h | h | h
          · exact hn (.inl h)
          · exact hn (.inr (.inl h))
          · exact hn (.inr (.inr h))
          · omega⟩
    clear kz
    go_wp2_with fail
    obtain ⟨e1, e2, e3, e4, e5⟩ := HEN.out
    exact bodyPost_ret (res_chg rfl _ _ (A + 1) _ _ _ _ rfl HZB.out) rfl ⟨_, _, by rw [e5], e1, ownsRow_base e2 (Nat.le_of_eq hAA), e3, e4⟩
  | true =>
    obtain ⟨cc, _, _, _, p3, _⟩ := HR7.out.cells
    have fp := (HR7.out.frozen 3).2
    have HR8 := hide (HR7.out.setStt 3)
    have k8 := keep_cell w7 P 3 (.int .i64 3)
    have HA8 := hide (k8.blk HA7.out (fun e => by have := HPL.out; omega))
    have HB8 := hide (k8.blk HB7.out (fun e => by have := HPL.out; omega))
    have hPb : ∃ cs : Array Value, w7.heap[P]? = some (.cells cs 74 (0, 0)) := by obtain ⟨c9, h9⟩ := HR7.out.blk; exact ⟨_, h9⟩
    obtain ⟨csP, hcP⟩ := hPb
    have HO8 := hide (ownsRow_keep HO7.out k8 (fun i hi hh => row_far HO7.out hcP (by decide) hh hi))
    have HV8 := hide (ownsRow_keep HV7.out k8 (fun i hi hh => row_far HV7.out hcP (by decide) hh hi))
    have KK8 := hide (KK7.out.more (k8.mono fun i hi => .inl hi))
    clear k8 hcP
    go_upto_region 5 with fail
    generalize w7.setCell ⟨P, 3, none⟩ (.int .i64 3) = w8 at *
    clear p3 fp HR7 HA7 HB7 HO7 HV7 KK7
    have S9 := hide (allDone_any HR8.out)
    simp only at S9
    go_wp2_with fail
    go_at_call 48
    refine S9.out.mono ?_
    rintro e w9 ⟨rfl, k9⟩
    have HR9 := hide (HR8.out.new k9)
    have HA9 := hide (k9.blk HA8.out (fun f => f))
    have HB9 := hide (k9.blk HB8.out (fun f => f))
    have HO9 := hide (ownsRow_new HO8.out k9)
    have HV9 := hide (ownsRow_new HV8.out k9)
    have KK9 := hide (KK8.out.more (k9.mono fun _ f => f.elim))
    clear k9 S9 HR8 HA8 HB8 HO8 HV8 KK8
    cases hq2 : allDone ps2 with
    | false =>
      obtain ⟨cc, _, _, _, p3, _⟩ := HR9.out.cells
      have a3 := cell_blk HA9.out 3 (v := .int .i64 st0) rfl
      have fa3 := frozen_blk HA9.out 3
      have ky := keep_cell w9 A 3 (.int .i64 3)
      have HAy : Hid ((w9.setCell ⟨A, 3, none⟩ (.int .i64 3)).heap[A]? = some (.cells #[.slice da dn dc, .slice aa F1.1.length ac, .slice ba bn bc, .int .i64 3] 45 (0, 0))) := set_blk HA9.out 3 (.int .i64 3)
      have HBy := hide (ky.blk HB9.out (fun e => by omega))
      have HRy := hide (HR9.out.keep ky (fun i hi => .inr ⟨HT.out i (by omega), fun e => by have := HPL.out; omega, fun e => by have := HGL.out; omega⟩))
      have HOy := hide (ownsRow_keep HO9.out ky (fun i hi hh => row_far HO9.out HA9.out (by decide) hh hi))
      have HVy := hide (ownsRow_keep HV9.out ky (fun i hi hh => row_far HV9.out HA9.out (by decide) hh hi))
      have KKy := hide (KK9.out.more (ky.mono fun i hi => .inr (.inr (.inr (by omega)))))
      clear ky
      go_upto_region 8 with fail
      generalize w9.setCell ⟨A, 3, none⟩ (.int .i64 3) = wy at *
      clear p3 a3 fa3
      have y0 := cell_blk HAy.out 0 (v := .slice da dn dc) rfl
      have y1 := cell_blk HAy.out 1 (v := .slice aa F1.1.length ac) rfl
      have y2 := cell_blk HAy.out 2 (v := .slice ba bn bc) rfl
      have y3 := cell_blk HAy.out 3 (v := .int .i64 3) rfl
      have z0 := cell_blk HBy.out 0 (v := .slice none 0 0) rfl
      have z1 := cell_blk HBy.out 1 (v := .slice none 0 0) rfl
      have z2 := cell_blk HBy.out 2 (v := .slice none 0 0) rfl
      have z3 := cell_blk HBy.out 3 (v := .int .i64 0) rfl
      have f0 := frozen_blk HBy.out 0
      have f1 := frozen_blk HBy.out 1
      have f2 := frozen_blk HBy.out 2
      have f3 := frozen_blk HBy.out 3
      have kz := put4_keep wy (A + 1) (.slice da dn dc) (.slice aa F1.1.length ac) (.slice ba bn bc) (.int .i64 3)
      have HZB := hide (put4_blk HBy.out (.slice da dn dc) (.slice aa F1.1.length ac) (.slice ba bn bc) (.int .i64 3))
      have HEN : Hid (RunAt T (put4 wy (A + 1) (.slice da dn dc) (.slice aa F1.1.length ac) (.slice ba bn bc) (.int .i64 3)) P G nm dl s xs SR.2 ∧ (put4 wy (A + 1) (.slice da dn dc) (.slice aa F1.1.length ac) (.slice ba bn bc) (.int .i64 3)).ownsRow A 3 1 (.slice aa F1.1.length ac) SR.1.1.length (iv SR.1.1) ∧ (put4 wy (A + 1) (.slice da dn dc) (.slice aa F1.1.length ac) (.slice ba bn bc) (.int .i64 3)).ownsRow b0 3 1 (.slice ba bn bc) (rd ++ SR.1.2).length (iv (rd ++ SR.1.2)) ∧ Keep (fun k => k = P ∨ k = G ∨ (Value.slice ra rn rc).ownBlock = some k) w (put4 wy (A + 1) (.slice da dn dc) (.slice aa F1.1.length ac) (.slice ba bn bc) (.int .i64 3)) ∧ SR.2.stt = 3) := by
        have hS1 : SR = ((F1.1, F2.1), ⟨3, ps2⟩) := by rw [HST.out, hq, hq2, if_pos rfl, if_neg (by simp)]
        rw [hS1]
        refine ⟨HRy.out.keep kz (fun i hi => .inr ⟨HT.out i (by omega), fun e => by have := HPL.out; omega, fun e => by have := HGL.out; omega⟩), ownsRow_base (ownsRow_keep HVy.out kz (fun i hi hh => row_far HVy.out HBy.out (by decide) hh hi)) (by omega), ?_, ?_, rfl⟩
        · show World.ownsRow _ b0 _ 1 _ (rd ++ F2.1).length _
          rw [hbn]
          exact ownsRow_keep HOy.out kz (fun i hi hh => row_far HOy.out HBy.out (by decide) hh hi)
        · exact KKy.out.trans kz (fun i hi => .inr (by omega)) |>.trans (Keep.refl (fun _ => False) _) (fun _ f => f.elim) |> fun k => ⟨k.os, k.tape, k.output, k.size, fun j hj hn => k.block j hj fun hs => by
            rcases hs with h | h | h | h
            · exact hn (.inl h)
            · exact hn (.inr (.inl h))
            · exact hn (.inr (.inr h))
            · omega⟩
      clear kz
      go_wp2_with fail
      obtain ⟨e1, e2, e3, e4, e5⟩ := HEN.out
      exact bodyPost_ret (res_chg rfl _ _ (A + 1) _ _ _ _ rfl HZB.out) rfl ⟨_, _, by rw [e5], e1, ownsRow_base e2 (Nat.le_of_eq hAA), e3, e4⟩
    | true =>
      obtain ⟨cc, _, _, _, p3, _⟩ := HR9.out.cells
      have fp := (HR9.out.frozen 3).2
      have HR8 := hide (HR9.out.setStt 2)
      have k8 := keep_cell w9 P 3 (.int .i64 2)
      have HA8 := hide (k8.blk HA9.out (fun e => by have := HPL.out; omega))
      have HB8 := hide (k8.blk HB9.out (fun e => by have := HPL.out; omega))
      have hPb : ∃ cs : Array Value, w9.heap[P]? = some (.cells cs 74 (0, 0)) := by obtain ⟨c9, h9⟩ := HR9.out.blk; exact ⟨_, h9⟩
      obtain ⟨csP, hcP⟩ := hPb
      have HO8 := hide (ownsRow_keep HO9.out k8 (fun i hi hh => row_far HO9.out hcP (by decide) hh hi))
      have HV8 := hide (ownsRow_keep HV9.out k8 (fun i hi hh => row_far HV9.out hcP (by decide) hh hi))
      have KK8 := hide (KK9.out.more (k8.mono fun i hi => .inl hi))
      clear k8 hcP
      go_upto_region 7 with fail
      generalize w9.setCell ⟨P, 3, none⟩ (.int .i64 2) = w10 at *
      clear p3 fp HR9 HA9 HB9 HO9 HV9 KK9
      obtain ⟨cc, _, _, _, p3, _⟩ := HR8.out.cells
      have a3 := cell_blk HA8.out 3 (v := .int .i64 st0) rfl
      have fa3 := frozen_blk HA8.out 3
      have ky := keep_cell w10 A 3 (.int .i64 2)
      have HAy : Hid ((w10.setCell ⟨A, 3, none⟩ (.int .i64 2)).heap[A]? = some (.cells #[.slice da dn dc, .slice aa F1.1.length ac, .slice ba bn bc, .int .i64 2] 45 (0, 0))) := set_blk HA8.out 3 (.int .i64 2)
      have HBy := hide (ky.blk HB8.out (fun e => by omega))
      have HRy := hide (HR8.out.keep ky (fun i hi => .inr ⟨HT.out i (by omega), fun e => by have := HPL.out; omega, fun e => by have := HGL.out; omega⟩))
      have HOy := hide (ownsRow_keep HO8.out ky (fun i hi hh => row_far HO8.out HA8.out (by decide) hh hi))
      have HVy := hide (ownsRow_keep HV8.out ky (fun i hi hh => row_far HV8.out HA8.out (by decide) hh hi))
      have KKy := hide (KK8.out.more (ky.mono fun i hi => .inr (.inr (.inr (by omega)))))
      clear ky
      go_upto_region 8 with fail
      generalize w10.setCell ⟨A, 3, none⟩ (.int .i64 2) = wy at *
      clear p3 a3 fa3
      have y0 := cell_blk HAy.out 0 (v := .slice da dn dc) rfl
      have y1 := cell_blk HAy.out 1 (v := .slice aa F1.1.length ac) rfl
      have y2 := cell_blk HAy.out 2 (v := .slice ba bn bc) rfl
      have y3 := cell_blk HAy.out 3 (v := .int .i64 2) rfl
      have z0 := cell_blk HBy.out 0 (v := .slice none 0 0) rfl
      have z1 := cell_blk HBy.out 1 (v := .slice none 0 0) rfl
      have z2 := cell_blk HBy.out 2 (v := .slice none 0 0) rfl
      have z3 := cell_blk HBy.out 3 (v := .int .i64 0) rfl
      have f0 := frozen_blk HBy.out 0
      have f1 := frozen_blk HBy.out 1
      have f2 := frozen_blk HBy.out 2
      have f3 := frozen_blk HBy.out 3
      have kz := put4_keep wy (A + 1) (.slice da dn dc) (.slice aa F1.1.length ac) (.slice ba bn bc) (.int .i64 2)
      have HZB := hide (put4_blk HBy.out (.slice da dn dc) (.slice aa F1.1.length ac) (.slice ba bn bc) (.int .i64 2))
      have HEN : Hid (RunAt T (put4 wy (A + 1) (.slice da dn dc) (.slice aa F1.1.length ac) (.slice ba bn bc) (.int .i64 2)) P G nm dl s xs SR.2 ∧ (put4 wy (A + 1) (.slice da dn dc) (.slice aa F1.1.length ac) (.slice ba bn bc) (.int .i64 2)).ownsRow A 3 1 (.slice aa F1.1.length ac) SR.1.1.length (iv SR.1.1) ∧ (put4 wy (A + 1) (.slice da dn dc) (.slice aa F1.1.length ac) (.slice ba bn bc) (.int .i64 2)).ownsRow b0 3 1 (.slice ba bn bc) (rd ++ SR.1.2).length (iv (rd ++ SR.1.2)) ∧ Keep (fun k => k = P ∨ k = G ∨ (Value.slice ra rn rc).ownBlock = some k) w (put4 wy (A + 1) (.slice da dn dc) (.slice aa F1.1.length ac) (.slice ba bn bc) (.int .i64 2)) ∧ SR.2.stt = 2) := by
        have hS1 : SR = ((F1.1, F2.1), ⟨2, ps2⟩) := by rw [HST.out, hq, hq2, if_pos rfl, if_pos rfl]
        rw [hS1]
        refine ⟨HRy.out.keep kz (fun i hi => .inr ⟨HT.out i (by omega), fun e => by have := HPL.out; omega, fun e => by have := HGL.out; omega⟩), ownsRow_base (ownsRow_keep HVy.out kz (fun i hi hh => row_far HVy.out HBy.out (by decide) hh hi)) (by omega), ?_, ?_, rfl⟩
        · show World.ownsRow _ b0 _ 1 _ (rd ++ F2.1).length _
          rw [hbn]
          exact ownsRow_keep HOy.out kz (fun i hi hh => row_far HOy.out HBy.out (by decide) hh hi)
        · exact KKy.out.trans kz (fun i hi => .inr (by omega)) |>.trans (Keep.refl (fun _ => False) _) (fun _ f => f.elim) |> fun k => ⟨k.os, k.tape, k.output, k.size, fun j hj hn => k.block j hj fun hs => by
            rcases hs with h | h | h | h
            · exact hn (.inl h)
            · exact hn (.inr (.inl h))
            · exact hn (.inr (.inr h))
            · omega⟩
      clear kz
      go_wp2_with fail
      obtain ⟨e1, e2, e3, e4, e5⟩ := HEN.out
      exact bodyPost_ret (res_chg rfl _ _ (A + 1) _ _ _ _ rfl HZB.out) rfl ⟨_, _, by rw [e5], e1, ownsRow_base e2 (Nat.le_of_eq hAA), e3, e4⟩
end Rn
end Go.Proofs.Ytiackejbpcjmeaa
