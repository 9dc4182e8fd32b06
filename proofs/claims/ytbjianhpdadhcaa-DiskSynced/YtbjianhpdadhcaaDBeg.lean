/- The laws' all, at, begins. -/
import Derived.Test.YtbjianhpdadhcaaDAlk
namespace Go.Proofs.Ytbjianhpdadhcaa
open Go.RowKit Go.Lib

theorem Rd.front {w : World} {a : Option Addr} {n : Nat} {l : List Nat} (h : Rd w a n l) (hi : Nat) (h2 : hi ≤ n) : Rd w a hi (l.take hi) := by
  obtain ⟨hl, hn, hd, hrow⟩ := h
  refine ⟨by simp; omega, by omega, fun d hd' => hd d (List.mem_of_mem_take hd'), ?_⟩
  rcases hrow with h0' | ⟨b, off, rfl, hrow⟩
  · exact .inl (by omega)
  · refine .inr ⟨b, off, rfl, fun i hi' => ?_⟩
    rw [hrow i (by omega)]
    congr 3
    rw [List.getD_eq_getElem?_getD, List.getD_eq_getElem?_getD, List.getElem?_take, if_pos hi']

theorem slice_hi_run (a : Option Addr) (n c hi : Nat) (h2 : hi ≤ c) (w : World) :
    (Instr.slice 41 (.slice a n c) none (some (.int .i64 (hi : Int))) none).run Try.prog w = .ok (.slice (if c = 0 then a else a.map (·.add 0)) hi c) w := by
  go_simp
theorem add_zero (a : Addr) : a.add 0 = a := by unfold Addr.add; split <;> simp_all
theorem slice_hi_run' (a : Option Addr) (n c hi : Nat) (h2 : hi ≤ c) (w : World) :
    (Instr.slice 41 (.slice a n c) none (some (.int .i64 (hi : Int))) none).run Try.prog w = .ok (.slice a hi c) w := by
  rw [slice_hi_run a n c hi h2]
  cases a <;> simp [add_zero]

/-- what at answers -/
def AtAs (w : World) (L : List (Int × List Nat)) (k : Int) (e : Ending) (w' : World) : Prop :=
  w' = w ∧ ((∃ (ba : Option Addr) (bc : Nat) (b : List Nat), e = .returned (.tuple #[.slice ba b.length bc, .bool true]) ∧ (k, b) ∈ L ∧ Rd w ba b.length b ∧ b.length ≤ bc ∧ (ba = none → bc = 0)) ∨ (e = .returned (.tuple #[.slice none 0 0, .bool false]) ∧ ∀ b, (k, b) ∉ L))

theorem RdS.at' {lo : Nat} {w : World} {a : Option Addr} {L : List (Int × List Nat)} (h : RdS lo w a L) (j : Nat) (hj : j < L.length) (hb : ∀ x ∈ L, x.2.length < 281474976710656) :
    ∃ g, a = some ⟨g, 0, none⟩ ∧ w.cell? ⟨g, j * 2, none⟩ = some (.int .i64 L[j].1) ∧ ∃ ba bc, w.cell? ⟨g, j * 2 + 1, none⟩ = some (.slice ba L[j].2.length bc) ∧ Rd w ba L[j].2.length L[j].2 ∧ L[j].2.length ≤ bc ∧ (ba = none → bc = 0) := by
  obtain ⟨g, e, _, h2, v, h3, h4, _⟩ := h.2 j hj
  obtain ⟨ba, bc, hv, hr, h0, hl, _⟩ := h4.rd (hb _ (List.getElem_mem hj))
  subst hv
  rw [Nat.mul_comm] at h2 h3
  exact ⟨g, e, h2, ba, bc, h3, hr, hl, h0⟩

set_option maxRecDepth 100000 in
set_option maxHeartbeats 4000000 in
theorem at_any (w : World) (lo : Nat) (a : Option Addr) (c : Nat) (L : List (Int × List Nat)) (k : Int) (h1 : RdS lo w a L) (hb : ∀ x ∈ L, x.2.length < 281474976710656) :
    Calls Try.prog 36 #[.slice a L.length c, .int .i64 k] w (AtAs w L k) := by
  have H1 := hide fun j hj => h1.at' j hj hb
  have hl := h1.1
  obtain ⟨m, em⟩ : ∃ m, m = L.length := ⟨_, rfl⟩
  have HM := hide em
  rw [← em] at hl ⊢
  clear h1 hb em
  go_enter Try.func36, Try.ntmps36
  go_wp2
  go_loop [6] (fun iv => ∃ (q : Nat), q ≤ m ∧ iv = .int .i64 (q : Nat) ∧ Hid (∀ b, (k, b) ∉ L.take q)) (fun iv => m - (intOf iv).toNat)
  case atStart => exact ⟨0, Nat.zero_le _, rfl, fun b h => by simp at h⟩
  case round =>
    obtain ⟨q, hqm, rfl, HN⟩ := hrel
    by_cases hq : q < m
    · have hqk : q < L.length := by rw [← HM.out]; exact hq
      obtain ⟨g, rfl, x1, ba, bc, x2, g3, g4, g5⟩ := H1.out q hqk
      have HMem := hide (List.getElem_mem hqk)
      have HTk := hide (List.take_succ_eq_append_getElem hqk)
      have hq0 : (q : Int) < m := by omega
      have hw : wrap64 ((q : Int) + 1) = ((q + 1 : Nat) : Int) := wr' (by omega) (by omega) (by omega)
      have HQ := hide (show q + 1 ≤ m by omega)
      generalize L[q] = x at *
      obtain ⟨xk, xb⟩ := x
      simp only at x1 x2 g3 g4
      have HG3 := hide g3
      have HG4 := hide g4
      have HG5 := hide g5
      clear g3 g4 g5 hqm
      by_cases hk : xk = k
      · subst hk
        go_wp2
        go_ret2
        exact ⟨rfl, .inl ⟨ba, bc, xb, rfl, HMem.out, HG3.out, HG4.out, HG5.out⟩⟩
      · have HK := hide hk
        go_wp2
        go_round
        case rel =>
          refine ⟨q + 1, HQ.out, rfl, fun b hb => ?_⟩
          rw [HTk.out, List.mem_append] at hb
          rcases hb with hb | hb
          · exact HN.out b hb
          · simp at hb
            exact HK.out hb.1.symm
        case measure => show m - (((q + 1 : Nat) : Int)).toNat < m - ((q : Int)).toNat; have := HQ.out; omega
    · obtain rfl : q = m := by omega
      have hqq : ¬ (q : Int) < q := by omega
      go_wp2
      go_ret2
      refine ⟨rfl, .inr ⟨rfl, fun b hb => HN.out b ?_⟩⟩
      rw [HM.out, List.take_length]; exact hb

/-- each segment of one list begins one of another -/
def Begins (L M : List (Int × List Nat)) : Prop := ∀ k b, (k, b) ∈ L → ∃ b', (k, b') ∈ M ∧ b.length ≤ b'.length ∧ b'.take b.length = b

theorem keys_one {M : List (Int × List Nat)} (h : (M.map Prod.fst).Pairwise (· < ·)) {k : Int} {b b' : List Nat} (h1 : (k, b) ∈ M) (h2 : (k, b') ∈ M) : b = b' := by
  induction M with
  | nil => cases h1
  | cons x r ih =>
    rw [List.map_cons, List.pairwise_cons] at h
    rcases List.mem_cons.1 h1 with e1 | e1
    · rcases List.mem_cons.1 h2 with e2 | e2
      · have := e1.trans e2.symm; injection this
      · have := h.1 k (List.mem_map.2 ⟨_, e2, rfl⟩)
        rw [← e1] at this
        simp at this
    · rcases List.mem_cons.1 h2 with e2 | e2
      · have := h.1 k (List.mem_map.2 ⟨_, e1, rfl⟩)
        rw [← e2] at this
        simp at this
      · exact ih h.2 e1 e2

set_option maxRecDepth 100000 in
set_option maxHeartbeats 4000000 in
theorem begins_any (w : World) (lo lo' : Nat) (a b : Option Addr) (c d : Nat) (L M : List (Int × List Nat)) (h1 : RdS lo w a L) (h2 : RdS lo' w b M) (hL : ∀ x ∈ L, x.2.length < 281474976710656) (hM : ∀ x ∈ M, x.2.length < 281474976710656) (hp : (M.map Prod.fst).Pairwise (· < ·)) (hb : Begins L M) :
    Calls Try.prog 35 #[.slice a L.length c, .slice b M.length d] w fun e w' => e = .returned (.bool true) ∧ Keep (fun _ => False) w w' := by
  have H1 := hide fun j hj => h1.at' j hj hL
  have hl := h1.1
  have H2 := hide h2
  have HMl := hide hM
  have HP := hide hp
  have HB := hide hb
  obtain ⟨m, em⟩ : ∃ m, m = L.length := ⟨_, rfl⟩
  have HM := hide em
  rw [← em] at hl ⊢
  clear h1 h2 hb em hL hM hp
  go_enter Try.func35, Try.ntmps35
  go_wp2
  go_loopw [5] (fun iv wr => ∃ (q : Nat), q ≤ m ∧ iv = .int .i64 (q : Nat) ∧ Hid (Keep (fun _ => False) w wr)) (fun iv _ => m - (intOf iv).toNat)
  case atStart => exact ⟨0, Nat.zero_le _, rfl, Keep.refl _ _⟩
  case round =>
    obtain ⟨q, hqm, rfl, HK⟩ := hrel
    by_cases hq : q < m
    · have hqk : q < L.length := by rw [← HM.out]; exact hq
      obtain ⟨g, rfl, g1, ba, bc, g2, g3, _, _⟩ := H1.out q hqk
      have HMem := hide (List.getElem_mem hqk)
      have x1 := HK.out.cell g1 fun f => f
      have x2 := HK.out.cell g2 fun f => f
      have HX : Hid (∀ n, (convert 41 9 (.slice ba L[q].2.length bc)).run Try.prog (wr.drewN n) = .ok (.string (str L[q].2)) (wr.drewN n)) := fun n => conv_rd ((g3.stay (S := fun _ => False) HK.out fun _ _ _ f => f).stay (S := fun _ => False) (w' := wr.drewN n) ⟨rfl, rfl, rfl, Nat.le_refl _, fun _ _ _ => rfl⟩ fun _ _ _ f => f) bc
      have hq0 : (q : Int) < m := by omega
      have hw : wrap64 ((q : Int) + 1) = ((q + 1 : Nat) : Int) := wr' (by omega) (by omega) (by omega)
      have HQ := hide (show q + 1 ≤ m by omega)
      generalize L[q] = x at *
      obtain ⟨xk, xb⟩ := x
      simp only at x1 x2 HX
      have HA : Hid (Calls Try.prog 36 #[.slice b M.length d, .int .i64 xk] wr fun e w' => w' = wr ∧ ∃ (ya : Option Addr) (yc : Nat) (y : List Nat), e = .returned (.tuple #[.slice ya y.length yc, .bool true]) ∧ (xb.length ≤ y.length ∧ y.take xb.length = xb) ∧ Rd wr ya y.length y ∧ y.length ≤ yc) := by
        refine (at_any wr lo' b d M xk (H2.out.keep HK.out fun _ _ _ f => f) HMl.out).mono fun e w' ⟨hw', h⟩ => ⟨hw', ?_⟩
        obtain ⟨b', hb1, hb2, hb3⟩ := HB.out xk xb HMem.out
        rcases h with ⟨ya, yc, y, e1, hy, hr, hl, _⟩ | ⟨_, hn⟩
        · have := keys_one HP.out hb1 hy
          subst this
          exact ⟨ya, yc, b', e1, ⟨hb2, hb3⟩, hr, hl⟩
        · exact absurd hb1 (hn b')
      clear g1 g2 g3 hqm
      go_wp2_with (go_at_call 36
                   refine HA.out.mono ?_
                   rintro e w1 ⟨rfl, ya, yc, y, rfl, ⟨hy1, hy2⟩, hr, hyc⟩
                   have hsl := slice_hi_run' ya y.length yc xb.length (by omega)
                   have hcy := fun n => conv_rd ((hr.front xb.length hy1).stay (S := fun _ => False) (w' := w1.drewN n) ⟨rfl, rfl, rfl, Nat.le_refl _, fun _ _ _ => rfl⟩ fun _ _ _ f => f) yc
                   rw [hy2] at hcy
                   have hcx := HX.out
                   have hyn : ¬ y.length < xb.length := by omega
                   have hyd : decide (y.length < xb.length) = false := decide_eq_false hyn
                   generalize y.length = yn at *
                   generalize str xb = S at *
                   generalize xb.length = xn at *
                   clear hr hy1 hy2 hyc HX)
      go_quiet (fail)
      go_wp2
      go_roundw
      case rel => exact ⟨q + 1, HQ.out, rfl, HK.out.more ⟨rfl, rfl, rfl, Nat.le_refl _, fun _ _ _ => rfl⟩⟩
      case measure => show m - (((q + 1 : Nat) : Int)).toNat < m - ((q : Int)).toNat; have := HQ.out; omega
    · obtain rfl : q = m := by omega
      have hqq : ¬ (q : Int) < q := by omega
      go_wp2
      go_ret
      exact ⟨rfl, HK.out⟩

/-- what all answers -/
def AllAs (w : World) (n : Nat) (e : Ending) (w' : World) : Prop :=
  ∃ (a : Option Addr) (c : Nat), e = .returned (.slice a n c) ∧ Rz w' a n (List.replicate n 1099511627776) ∧ Keep (fun _ => False) w w' ∧ ∀ g off, a = some ⟨g, off, none⟩ → g < w'.heap.size

set_option maxRecDepth 100000 in
set_option maxHeartbeats 4000000 in
theorem all_any (w : World) (n : Nat) (hn : n ≤ 1466015503701) : Calls Try.prog 23 #[.int .i64 (n : Nat)] w (AllAs w n) := by
  obtain ⟨i0, hi, hz0, hz1, hz2⟩ := info_parts info_i64
  go_enter Try.func23, Try.ntmps23
  go_wp2
  go_loopw [3, 4] (fun v iv wr => ∃ (q : Nat), q ≤ n ∧ iv = .int .i64 (q : Nat) ∧ wr.ownsRow w.heap.size 3 1 v q ((List.replicate q 1099511627776).map (Value.int .i64)) ∧ Hid (Keep (fun _ => False) w wr)) (fun _ iv _ => n - (intOf iv).toNat)
  case atStart => exact ⟨0, Nat.zero_le _, rfl, World.ownsRow_nil _ _ _ _, Keep.refl _ _⟩
  case round =>
    obtain ⟨q, hqm, rfl, hrow, HK⟩ := hrel
    by_cases hq : q < n
    · have hq0 : (q : Int) < n := by omega
      have hw : wrap64 ((q : Int) + 1) = ((q + 1 : Nat) : Int) := wr' (by omega) (by omega) (by omega)
      have HQ := hide (show q + 1 ≤ n by omega)
      have hsz := HK.out.size
      go_wp2_with (first
        | (at_builtin; refine wpList_append_own_at _ rfl _ _ 32 rfl w.heap.size 3 i0 (.int .i64 0) 1 8 Try.underlying32 hi hz0 hz1 hz2 rfl (by decide) _ _ _ rfl (hrow.alloc _) ⟨wr.heap.size, 0, none⟩ 1 1 [.int .i64 1099511627776] rfl rfl ?c1 ?c2 ?c3 ?c4 ?c5 ?_)
        | go_in)
      case c1 =>
        intro j u hj
        match j, hj with
        | 0, hj => simp at hj; subst hj; simp [Addr.add]
      case c2 => intro u hu; simp at hu; subst hu; rfl
      case c3 => have := HQ.out; unfold maxLen; omega
      case c4 => have := HQ.out; omega
      case c5 => simp; omega
      · intro v' w4 hown' hgrow _ hloc
        have HK4 : Hid (Keep (fun _ => False) w w4) := (HK.out.more (Keep.alloc _ _ _)).grownNew hgrow fun k e => .inr ((hrow.alloc (.cells #[.int .i64 1099511627776] 3)).lt k e).1
        have hown4 : w4.ownsRow w.heap.size 3 1 v' (q + 1) ((List.replicate (q + 1) 1099511627776).map (Value.int .i64)) := by
          rw [List.replicate_succ', List.map_append, List.map_replicate]; exact hown'
        clear hown' hgrow hloc hrow HK
        go_wp2
        go_roundw
        case rel => exact ⟨q + 1, HQ.out, rfl, hown4, HK4⟩
        case measure => show n - (((q + 1 : Nat) : Int)).toNat < n - ((q : Int)).toNat; have := HQ.out; omega
    · obtain rfl : q = n := by omega
      have hqq : ¬ (q : Int) < q := by omega
      obtain ⟨av, cv, hv⟩ := ownsRow_shape hrow
      subst hv
      have HE : Hid (AllAs w q (.returned (.slice av q cv)) wr) := by
        refine ⟨av, cv, rfl, ⟨by simp, by omega, fun x hx => by rw [List.eq_of_mem_replicate hx]; decide, ?_⟩, HK.out, fun g off e => ?_⟩
        · by_cases h0 : q = 0
          · exact .inl h0
          · right
            obtain ⟨g, e, _, _⟩ := ownsRow_ints hrow 0 (by simp; omega)
            refine ⟨g, 0, e, fun i hi => ?_⟩
            obtain ⟨g', e', _, hc⟩ := ownsRow_ints hrow i (by simp; exact hi)
            rw [e] at e'
            injection e' with e'
            injection e' with e' _
            subst e'
            rw [Nat.zero_add, hc]
            simp [List.getD, hi]
        · exact (hrow.lt g (by rw [e]; rfl)).2
      clear hrow hq
      go_wp2
      go_ret
      exact HE.out

end Go.Proofs.Ytbjianhpdadhcaa
