/- The laws' begins, all. -/
import Derived.Test.YtbjianhpdadhcaaDAtt
namespace Go.Proofs.Ytbjianhpdadhcaa
open Go.RowKit Go.Lib

set_option maxRecDepth 100000 in
set_option maxHeartbeats 4000000 in
theorem begins_any (w : World) (lo lo' : Nat) (a b : Option Addr) (c d : Nat) (L M : List (Int × List Nat)) (h1 : RdS lo w a L) (h2 : RdS lo' w b M) (hL : ∀ x ∈ L, x.2.length < 281474976710656) (hM : ∀ x ∈ M, x.2.length < 281474976710656) (hp : (M.map Prod.fst).Pairwise (· < ·)) (hb : Begins L M) :
    Calls Try.prog 35 #[.slice a L.length c, .slice b M.length d] w fun e w' => e = .returned (.bool true) ∧ Keep (fun _ => False) w w' := by
  have H1 := hide fun j hj => h1.at' j hj hL
  have hl := h1.1
  have H2 := hide h2
  have HMl := hide hM
  have HP := hide hp
  have HB := hide hb
  obtain ⟨m, em⟩ : ∃ m, m = L.length := ⟨_, rfl⟩
  have HM := hide em
  rw [← em] at hl ⊢
  clear h1 h2 hb em hL hM hp
  go_enter Try.func35, Try.ntmps35
  go_wp2
  go_loopw [5] (fun iv wr => ∃ (q : Nat), q ≤ m ∧ iv = .int .i64 (q : Nat) ∧ Hid (Keep (fun _ => False) w wr)) (fun iv _ => m - (intOf iv).toNat)
  case atStart => exact ⟨0, Nat.zero_le _, rfl, Keep.refl _ _⟩
  case round =>
    obtain ⟨q, hqm, rfl, HK⟩ := hrel
    by_cases hq : q < m
    · have hqk : q < L.length := by rw [← HM.out]; exact hq
      obtain ⟨g, rfl, g1, ba, bc, g2, g3, _, _⟩ := H1.out q hqk
      have HMem := hide (List.getElem_mem hqk)
      have x1 := HK.out.cell g1 fun f => f
      have x2 := HK.out.cell g2 fun f => f
      have HX : Hid (∀ n, (convert 41 9 (.slice ba L[q].2.length bc)).run Try.prog (wr.drewN n) = .ok (.string (str L[q].2)) (wr.drewN n)) := fun n => conv_rd ((g3.stay (S := fun _ => False) HK.out fun _ _ _ f => f).stay (S := fun _ => False) (w' := wr.drewN n) ⟨rfl, rfl, rfl, Nat.le_refl _, fun _ _ _ => rfl⟩ fun _ _ _ f => f) bc
      have hq0 : (q : Int) < m := by omega
      have hw : wrap64 ((q : Int) + 1) = ((q + 1 : Nat) : Int) := wr' (by omega) (by omega) (by omega)
      have HQ := hide (show q + 1 ≤ m by omega)
      generalize L[q] = x at *
      obtain ⟨xk, xb⟩ := x
      simp only at x1 x2 HX
      have HA : Hid (Calls Try.prog 36 #[.slice b M.length d, .int .i64 xk] wr fun e w' => w' = wr ∧ ∃ (ya : Option Addr) (yc : Nat) (y : List Nat), e = .returned (.tuple #[.slice ya y.length yc, .bool true]) ∧ (xb.length ≤ y.length ∧ y.take xb.length = xb) ∧ Rd wr ya y.length y ∧ y.length ≤ yc) := by
        refine (at_any wr lo' b d M xk (H2.out.keep HK.out fun _ _ _ f => f) HMl.out).mono fun e w' ⟨hw', h⟩ => ⟨hw', ?_⟩
        obtain ⟨b', hb1, hb2, hb3⟩ := HB.out xk xb HMem.out
        rcases h with ⟨ya, yc, y, e1, hy, hr, hl, _⟩ | ⟨_, hn⟩
        · have := keys_one HP.out hb1 hy
          subst this
          exact ⟨ya, yc, b', e1, ⟨hb2, hb3⟩, hr, hl⟩
        · exact absurd hb1 (hn b')
      clear g1 g2 g3 hqm
      go_wp2_with (go_at_call 36
                   refine HA.out.mono ?_
                   rintro e w1 ⟨rfl, ya, yc, y, rfl, ⟨hy1, hy2⟩, hr, hyc⟩
                   have hsl := slice_hi_run' ya y.length yc xb.length (by omega)
                   have hcy := fun n => conv_rd ((hr.front xb.length hy1).stay (S := fun _ => False) (w' := w1.drewN n) ⟨rfl, rfl, rfl, Nat.le_refl _, fun _ _ _ => rfl⟩ fun _ _ _ f => f) yc
                   rw [hy2] at hcy
                   have hcx := HX.out
                   have hyn : ¬ y.length < xb.length := by omega
                   have hyd : decide (y.length < xb.length) = false := decide_eq_false hyn
                   generalize y.length = yn at *
                   generalize str xb = S at *
                   generalize xb.length = xn at *
                   clear hr hy1 hy2 hyc HX)
      go_quiet (fail)
      go_wp2
      go_roundw
      case rel => exact ⟨q + 1, HQ.out, rfl, HK.out.more ⟨rfl, rfl, rfl, Nat.le_refl _, fun _ _ _ => rfl⟩⟩
      case measure => show m - (((q + 1 : Nat) : Int)).toNat < m - ((q : Int)).toNat; have := HQ.out; omega
    · obtain rfl : q = m := by omega
      have hqq : ¬ (q : Int) < q := by omega
      go_wp2
      go_ret
      exact ⟨rfl, HK.out⟩

/-- what all answers -/
def AllAs (w : World) (n : Nat) (e : Ending) (w' : World) : Prop :=
  ∃ (a : Option Addr) (c : Nat), e = .returned (.slice a n c) ∧ Rz w' a n (List.replicate n 1099511627776) ∧ Keep (fun _ => False) w w' ∧ ∀ g off, a = some ⟨g, off, none⟩ → g < w'.heap.size

set_option maxRecDepth 100000 in
set_option maxHeartbeats 4000000 in
theorem all_any (w : World) (n : Nat) (hn : n ≤ 1466015503701) : Calls Try.prog 23 #[.int .i64 (n : Nat)] w (AllAs w n) := by
  obtain ⟨i0, hi, hz0, hz1, hz2⟩ := info_parts info_i64
  go_enter Try.func23, Try.ntmps23
  go_wp2
  go_loopw [3, 4] (fun v iv wr => ∃ (q : Nat), q ≤ n ∧ iv = .int .i64 (q : Nat) ∧ wr.ownsRow w.heap.size 3 1 v q ((List.replicate q 1099511627776).map (Value.int .i64)) ∧ Hid (Keep (fun _ => False) w wr)) (fun _ iv _ => n - (intOf iv).toNat)
  case atStart => exact ⟨0, Nat.zero_le _, rfl, World.ownsRow_nil _ _ _ _, Keep.refl _ _⟩
  case round =>
    obtain ⟨q, hqm, rfl, hrow, HK⟩ := hrel
    by_cases hq : q < n
    · have hq0 : (q : Int) < n := by omega
      have hw : wrap64 ((q : Int) + 1) = ((q + 1 : Nat) : Int) := wr' (by omega) (by omega) (by omega)
      have HQ := hide (show q + 1 ≤ n by omega)
      have hsz := HK.out.size
      go_wp2_with (first
        | (at_builtin; refine wpList_append_own_at _ rfl _ _ 32 rfl w.heap.size 3 i0 (.int .i64 0) 1 8 Try.underlying32 hi hz0 hz1 hz2 rfl (by decide) _ _ _ rfl (hrow.alloc _) ⟨wr.heap.size, 0, none⟩ 1 1 [.int .i64 1099511627776] rfl rfl ?c1 ?c2 ?c3 ?c4 ?c5 ?_)
        | go_in)
      case c1 =>
        intro j u hj
        match j, hj with
        | 0, hj => simp at hj; subst hj; simp [Addr.add]
      case c2 => intro u hu; simp at hu; subst hu; rfl
      case c3 => have := HQ.out; unfold maxLen; omega
      case c4 => have := HQ.out; omega
      case c5 => simp; omega
      · intro v' w4 hown' hgrow _ hloc
        have HK4 : Hid (Keep (fun _ => False) w w4) := (HK.out.more (Keep.alloc _ _ _)).grownNew hgrow fun k e => .inr ((hrow.alloc (.cells #[.int .i64 1099511627776] 3)).lt k e).1
        have hown4 : w4.ownsRow w.heap.size 3 1 v' (q + 1) ((List.replicate (q + 1) 1099511627776).map (Value.int .i64)) := by
          rw [List.replicate_succ', List.map_append, List.map_replicate]; exact hown'
        clear hown' hgrow hloc hrow HK
        go_wp2
        go_roundw
        case rel => exact ⟨q + 1, HQ.out, rfl, hown4, HK4⟩
        case measure => show n - (((q + 1 : Nat) : Int)).toNat < n - ((q : Int)).toNat; have := HQ.out; omega
    · obtain rfl : q = n := by omega
      have hqq : ¬ (q : Int) < q := by omega
      obtain ⟨av, cv, hv⟩ := ownsRow_shape hrow
      subst hv
      have HE : Hid (AllAs w q (.returned (.slice av q cv)) wr) := by
        refine ⟨av, cv, rfl, ⟨by simp, by omega, fun x hx => by rw [List.eq_of_mem_replicate hx]; decide, ?_⟩, HK.out, fun g off e => ?_⟩
        · by_cases h0 : q = 0
          · exact .inl h0
          · right
            obtain ⟨g, e, _, _⟩ := ownsRow_ints hrow 0 (by simp; omega)
            refine ⟨g, 0, e, fun i hi => ?_⟩
            obtain ⟨g', e', _, hc⟩ := ownsRow_ints hrow i (by simp; exact hi)
            rw [e] at e'
            injection e' with e'
            injection e' with e' _
            subst e'
            rw [Nat.zero_add, hc]
            simp [List.getD, hi]
        · exact (hrow.lt g (by rw [e]; rfl)).2
      clear hrow hq
      go_wp2
      go_ret
      exact HE.out

end Go.Proofs.Ytbjianhpdadhcaa
