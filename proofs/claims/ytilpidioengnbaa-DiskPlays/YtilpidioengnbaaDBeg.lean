/- The laws' begins, all. -/
import Derived.Test.YtilpidioengnbaaDAtt
namespace Go.Proofs.Ytilpidioengnbaa
open Go.RowKit Go.Lib

/-- what all answers -/
def AllAs (w : World) (n : Nat) (e : Ending) (w' : World) : Prop :=
  ∃ (a : Option Addr) (c : Nat), e = .returned (.slice a n c) ∧ Rz w' a n (List.replicate n 1099511627776) ∧ Keep (fun _ => False) w w' ∧ ∀ g off, a = some ⟨g, off, none⟩ → g < w'.heap.size

set_option maxRecDepth 100000 in
set_option maxHeartbeats 4000000 in
theorem all_any (w : World) (n : Nat) (hn : n ≤ 1466015503701) : Calls Try.prog 13 #[.int .i64 (n : Nat)] w (AllAs w n) := by
  obtain ⟨i0, hi, hz0, hz1, hz2⟩ := info_parts info_i64
  go_enter Try.func13, Try.ntmps13
  go_wp2
  go_loopw [3, 4] (fun v iv wr => ∃ (q : Nat), q ≤ n ∧ iv = .int .i64 (q : Nat) ∧ wr.ownsRow w.heap.size 3 1 v q ((List.replicate q 1099511627776).map (Value.int .i64)) ∧ Hid (Keep (fun _ => False) w wr)) (fun _ iv _ => n - (intOf iv).toNat)
  case atStart => exact ⟨0, Nat.zero_le _, rfl, World.ownsRow_nil _ _ _ _, Keep.refl _ _⟩
  case round =>
    obtain ⟨q, hqm, rfl, hrow, HK⟩ := hrel
    by_cases hq : q < n
    · have hq0 : (q : Int) < n := by omega
      have hw : wrap64 ((q : Int) + 1) = ((q + 1 : Nat) : Int) := wr' (by omega) (by omega) (by omega)
      have HQ := hide (show q + 1 ≤ n by omega)
      have hsz := HK.out.size
      go_wp2_with (first
        | (at_builtin; refine wpList_append_own_at _ rfl _ _ 34 rfl w.heap.size 3 i0 (.int .i64 0) 1 8 Try.underlying34 hi hz0 hz1 hz2 rfl (by decide) _ _ _ rfl (hrow.alloc _) ⟨wr.heap.size, 0, none⟩ 1 1 [.int .i64 1099511627776] rfl rfl ?c1 ?c2 ?c3 ?c4 ?c5 ?_)
        | go_in)
      case c1 =>
        intro j u hj
        match j, hj with
        | 0, hj => simp at hj; subst hj; simp [Addr.add]
      case c2 => intro u hu; simp at hu; subst hu; rfl
      case c3 => have := HQ.out; unfold maxLen; omega
      case c4 => have := HQ.out; omega
      case c5 => simp; omega
      · intro v' w4 hown' hgrow _ hloc
        have HK4 : Hid (Keep (fun _ => False) w w4) := (HK.out.more (Keep.alloc _ _ _)).grownNew hgrow fun k e => .inr ((hrow.alloc (.cells #[.int .i64 1099511627776] 3)).lt k e).1
        have hown4 : w4.ownsRow w.heap.size 3 1 v' (q + 1) ((List.replicate (q + 1) 1099511627776).map (Value.int .i64)) := by
          rw [List.replicate_succ', List.map_append, List.map_replicate]; exact hown'
        clear hown' hgrow hloc hrow HK
        go_wp2
        go_roundw
        case rel => exact ⟨q + 1, HQ.out, rfl, hown4, HK4⟩
        case measure => show n - (((q + 1 : Nat) : Int)).toNat < n - ((q : Int)).toNat; have := HQ.out; omega
    · obtain rfl : q = n := by omega
      have hqq : ¬ (q : Int) < q := by omega
      obtain ⟨av, cv, hv⟩ := ownsRow_shape hrow
      subst hv
      have HE : Hid (AllAs w q (.returned (.slice av q cv)) wr) := by
        refine ⟨av, cv, rfl, ⟨by simp, by omega, fun x hx => by rw [List.eq_of_mem_replicate hx]; decide, ?_⟩, HK.out, fun g off e => ?_⟩
        · by_cases h0 : q = 0
          · exact .inl h0
          · right
            obtain ⟨g, e, _, _⟩ := ownsRow_ints hrow 0 (by simp; omega)
            refine ⟨g, 0, e, fun i hi => ?_⟩
            obtain ⟨g', e', _, hc⟩ := ownsRow_ints hrow i (by simp; exact hi)
            rw [e] at e'
            injection e' with e'
            injection e' with e' _
            subst e'
            rw [Nat.zero_add, hc]
            simp [List.getD, hi]
        · exact (hrow.lt g (by rw [e]; rfl)).2
      clear hrow hq
      go_wp2
      go_ret
      exact HE.out

end Go.Proofs.Ytilpidioengnbaa
