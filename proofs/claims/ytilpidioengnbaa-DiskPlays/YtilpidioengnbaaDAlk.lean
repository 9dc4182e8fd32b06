/- The laws' alike, all, at, begins. -/
import Derived.Test.YtilpidioengnbaaDKno
namespace Go.Proofs.Ytilpidioengnbaa
open Go.RowKit Go.Lib

/-- a list of segments, element by element -/
theorem RdS.at_ {lo : Nat} {w : World} {a : Option Addr} {L : List (Int × List Nat)} (h : RdS lo w a L) (j : Nat) (hj : j < L.length) (hb : ∀ x ∈ L, x.2.length < 281474976710656) :
    ∃ g, a = some ⟨g, 0, none⟩ ∧ w.cell? ⟨g, j * 2, none⟩ = some (.int .i64 L[j].1) ∧ ∃ ba bc, w.cell? ⟨g, j * 2 + 1, none⟩ = some (.slice ba L[j].2.length bc) ∧ Rd w ba L[j].2.length L[j].2 ∧ L[j].2.length ≤ bc := by
  obtain ⟨g, e, _, h2, v, h3, h4, _⟩ := h.2 j hj
  obtain ⟨ba, bc, hv, hr, _, hl, _⟩ := h4.rd (hb _ (List.getElem_mem hj))
  subst hv
  rw [Nat.mul_comm] at h2 h3
  exact ⟨g, e, h2, ba, bc, h3, hr, hl⟩

set_option maxRecDepth 100000 in
set_option maxHeartbeats 4000000 in
theorem alike_any (w : World) (lo lo' : Nat) (a b : Option Addr) (c d : Nat) (L : List (Int × List Nat)) (h1 : RdS lo w a L) (h2 : RdS lo' w b L) (hb : ∀ x ∈ L, x.2.length < 281474976710656) :
    Calls Try.prog 17 #[.slice a L.length c, .slice b L.length d] w fun e w' => e = .returned (.bool true) ∧ Keep (fun _ => False) w w' := by
  have H1 := hide fun j hj => h1.at_ j hj hb
  have H2 := hide fun j hj => h2.at_ j hj hb
  have hl := h1.1
  obtain ⟨m, em⟩ : ∃ m, m = L.length := ⟨_, rfl⟩
  have HM := hide em
  rw [← em] at hl ⊢
  clear h1 h2 hb em
  go_enter Try.func17, Try.ntmps17
  go_wp2
  go_loopw [5] (fun iv wr => ∃ (q : Nat), q ≤ m ∧ iv = .int .i64 (q : Nat) ∧ Hid (Keep (fun _ => False) w wr)) (fun iv _ => m - (intOf iv).toNat)
  case atStart => exact ⟨0, Nat.zero_le _, rfl, Keep.refl _ _⟩
  case round =>
    obtain ⟨q, hqm, rfl, HK⟩ := hrel
    by_cases hq : q < m
    · obtain ⟨g, rfl, g1, ba, bc, g2, g3, _⟩ := H1.out q (by rw [← HM.out]; exact hq)
      obtain ⟨g', rfl, g1', ba', bc', g2', g3', _⟩ := H2.out q (by rw [← HM.out]; exact hq)
      have x1 := HK.out.cell g1 fun f => f
      have x2 := HK.out.cell g2 fun f => f
      have y1 := HK.out.cell g1' fun f => f
      have y2 := HK.out.cell g2' fun f => f
      have z1 := fun n => conv_rd ((g3.stay (S := fun _ => False) HK.out fun _ _ _ f => f).stay (S := fun _ => False) (w' := wr.drewN n) ⟨rfl, rfl, rfl, Nat.le_refl _, fun _ _ _ => rfl⟩ fun _ _ _ f => f) bc
      have z2 := fun n => conv_rd ((g3'.stay (S := fun _ => False) HK.out fun _ _ _ f => f).stay (S := fun _ => False) (w' := wr.drewN n) ⟨rfl, rfl, rfl, Nat.le_refl _, fun _ _ _ => rfl⟩ fun _ _ _ f => f) bc'
      have hq0 : (q : Int) < m := by omega
      have hw : wrap64 ((q : Int) + 1) = ((q + 1 : Nat) : Int) := wr' (by omega) (by omega) (by omega)
      have HQ := hide (show q + 1 ≤ m by omega)
      generalize hx : L[q]'(by rw [← HM.out]; exact hq) = x at *
      obtain ⟨xk, xb⟩ := x
      simp only at x1 x2 y1 y2 z1 z2
      generalize str xb = S at *
      generalize xb.length = n at *
      clear hx g1 g2 g3 g1' g2' g3' hqm
      go_wp2
      go_quiet (fail)
      go_wp2
      go_roundw
      case rel => exact ⟨q + 1, HQ.out, rfl, HK.out.more ⟨rfl, rfl, rfl, Nat.le_refl _, fun _ _ _ => rfl⟩⟩
      case measure => show m - (((q + 1 : Nat) : Int)).toNat < m - ((q : Int)).toNat; have := HQ.out; omega
    · obtain rfl : q = m := by omega
      have hqq : ¬ (q : Int) < q := by omega
      go_wp2
      go_ret
      exact ⟨rfl, HK.out⟩

end Go.Proofs.Ytilpidioengnbaa
