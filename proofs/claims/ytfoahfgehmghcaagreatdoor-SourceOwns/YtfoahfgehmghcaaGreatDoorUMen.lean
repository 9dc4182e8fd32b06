/- Package source: lines of needs and after. -/
import Derived.Test.YtfoahfgehmghcaaGreatDoorUGrw
import Derived.Deep.Cut
namespace Go.Proofs.YtfoahfgehmghcaaGreatDoor
namespace U
open Go.RowKit

set_option maxHeartbeats 1000000 in
theorem indexStr_any (F : FuncId) (p : List UInt8 → Bool) (a : Option Addr) (ws : List (List UInt8)) (c : Nat) (w : World) (hr : RdS w a ws) (hl : ws.length ≤ 1000000) (hF : ∀ args w, (callFunc F args).run Tryz.prog w = .ok (.enter F args) w)
    (hstep : ∀ x W, x ∈ ws → Below w.heap.size w W → Calls Tryz.prog F #[.string (ba x)] W fun e W' => e = .returned (.bool (p x)) ∧ Below W.heap.size W W') :
    Calls Tryz.prog 123 #[.slice a ws.length c, .func (.func F) #[] #[]] w fun e w' => ∃ i : Int, e = .returned (.int .i64 i) ∧ (i = -1 ∧ ws.any p = false ∨ 0 ≤ i ∧ ws.any p = true) ∧ Below w.heap.size w w' := by
  have HR := hide hr
  have HS := hide hstep
  generalize hn : ws.length = n at *
  have HN := hide hn
  clear hr hstep hn
  go_enter Tryz.func123, Tryz.ntmps123
  go_wp2_with fail
  go_loopw [8] (fun iv wr => ∃ i : Nat, iv = .int .i64 (i : Nat) ∧ i ≤ n ∧ Hid ((ws.take i).any p = false ∧ Below w.heap.size w wr)) (fun iv _ => n - (intOf iv).toNat)
  case atStart => exact ⟨0, rfl, Nat.zero_le _, by simp, Below.refl _ _⟩
  case round =>
    obtain ⟨i, rfl, hi, HD⟩ := hrel
    by_cases hlt : i < n
    · obtain ⟨x, hx⟩ : ∃ x, ws[i]? = some x := ⟨_, List.getElem?_eq_getElem (by have := HN.out; omega)⟩
      obtain ⟨g, off, rfl, hg, hc⟩ := (HR.out.below HD.out.2).resolve_left (by intro e; have := HN.out; rw [e] at this; simp at this; omega)
      have ci := hc i x hx
      have C := hide (HS.out x wr (List.mem_of_getElem? hx) HD.out.2)
      have htk : (ws.take (i + 1)).any p = ((ws.take i).any p || p x) := by rw [Gr.take_snoc ws i x hx]; simp
      have HT := hide htk
      have HX := hide hx
      clear hx hc hg HR htk
      generalize ba x = y at *
      generalize hpx : p x = r at *
      have HPX := hide hpx
      clear hpx
      go_wp2_with fail
      refine C.out.mono ?_
      rintro e w2 ⟨rfl, b2⟩
      have B2 := hide (HD.out.2.trans (b2.mono HD.out.2.size))
      clear b2
      cases r
      · go_wp2_with fail
        go_roundw
        · exact ⟨i + 1, rfl, by omega, by rw [HT.out, HD.out.1]; rfl, B2.out⟩
        · show n - ((i : Int) + 1).toNat < n - (i : Int).toNat
          omega
      · go_wp2_with fail
        go_ret
        exact ⟨i, rfl, .inr ⟨by omega, List.any_eq_true.2 ⟨x, List.mem_of_getElem? HX.out, HPX.out⟩⟩, B2.out⟩
    · go_wp2_with fail
      go_ret
      refine ⟨-1, rfl, .inl ⟨rfl, ?_⟩, HD.out.2⟩
      have := HD.out.1
      rwa [List.take_of_length_le (by have := HN.out; omega)] at this
set_option maxHeartbeats 1000000 in
theorem containsStr_any (F : FuncId) (p : List UInt8 → Bool) (a : Option Addr) (ws : List (List UInt8)) (c : Nat) (w : World) (hr : RdS w a ws) (hl : ws.length ≤ 1000000) (hF : ∀ args w, (callFunc F args).run Tryz.prog w = .ok (.enter F args) w)
    (hstep : ∀ x W, x ∈ ws → Below w.heap.size w W → Calls Tryz.prog F #[.string (ba x)] W fun e W' => e = .returned (.bool (p x)) ∧ Below W.heap.size W W') :
    Calls Tryz.prog 107 #[.slice a ws.length c, .func (.func F) #[] #[]] w fun e w' => e = .returned (.bool (ws.any p)) ∧ Below w.heap.size w w' := by
  have I := hide (indexStr_any F p a ws c w hr hl hF hstep)
  clear hstep hF hr
  generalize ws.any p = r at *
  go_enter Tryz.func107, Tryz.ntmps107
  go_wp2_with fail
  go_at_call 123
  refine I.out.mono ?_
  rintro e w1 ⟨i, rfl, h1, k1⟩
  have H1 := hide h1
  clear h1
  rcases H1.out with ⟨rfl, rfl⟩ | ⟨hi, rfl⟩
  · go_wp2_with fail
    go_ret
    exact ⟨rfl, k1⟩
  · go_wp2_with fail
    go_ret
    exact ⟨by simp, k1⟩
theorem isNone_any (x : List UInt8) (w : World) :
    Calls Tryz.prog 105 #[.string (ba x)] w fun e w' => e = .returned (.bool (!nmL x)) ∧ Below w.heap.size w w' := by
  have H := hide (isName_any (ba x) w)
  rw [ba_data] at H
  go_enter Tryz.func105, Tryz.ntmps105
  go_wp2_with (go_at_call 106; refine H.out.mono ?_; rintro e w1 ⟨rfl, hb⟩)
  go_ret
  exact ⟨rfl, hb⟩
theorem enter_none : ∀ args w, (callFunc 105 args).run Tryz.prog w = .ok (.enter 105 args) w := by intro args w; simp [go_sem]
theorem any_none (ws : List (List UInt8)) : (ws.any fun x => !nmL x) = !ws.all nmL := by
  induction ws with
  | nil => rfl
  | cons x r ih => simp only [List.any_cons, List.all_cons, ih, Bool.not_and]
end U
end Go.Proofs.YtfoahfgehmghcaaGreatDoor
