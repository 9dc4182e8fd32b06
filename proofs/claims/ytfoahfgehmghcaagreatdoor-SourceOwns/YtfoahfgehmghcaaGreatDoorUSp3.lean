/- The document's Parse: a word and a number behind it. -/
import Derived.Test.YtfoahfgehmghcaaGreatDoorUSp1
import Derived.Test.YtfoahfgehmghcaaGreatDoorULi2
import Derived.Test.YtfoahfgehmghcaaGreatDoorUSpT
namespace Go.Proofs.YtfoahfgehmghcaaGreatDoor
namespace U
namespace Sp
open Go.RowKit

/-- the value of three answers of said -/
def sdV (x : Int × Nat × Bool) : Value := .tuple #[.int .i64 x.1, .int .i64 (x.2.1 : Nat), .bool x.2.2]
theorem getD_of {ws : List (List UInt8)} {i : Nat} {x : List UInt8} (h : ws[i]? = some x) : ws.getD i [] = x := by rw [List.getD_eq_getElem?_getD, h]; rfl
theorem ne_of_lt {ws : List (List UInt8)} {i : Nat} (h : i < ws.length) : ws ≠ [] := fun e => by rw [e] at h; exact absurd h (Nat.not_lt_zero _)
set_option maxHeartbeats 1000000 in
theorem said_any (a : Option Addr) (c : Nat) (ws : List (List UInt8)) (p : Nat) (kw : List UInt8) (w : World) (hr : RdS w a ws) (hz : ∀ x ∈ ws, x.length ≤ 65536) (hp : p ≤ 1000010) :
    Calls Tryz.prog 46 #[.slice a ws.length c, .int .i64 (p : Nat), .string (ba kw)] w fun e w' => e = .returned (sdV (sd ws p kw)) ∧ w' = w := by
  have HS : Hid (sd ws p kw = if p + 1 < ws.length ∧ ws.getD p [] = kw then ((((num (ws.getD (p + 1) [])).getD 0 : Nat) : Int), p + 2, (num (ws.getD (p + 1) [])).isSome) else (0, p, false)) := rfl
  unfold sdV
  generalize sd ws p kw = R at *
  by_cases c1 : p + 1 < ws.length
  · obtain ⟨g, off, rfl, _, hc⟩ := hr.resolve_left (ne_of_lt c1)
    obtain ⟨x, hx⟩ : ∃ x, ws[p]? = some x := ⟨_, List.getElem?_eq_getElem (by omega)⟩
    obtain ⟨y, hy⟩ : ∃ y, ws[p + 1]? = some y := ⟨_, List.getElem?_eq_getElem c1⟩
    have cx := hc p x hx
    have cy := hc (p + 1) y hy
    have hyl := hz y (List.mem_of_getElem? hy)
    rw [getD_of hx, getD_of hy] at HS
    have hq := string_eq x kw
    have NB := hide (fun w => refNumber_any y w hyl)
    unfold numEnd at NB
    generalize hn : ws.length = n at *
    have i1 : ¬ (n : Int) ≤ p + 1 := by omega
    have i2 : (p : Int) < n := by omega
    have i3 : (p : Int) + 1 < n := by omega
    clear hc hx hy hyl hz hn
    by_cases c2 : x = kw
    · have hR := HS.out
      rw [if_pos ⟨c1, c2⟩] at hR
      subst hR
      rw [decide_eq_true c2] at hq
      clear c2 HS
      go_enter Tryz.func46, Tryz.ntmps46
      go_wp2_with (go_at_call 73; refine (NB.out _).mono ?_; rintro e w1 ⟨rfl, rfl⟩)
      go_ret3
      exact ⟨rfl, rfl⟩
    · have hR := HS.out
      rw [if_neg (fun h => c2 h.2)] at hR
      subst hR
      rw [decide_eq_false c2] at hq
      clear c2 HS
      go_enter Tryz.func46, Tryz.ntmps46
      go_wp2_with fail
      go_ret3
      exact ⟨rfl, rfl⟩
  · have hR := HS.out
    rw [if_neg (fun h => c1 h.1)] at hR
    subst hR
    have i1 : ((ws.length : Nat) : Int) ≤ p + 1 := by omega
    generalize ws.length = n at *
    clear HS hr hz
    go_enter Tryz.func46, Tryz.ntmps46
    go_wp2_with fail
    go_ret3
    exact ⟨rfl, rfl⟩
end Sp
end U
end Go.Proofs.YtfoahfgehmghcaaGreatDoor
