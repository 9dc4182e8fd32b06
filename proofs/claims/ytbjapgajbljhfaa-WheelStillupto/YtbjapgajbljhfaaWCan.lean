/- Package wheel: Cancel, Find; what the laws ask of a wheel first. -/
import Derived.Test.YtbjapgajbljhfaaWNxt
namespace Go.Proofs.Ytbjapgajbljhfaa
namespace Wh
open Go.RowKit

/-- what Cancel answers -/
def Cancels (tw te : TypeId) (S : Nat → Prop) (w : World) (P : Nat) (s : St) (id : Nat) (e : Ending) (w' : World) : Prop := Keep S w w' ∧
  ((id ∈ s.ids ∧ e = .returned (.int .i64 0) ∧ WAt tw te S w' P (s.del id)) ∨ (id ∉ s.ids ∧ e = .returned (.int .i64 71) ∧ WAt tw te S w' P s))

theorem WIn.look {tw te : TypeId} {S : Nat → Prop} {w : World} {P m : Nat} {at_ : Nat → Nat} {row : Nat → Nat → List Nat} {s : St} (h : WIn tw te S w P m at_ row s) {t e : TypeId} (ht : Try.prog.underlying t = some (.map 3 e)) (hz : ∀ w, (zeroValue e).run Try.prog w = .ok (.pointer none) w) (id : Nat) (hid : id < 2 ^ 62) :
    (id ∈ s.ids ∧ ∀ j, (Instr.lookup t (.map (some m)) (.int .i64 (id : Nat)) true).run Try.prog (w.drewN j) = .ok (.tuple #[ptr at_ (some id), .bool true]) (w.drewN j)) ∨ (id ∉ s.ids ∧ ∀ j, (Instr.lookup t (.map (some m)) (.int .i64 (id : Nat)) true).run Try.prog (w.drewN j) = .ok (.tuple #[.pointer none, .bool false]) (w.drewN j)) := by
  obtain ⟨f, mf, hf⟩ := h.mp
  have hl := fun j => (mf.look ht hz (k := ((id : Nat) : Int)) (by omega) (by omega) j).1
  cases e : f ((id : Nat) : Int) with
  | none =>
    refine .inr ⟨fun hm => ?_, fun j => by rw [hl j, e]; rfl⟩
    rw [(hf _ _).2 ⟨id, hm, rfl, rfl⟩] at e
    cases e
  | some v =>
    obtain ⟨j', h1, h2, h3⟩ := (hf _ _).1 e
    obtain rfl : j' = id := by omega
    exact .inl ⟨h1, fun j => by rw [hl j, e, h3]; rfl⟩

set_option maxRecDepth 100000 in
set_option maxHeartbeats 4000000 in
theorem cancelI {S : Nat → Prop} {P : Nat} {s : St} (id : Nat) (w : World) (h : WAt 75 80 S w P s) (hid : id < 2 ^ 62) (hlast : s.last < 2 ^ 62) :
    Calls Try.prog 15 #[.pointer (some ⟨P, 0, none⟩), .int .i64 (id : Nat)] w (Cancels 75 80 S w P s id) := by
  obtain ⟨hok, m, at_, h⟩ := h
  have c2 := h.cmap
  have H := hide h
  have HO := hide hok
  rcases h.look mapTI (fun w => by kernel_rfl) id hid with ⟨hm, hl⟩ | ⟨hm, hl⟩
  · have hl0 := hl 0
    rw [show w.drewN 0 = w from rfl] at hl0
    simp only [ptr] at hl0
    clear h hok hl
    go_enter Try.func15, Try.ntmps15
    go_wp2_with (go_at_call 28; refine (rmvI id _ HO.out H.out hm hlast).mono ?_; rintro e w3 ⟨rfl, h3, _, k3⟩)
    go_ret
    exact ⟨k3.mono H.out.sub, .inl ⟨hm, rfl, HO.out.del id, m, at_, h3⟩⟩
  · have hl0 := hl 0
    rw [show w.drewN 0 = w from rfl] at hl0
    clear h hok hl
    go_enter Try.func15, Try.ntmps15
    go_wp2
    go_ret
    exact ⟨Keep.refl _ _, .inr ⟨hm, rfl, HO.out, m, at_, H.out⟩⟩

end Wh
end Go.Proofs.Ytbjapgajbljhfaa
