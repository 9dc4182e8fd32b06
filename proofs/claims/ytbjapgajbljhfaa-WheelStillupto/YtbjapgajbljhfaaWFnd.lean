/- Package wheel: Find (of numbers). -/
import Derived.Test.YtbjapgajbljhfaaWCan
namespace Go.Proofs.Ytbjapgajbljhfaa
namespace Wh
open Go.RowKit

/-- the entry of a timer that is there -/
theorem WIn.entry {tw te : TypeId} {S : Nat → Prop} {w : World} {P m : Nat} {at_ : Nat → Nat} {s : St} (h : WIn tw te S w P m at_ s.row s) (hok : Ok s) {id : Nat} (hm : id ∈ s.ids) : ∃ b e, Ent te w at_ s id b e := by
  obtain ⟨xs, ys, e⟩ := List.append_of_mem (hok.place hm)
  exact ⟨_, _, h.lnk _ _ xs ys id e⟩

/-- what Find answers -/
def Finds (w : World) (s : St) (id : Nat) (e : Ending) (w' : World) : Prop := Keep (fun _ => False) w w' ∧
  ((id ∈ s.ids ∧ e = .returned (.tuple #[.agg #[.int .i64 (id : Nat), .int .i64 (s.due id : Nat), s.what id], .int .i64 0])) ∨ (id ∉ s.ids ∧ e = .returned (.tuple #[.agg #[.int .i64 0, .int .i64 0, .int .i64 0], .int .i64 71])))

set_option maxRecDepth 100000 in
set_option maxHeartbeats 4000000 in
theorem find_any {S : Nat → Prop} {P : Nat} {s : St} (id : Nat) (w : World) (h : WAt 75 80 S w P s) (hid : id < 2 ^ 62) (hwt : ∀ id ∈ s.ids, ∃ y1, s.what id = .int .i64 y1) :
    Calls Try.prog 18 #[.pointer (some ⟨P, 0, none⟩), .int .i64 (id : Nat)] w (Finds w s id) := by
  obtain ⟨hok, m, at_, h⟩ := h
  have H := hide h
  have HO := hide hok
  have k1 : Keep (fun _ => False) w (w.alloc (.cells #[.int .i64 0, .int .i64 0, .int .i64 0] 32)) := Keep.alloc _ _ _
  have h1 := h.stay k1 (fun _ _ _ h => h) hok.rows1.sub
  have hP := h.ltP
  have hnP : P ≠ w.heap.size := by omega
  have c2 := h1.cmap
  have b1 := heap_alloc_new w (.cells #[.int .i64 0, .int .i64 0, .int .i64 0] 32)
  have K1 := hide k1
  rcases h1.look mapTI (fun w => by kernel_rfl) id hid with ⟨hm, hl⟩ | ⟨hm, hl⟩
  · have hl0 := hl 0
    rw [show ∀ u : World, u.drewN 0 = u from fun _ => rfl] at hl0
    simp only [ptr] at hl0
    obtain ⟨y1, hy⟩ := hwt id hm
    obtain ⟨b, e, he⟩ := h1.entry hok hm
    unfold Ent ecells at he
    rw [hy] at he
    have q0 := cell_blk he 0 rfl
    have q1 := cell_blk he 1 rfl
    have q2 := cell_blk he 2 rfl
    have f0 := frozen_blk b1 0
    have f1 := frozen_blk b1 1
    have f2 := frozen_blk b1 2
    have hlt := h.lte hm
    have hne : at_ id ≠ w.heap.size := by omega
    have HB := hide b1
    clear h hok hl h1 he hwt k1 b1
    go_enter Try.func18, Try.ntmps18
    go_wp2_with fail
    exact bodyPost_ret (res_timerI rfl _ _ w.heap.size _ _ _ rfl (heap_alloc_new _ _) rfl) rfl ⟨Keep.alloc _ _ _, .inl ⟨hm, by rw [hy]; rfl⟩⟩
  · have hl0 := hl 0
    rw [show ∀ u : World, u.drewN 0 = u from fun _ => rfl] at hl0
    have HB := hide b1
    clear h hok hl h1 hwt k1 b1
    go_enter Try.func18, Try.ntmps18
    go_wp2_with fail
    exact bodyPost_ret (res_timerI rfl _ _ w.heap.size _ _ _ rfl (heap_alloc_new _ _) rfl) rfl ⟨Keep.alloc _ _ _, .inr ⟨hm, rfl⟩⟩

end Wh
end Go.Proofs.Ytbjapgajbljhfaa
