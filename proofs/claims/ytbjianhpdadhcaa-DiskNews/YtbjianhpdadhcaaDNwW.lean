/- DiskNews: the document's New and Room of a new disk; the walk. -/
import Derived.Test.YtbjianhpdadhcaaDKno
namespace Go.Proofs.Ytbjianhpdadhcaa
open Go.RowKit Go.Lib

/-- the document's new disk, in memory -/
def RNew (w : World) (p : Nat) (c : Int) : Prop := w.heap[p]? = some (.cells #[.int .i64 c, .slice none 0 0, .slice none 0 0, .int .i64 (-1), .bool false] 84 (0, 0))

def RNewAs (w : World) (c : Int) (e : Ending) (w' : World) : Prop :=
  Keep (fun _ => False) w w' ∧ ((c < 0 ∨ 67108864 < c) ∧ e = .returned (.tuple #[.pointer none, .int .i64 50]) ∨
    0 ≤ c ∧ c ≤ 67108864 ∧ ∃ p, e = .returned (.tuple #[.pointer (some ⟨p, 0, none⟩), .int .i64 0]) ∧ RNew w' p c)

theorem rnew_any (c : Int) (w : World) : Calls Try.prog 11 #[.int .i64 c] w (RNewAs w c) := by
  by_cases hc : c < 0 ∨ 67108864 < c
  · have HC := hide hc
    by_cases h1 : c < 0
    · clear hc
      go_enter Try.func11, Try.ntmps11
      go_wp2
      go_ret2
      exact ⟨Keep.refl _ _, .inl ⟨HC.out, rfl⟩⟩
    · have h2 : c > 67108864 := by omega
      clear hc
      go_enter Try.func11, Try.ntmps11
      go_wp2
      go_ret2
      exact ⟨Keep.refl _ _, .inl ⟨HC.out, rfl⟩⟩
  · have h3 : ¬ c < 0 := by omega
    have h4 : ¬ c > 67108864 := by omega
    have H1 := hide (show 0 ≤ c by omega)
    have H2 := hide (show c ≤ 67108864 by omega)
    clear hc
    go_enter Try.func11, Try.ntmps11
    go_wp2
    go_ret2
    exact ⟨Keep.alloc _ _ _, .inr ⟨H1.out, H2.out, w.heap.size, rfl, heap_alloc_new w _⟩⟩

theorem rroom_any (c : Int) (p : Nat) (w : World) (h : RNew w p c) (h0 : 0 ≤ c) : Calls Try.prog 43 #[.pointer (some ⟨p, 0, none⟩)] w fun e w' => e = .returned (.int .i64 c) ∧ w' = w := by
  have c0 : w.cell? ⟨p, 0, none⟩ = some (.int .i64 c) := cell_blk h 0 rfl
  have c1 : w.cell? ⟨p, 1, none⟩ = some (.slice none 0 0) := cell_blk h 1 rfl
  have hc : ¬ c < 0 := by omega
  clear h h0
  go_enter Try.func43, Try.ntmps43
  go_wp2
  go_loop [3, 4] (fun nv iv => nv = .int .i64 c ∧ iv = .int .i64 0) (fun _ _ => 0)
  case atStart => exact ⟨rfl, rfl⟩
  case round =>
    obtain ⟨rfl, rfl⟩ := hrel
    go_wp2
    go_ret
    exact ⟨rfl, rfl⟩

theorem rRoom_any (c : Int) (p : Nat) (w : World) (h : RNew w p c) (h0 : 0 ≤ c) : Calls Try.prog 13 #[.pointer (some ⟨p, 0, none⟩)] w fun e w' => e = .returned (.tuple #[.int .i64 c, .int .i64 0]) ∧ w' = w := by
  have c4 : w.cell? ⟨p, 4, none⟩ = some (.bool false) := cell_blk h 4 rfl
  have HR := hide (rroom_any c p w h h0)
  clear h h0
  go_enter Try.func13, Try.ntmps13
  go_wp2_with (go_at_call 43; refine HR.out.mono ?_; rintro e w1 ⟨rfl, rfl⟩)
  go_ret2
  exact ⟨rfl, rfl⟩

set_option maxRecDepth 100000 in
set_option maxHeartbeats 4000000 in
theorem news_walk (c : Int) (W : World) : Calls Try.prog 3 #[.int .i64 c] W fun e w' => e = .returned (.bool true) ∧ Below W.heap.size W w' := by
  have HKn := hide (known_any W)
  have HN := hide fun w => new_any c w
  have HR := hide fun w => rnew_any c w
  by_cases hc : c < 0 ∨ 67108864 < c
  · have HC := hide hc
    clear hc
    go_enter Try.func3, Try.ntmps3
    go_wp2_with (first
      | (go_at_call 9; refine HKn.out.mono ?_; rintro e w1 ⟨rfl, hk⟩; have HK1 := hide hk; clear hk)
      | (go_at_call 10
         refine (HN.out _).mono ?_
         rintro e w2 ⟨hk, h⟩
         obtain ⟨rfl, rfl⟩ : e = .returned (.tuple #[.pointer none, .int .i64 50]) ∧ w2 = w1 := by
           rcases h with ⟨_, h1, h2⟩ | ⟨h1, h2, _⟩
           · exact ⟨h1, h2⟩
           · have := HC.out; omega
         clear hk h)
      | (go_at_call 11
         refine (HR.out _).mono ?_
         rintro e w3 ⟨hk, h⟩
         obtain rfl : e = .returned (.tuple #[.pointer none, .int .i64 50]) := by
           rcases h with ⟨_, h1⟩ | ⟨h1, h2, _⟩
           · exact h1
           · have := HC.out; omega
         have HK3 := hide hk
         clear hk h))
    go_ret
    exact ⟨rfl, (HK1.out.more HK3.out).below (Nat.le_refl _) fun _ f => f.elim⟩
  · have H0 := hide (show 0 ≤ c by omega)
    have H2 := hide (show c ≤ 67108864 by omega)
    have HCN : Hid (((c.toNat : Nat) : Int) = c) := by show _ = _; omega
    clear hc
    go_enter Try.func3, Try.ntmps3
    go_wp2_with (first
      | (go_at_call 9; refine HKn.out.mono ?_; rintro e w1 ⟨rfl, hk⟩; have HK1 := hide hk; clear hk)
      | (go_at_call 10
         refine (HN.out _).mono ?_
         rintro e w2 ⟨hk, h⟩
         obtain ⟨p, rfl, hd⟩ : ∃ p, e = .returned (.tuple #[.pointer (some ⟨p, 0, none⟩), .int .i64 0]) ∧ DAt (fun i => w1.heap.size ≤ i) w2 p (St.new c.toNat) := by
           rcases h with ⟨h1, _⟩ | ⟨_, _, h⟩
           · have := H0.out; have := H2.out; omega
           · exact h
         have HK2 := hide hk
         have HD2 := hide hd
         clear hk h hd)
      | (go_at_call 11
         refine (HR.out _).mono ?_
         rintro e w3 ⟨hk, h⟩
         obtain ⟨pr, rfl, hr⟩ : ∃ p, e = .returned (.tuple #[.pointer (some ⟨p, 0, none⟩), .int .i64 0]) ∧ RNew w3 p c := by
           rcases h with ⟨h1, _⟩ | ⟨_, _, h⟩
           · have := H0.out; have := H2.out; omega
           · exact h
         have HK3 := hide hk
         have HG : Hid (Good 0 (St.new c.toNat)) := Good.new (by have := H2.out; have := HCN.out; omega)
         have HD3 := hide (HD2.out.stay hk fun _ _ _ f => f)
         have HRm : Hid (Calls Try.prog 12 #[.pointer (some ⟨p, 0, none⟩)] w3 fun e w' => e = .returned (.tuple #[.int .i64 c, .int .i64 0]) ∧ ∃ n, w' = w3.drewN n) := by
           have := Room_any _ w3 p _ HD3.out (HG.out.ok (by decide))
           have hrm : (((St.new c.toNat).room : Nat) : Int) = c := by rw [show (St.new c.toNat).room = c.toNat from Nat.sub_zero _]; exact HCN.out
           rw [hrm] at this
           exact this
         have HRN := hide hr
         clear hk h hr)
      | (go_at_call 12
         refine HRm.out.mono ?_
         rintro e w4 ⟨rfl, n4, hw4⟩
         have k4 : Keep (fun _ => False) w3 w4 := by rw [hw4]; exact ⟨rfl, rfl, rfl, Nat.le_refl _, fun _ _ _ => rfl⟩
         have HK4 := hide k4
         have HRr := hide (rRoom_any c pr w4 (k4.blk HRN.out fun f => f) H0.out)
         have HD4 := hide (HD3.out.stay k4 fun _ _ _ f => f)
         clear k4 hw4)
      | (go_at_call 13
         refine HRr.out.mono ?_
         rintro e w5 ⟨rfl, rfl⟩
         have HLi : Hid (Calls Try.prog 14 #[.pointer (some ⟨p, 0, none⟩)] w5 fun e w' => ∃ a c, e = .returned (.tuple #[.slice a 0 c, .int .i64 0]) ∧ Keep (fun _ => False) w5 w') := (list_any _ w5 p _ HD4.out (HG.out.ok (by decide))).mono fun e w' ⟨v, ks, e1, h1, h2, ho, hk⟩ => by
           have hks : ks = [] := by
             cases ks with
             | nil => rfl
             | cons x r => exact absurd rfl ((h2 x).1 (by simp)).2
           subst hks
           obtain ⟨av, cv, hv⟩ := ownsRow_shape ho
           subst hv
           exact ⟨av, cv, e1, hk⟩)
      | (go_at_call 14
         refine HLi.out.mono ?_
         rintro e w6 ⟨la, lc, rfl, hk⟩
         have HK6 := hide hk
         have HDn : Hid (Calls Try.prog 15 #[.pointer (some ⟨p, 0, none⟩)] w6 fun e w' => e = .returned (.bool false) ∧ w' = w6) := down_any _ w6 p _ (HD4.out.stay hk fun _ _ _ f => f)
         clear hk)
      | (go_at_call 15
         refine HDn.out.mono ?_
         rintro e w7 ⟨rfl, rfl⟩))
    go_ret
    exact ⟨rfl, ((((HK1.out.more HK2.out).more HK3.out).more HK4.out).more HK6.out).below (Nat.le_refl _) fun _ f => f.elim⟩

end Go.Proofs.Ytbjianhpdadhcaa
