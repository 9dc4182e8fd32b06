/- Package wheel: the laws' own pick and awake. -/
import Derived.Test.YtbjapgajbljhfaaWCan
namespace Go.Proofs.Ytbjapgajbljhfaa
namespace Wh
open Go.RowKit

/-- What pick answers. -/
def pickV (c n : Int) : Int := (if c < 0 then -(c + 1) else c) % n
theorem pickV_in (c n : Int) (hn : 0 < n) : 0 ≤ pickV c n ∧ pickV c n < n := ⟨Int.emod_nonneg _ (by omega), Int.emod_lt_of_pos _ hn⟩
theorem pick_any (c n : Int) (h1 : -9223372036854775808 ≤ c) (h2 : c ≤ 9223372036854775807) (hn : 0 < n) (hn2 : n ≤ 9223372036854775807) (w : World) :
    Calls Try.prog 7 #[.int .i64 c, .int .i64 n] w fun e w' => e = .returned (.int .i64 (pickV c n)) ∧ w' = w := by
  by_cases hc : c < 0
  · have hv : pickV c n = (-(c + 1)) % n := by unfold pickV; rw [if_pos hc]
    rw [hv]
    go_enter Try.func7, Try.ntmps7
    go_wp2_with fail
    go_ret
    have e : -(c + 1).tmod n = (-(c + 1)) % n := by rw [← Int.neg_tmod, Int.tmod_eq_emod_of_nonneg (by omega)]
    exact ⟨ret_int e, rfl⟩
  · have hv : pickV c n = c % n := by unfold pickV; rw [if_neg hc]
    rw [hv]
    go_enter Try.func7, Try.ntmps7
    go_wp2_with fail
    go_ret
    exact ⟨rfl, rfl⟩

/-- the wheel of awake -/
def awk : St := ((fresh 5).add 7 (.string ⟨#[97]⟩)).add 5 (.string ⟨#[98]⟩)
theorem awk_ids : awk.ids = [1, 2] := rfl
theorem awk_due : awk.due 1 = 7 ∧ awk.due 2 = 5 := ⟨rfl, rfl⟩
theorem awk_what : awk.what 1 = .string ⟨#[97]⟩ ∧ awk.what 2 = .string ⟨#[98]⟩ := ⟨rfl, rfl⟩
theorem awk_next {id : Nat} {s' : St} (h : NextSome awk 6 id s') : id = 2 ∧ s'.ids.length = 1 := by
  obtain ⟨h1, h2, _, rfl⟩ := h
  rw [awk_ids] at h1
  have hid : id = 2 := by
    rcases List.mem_cons.1 h1 with rfl | h1
    · rw [awk_due.1] at h2; omega
    · simpa using h1
  subst hid
  exact ⟨rfl, rfl⟩
theorem awk_none {s' : St} (h : NextNone awk 6 s') : False := by
  have := h.1 2 (by rw [awk_ids]; simp)
  rw [awk_due.2] at this
  omega

set_option maxRecDepth 100000 in
set_option maxHeartbeats 4000000 in
theorem awake_any (w : World) : Calls Try.prog 6 #[] w fun e w' => e = .returned (.bool true) ∧ Keep (fun _ => False) w w' := by
  go_enter Try.func6, Try.ntmps6
  go_wp2_with (go_at_call 19; refine (newS 5 _ (by decide)).mono ?_; rintro e w1 ⟨P, rfl, h1, k1⟩; have H1 := hide h1; have K1 := hide k1; clear h1 k1)
  go_at_call 20
  refine (schedS 7 (.string ⟨#[97]⟩) ⟨_, rfl⟩ w1 H1.out (by decide) (by decide) (by decide)).mono ?_
  rintro e w2 ⟨rfl, h2, k2⟩
  have H2 := hide (h2.mono (T := fun k => w.heap.size ≤ k) fun k e => e.elim (fun x => x) fun e => Nat.le_trans K1.out.size e)
  have K2 := hide k2
  clear h2 k2
  go_wp2_with fail
  go_at_call 20
  refine (schedS 5 (.string ⟨#[98]⟩) ⟨_, rfl⟩ w2 H2.out (by decide) (by decide) (by decide)).mono ?_
  rintro e w3 ⟨rfl, h3, k3⟩
  have H3 : Hid (WAt 95 97 (fun k => w.heap.size ≤ k) w3 P awk) := h3.mono (T := fun k => w.heap.size ≤ k) fun k e => e.elim (fun x => x) fun e => Nat.le_trans K1.out.size (Nat.le_trans K2.out.size e)
  have K3 := hide k3
  clear h3 k3
  go_wp2_with fail
  go_at_call 21
  refine (nextS 6 w3 H3.out (by decide) (by decide) (by decide) (fun id hid => ?_)).mono ?_
  · rw [awk_ids] at hid
    rcases List.mem_cons.1 hid with rfl | hid
    · exact ⟨_, awk_what.1⟩
    · obtain rfl : id = 2 := by simpa using hid
      exact ⟨_, awk_what.2⟩
  rintro e w4 ⟨k4, ⟨s', rfl, hn, _⟩ | ⟨id, s', rfl, hn, h4⟩⟩
  · exact (awk_none hn).elim
  obtain ⟨rfl, hlen⟩ := awk_next hn
  rw [awk_due.2, awk_what.2]
  have H4 := hide h4
  have K4 := hide k4
  have HL := hide hlen
  clear hn h4 k4 hlen
  go_wp2_with (go_at_call 22
               obtain ⟨hok, m, at_, hw⟩ := (H4.out.new (Keep.alloc _ _ (.cells #[.int .i64 2, .int .i64 5, .string ⟨#[98]⟩] 57)))
               refine (lenS _ hw hok).mono ?_
               rw [HL.out]
               rintro e w5 ⟨rfl, rfl⟩)
  go_ret
  refine ⟨rfl, ?_⟩
  exact (((K1.out.trans K2.out fun k e => .inr e).trans K3.out fun k e => .inr e).trans K4.out fun k e => .inr e).more (Keep.alloc _ _ _)

end Wh
end Go.Proofs.Ytbjapgajbljhfaa
