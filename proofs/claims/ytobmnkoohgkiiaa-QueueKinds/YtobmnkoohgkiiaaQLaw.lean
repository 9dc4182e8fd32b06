/- Chapter 8's laws: pick, brought, known. -/
import Derived.Test.YtobmnkoohgkiiaaQWho
namespace Go.Proofs.Ytobmnkoohgkiiaa
namespace Qu
open Go.RowKit

/-- What pick answers. -/
def pickV (c n : Int) : Int := (if c < 0 then -(c + 1) else c) % n
theorem pickV_in (c n : Int) (hn : 0 < n) : 0 ≤ pickV c n ∧ pickV c n < n := ⟨Int.emod_nonneg _ (by omega), Int.emod_lt_of_pos _ hn⟩
theorem pick_any (c n : Int) (h1 : -9223372036854775808 ≤ c) (h2 : c ≤ 9223372036854775807) (hn : 0 < n) (hn2 : n ≤ 9223372036854775807) (w : World) :
    Calls Try.prog 13 #[.int .i64 c, .int .i64 n] w fun e w' => e = .returned (.int .i64 (pickV c n)) ∧ w' = w := by
  by_cases hc : c < 0
  · have hv : pickV c n = (-(c + 1)) % n := by unfold pickV; rw [if_pos hc]
    rw [hv]
    go_enter Try.func13, Try.ntmps13
    go_wp2_with fail
    go_ret
    have e : -(c + 1).tmod n = (-(c + 1)) % n := by rw [← Int.neg_tmod, Int.tmod_eq_emod_of_nonneg (by omega)]
    exact ⟨ret_int e, rfl⟩
  · have hv : pickV c n = c % n := by unfold pickV; rw [if_neg hc]
    rw [hv]
    go_enter Try.func13, Try.ntmps13
    go_wp2_with fail
    go_ret
    exact ⟨rfl, rfl⟩

theorem wrapI {e : Int} (h : -9223372036854775808 ≤ e ∧ e ≤ 9223372036854775807) : IntKind.i64.wrap e = e := by
  have := h.1; have := h.2
  simp [IntKind.wrap, IntKind.bits, IntKind.signed]
  omega

/-- what brought answers: a capacity that may be -/
theorem brought_any (c : Int) (h1 : -9223372036854775808 ≤ c) (h2 : c ≤ 9223372036854775807) (w : World) :
    Calls Try.prog 7 #[.int .i64 c] w fun e w' => (∃ n : Nat, 1 ≤ n ∧ n ≤ 65536 ∧ e = .returned (.int .i64 (n : Nat))) ∧ w' = w := by
  obtain ⟨d, hd, hd1, hd2⟩ : ∃ d : Int, IntKind.i64.wrap (c - 1) = d ∧ -9223372036854775808 ≤ d ∧ d ≤ 9223372036854775807 := by
    by_cases h : c = -9223372036854775808
    · subst h; exact ⟨9223372036854775807, by decide, by decide, by decide⟩
    · exact ⟨c - 1, wrapI (by omega), by omega, by omega⟩
  have hb := pickV_in d 65536 (by decide)
  have HP := hide (pick_any d 65536 hd1 hd2 (by decide) (by decide) w)
  generalize hv : pickV d 65536 = v at *
  obtain ⟨m, hm⟩ : ∃ m : Nat, v = (m : Int) := ⟨v.toNat, by omega⟩
  subst hm
  have HB := hide hb
  have hm2 : m < 65536 := by omega
  clear hv hb h1 h2 hd1 hd2
  go_enter Try.func7, Try.ntmps7
  go_wp2_with (go_at_call 13; refine HP.out.mono ?_; rintro e w1 ⟨rfl, rfl⟩)
  go_ret
  exact ⟨⟨m + 1, by omega, by omega, ret_int (by omega)⟩, rfl⟩

theorem func_some1 (w : World) (d : Nat) (t : TypeId) (ps rs : Array TypeId) (b : Bool) (ht : Try.prog.underlying t = some (.func ps rs b)) (f : Fn) (xs ys : Array Value) : (Op.equalIn (d + 1) t (.func f xs ys) .nilFunc).run Try.prog w = .ok false w := by
  simp [Op.equalIn, run_underlying ht]
theorem func_some (w : World) (t : TypeId) (ps rs : Array TypeId) (b : Bool) (ht : Try.prog.underlying t = some (.func ps rs b)) (f : Fn) (xs ys : Array Value) : (binOp .eql t (.func f xs ys) .nilFunc).run Try.prog w = .ok (.bool false) w := by
  simp only [binOp]
  simp [Op.equal, Op.maxDepth, func_some1 w 9999 t ps rs b ht f xs ys]

/-- the queue of known, from call to call -/
def bA : ByteArray := ⟨#[97]⟩
def bB : ByteArray := ⟨#[98]⟩
def bC : ByteArray := ⟨#[99]⟩
def kn0 : St ByteArray := ⟨2, 0, []⟩
def kn1 : St ByteArray := ⟨2, 1, [(1, bB)]⟩
def kn2 : St ByteArray := ⟨2, 2, [(1, bB), (2, bA)]⟩
def kn3 : St ByteArray := ⟨2, 2, [(2, bA)]⟩
theorem kn_1 : pushR kn0 bB = (1, 0) ∧ kn0.pushed bB = kn1 := ⟨rfl, rfl⟩
theorem kn_2 : pushR kn1 bA = (2, 0) ∧ kn1.pushed bA = kn2 := ⟨rfl, rfl⟩
theorem kn_3 : pushR kn2 bC = (0, 82) ∧ kn2.pushed bC = kn2 := ⟨rfl, rfl⟩
theorem kn_4 : frontV KS (.string ⟨#[]⟩) kn2 = .string bB ∧ kn2.take 0 = kn3 := ⟨rfl, rfl⟩
theorem kn_5 : aheadR kn3.row bA = (0, 0) := rfl

set_option maxRecDepth 100000 in
set_option maxHeartbeats 4000000 in
theorem known_any (w : World) : Calls Try.prog 5 #[] w fun e w' => e = .returned (.bool true) ∧ Keep (fun _ => False) w w' := by
  have hfs := fun w f xs ys => func_some w 56 _ _ _ Try.underlying56 f xs ys
  have hbl : bB.toList = [98] := by decide +kernel
  have kb : ∀ k : ByteArray, k.size = 1 → KS.ok k := fun k e => by show k.size ≤ maxLen; rw [e]; decide
  go_enter Try.func5, Try.ntmps5
  go_wp2_with fail
  go_at_call 8
  refine (newS 2 w (by decide) (by decide)).mono ?_
  rintro e w1 ⟨P, rfl, h1, k1⟩
  have H1 : Hid (QAt KS (fun k => w.heap.size ≤ k) w1 P kn0) := h1
  have K1 := hide k1
  clear h1 k1
  go_wp2_with fail
  go_at_call 19
  obtain ⟨_, _, m0, v0, q0⟩ := H1.out
  refine (allS w1 q0 (by decide)).mono ?_
  rintro e w2 ⟨B, a, c, rfl, _, _, _, k2⟩
  have H2 := hide (H1.out.new k2)
  have K2 := hide (K1.out.more k2)
  clear k2 q0 H1 K1
  go_wp2_with fail
  go_at_call 20
  refine (pushS bB w2 H2.out (kb _ rfl) (by decide)).mono ?_
  rintro e w3 ⟨rfl, h3, k3⟩
  rw [kn_1.1]
  rw [kn_1.2] at h3
  have H3 : Hid (QAt KS (fun k => w.heap.size ≤ k) w3 P kn1) := h3.mono fun k e => e.elim (fun x => x) fun e => Nat.le_trans K2.out.size e
  have K3 := hide (K2.out.trans k3 fun k e => .inr e)
  clear h3 k3 H2 K2
  go_wp2_with fail
  go_at_call 20
  refine (pushS bA w3 H3.out (kb _ rfl) (by decide)).mono ?_
  rintro e w4 ⟨rfl, h4, k4⟩
  rw [kn_2.1]
  rw [kn_2.2] at h4
  have H4 : Hid (QAt KS (fun k => w.heap.size ≤ k) w4 P kn2) := h4.mono fun k e => e.elim (fun x => x) fun e => Nat.le_trans K3.out.size e
  have K4 := hide (K3.out.trans k4 fun k e => .inr e)
  clear h4 k4 H3 K3
  go_wp2_with fail
  go_at_call 20
  refine (pushS bC w4 H4.out (kb _ rfl) (by decide)).mono ?_
  rintro e w5 ⟨rfl, h5, k5⟩
  rw [kn_3.1]
  rw [kn_3.2] at h5
  have H5 : Hid (QAt KS (fun k => w.heap.size ≤ k) w5 P kn2) := h5.mono fun k e => e.elim (fun x => x) fun e => Nat.le_trans K4.out.size e
  have K5 := hide (K4.out.trans k5 fun k e => .inr e)
  clear h5 k5 H4 K4
  go_wp2_with fail
  go_at_call 21
  refine (popS w5 H5.out).mono ?_
  rintro e w6 ⟨rfl, h6, k6⟩
  rw [kn_4.1]
  rw [kn_4.2] at h6
  have H6 := hide h6
  have K6 := hide (K5.out.trans k6 fun k e => .inr e)
  clear h6 k6 H5 K5
  go_wp2_with fail
  go_at_call 22
  refine (aheadS bA w6 H6.out (kb _ rfl)).mono ?_
  rintro e w7 ⟨rfl, k7⟩
  rw [kn_5]
  have H7 := hide (H6.out.new k7)
  have K7 := hide (K6.out.more k7)
  clear k7 H6 K6
  go_wp2_with fail
  go_at_call 23
  obtain ⟨_, _, m8, v8, q8⟩ := H7.out
  refine (lenS w7 q8).mono ?_
  rintro e w8 ⟨rfl, rfl⟩
  go_wp2
  go_ret
  exact ⟨rfl, K7.out⟩

end Qu
end Go.Proofs.Ytobmnkoohgkiiaa
