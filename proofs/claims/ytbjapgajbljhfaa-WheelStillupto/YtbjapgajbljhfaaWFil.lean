/- The laws of chapter 7: a wheel filled with timers by raw numbers. -/
import Derived.Test.YtbjapgajbljhfaaWAdA
namespace Go.Proofs.Ytbjapgajbljhfaa
namespace Wh
open Go.RowKit

/-- what a slice of numbers reads -/
def Rz (w : World) (a : Option Addr) (n : Nat) (z : List Int) : Prop :=
  n = z.length ∧ n ≤ 1048576 ∧ (∀ x ∈ z, -9223372036854775808 ≤ x ∧ x ≤ 9223372036854775807) ∧ (n = 0 ∨ ∃ b off, a = some ⟨b, off, none⟩ ∧ b < w.heap.size ∧ ∀ i, i < n → w.cell? ⟨b, off + i, none⟩ = some (.int .i64 (z.getD i 0)))
theorem Rz.stay {w w' : World} {a : Option Addr} {n : Nat} {z : List Int} {S : Nat → Prop} (h : Rz w a n z) (hk : Keep S w w') (hS : ∀ k, k < w.heap.size → ¬ S k) : Rz w' a n z := by
  obtain ⟨h1, h2, h3, h4⟩ := h
  refine ⟨h1, h2, h3, ?_⟩
  rcases h4 with h4 | ⟨b, off, rfl, h0, h4⟩
  · exact .inl h4
  · exact .inr ⟨b, off, rfl, Nat.lt_of_lt_of_le h0 hk.size, fun i hi => hk.cell (h4 i hi) (hS b h0)⟩
theorem Rz.at {w w0 : World} {a : Option Addr} {n : Nat} {z : List Int} {S : Nat → Prop} (h : Rz w0 a n z) (hk : Keep S w0 w) (hS : ∀ k, S k → w0.heap.size ≤ k) : Rz w a n z := h.stay hk fun k hk' e => by have := hS k e; omega

theorem take_map_succ (f : Int → Nat) (z : List Int) (i : Nat) (h : i < z.length) : (z.take (i + 1)).map f = (z.take i).map f ++ [f (z.getD i 0)] := by
  rw [List.take_add_one, List.getElem?_eq_getElem h, Option.toList_some, List.map_append, List.getD_eq_getElem?_getD, List.getElem?_eq_getElem h]
  rfl

/-- the time of a timer, by a raw number -/
def dueOf (now : Nat) (d : Int) : Nat := now + (pickV d (4611686018427387904 - (now : Int) + 1)).toNat
theorem dueOf_in {now : Nat} (hn : now ≤ M) (d : Int) : now ≤ dueOf now d ∧ dueOf now d ≤ M := by
  have := pickV_in d (4611686018427387904 - (now : Int) + 1) (by unfold M at hn; omega)
  unfold dueOf M at *
  omega
theorem pick_due {now : Nat} (hn : now ≤ M) (d : Int) : pickV d (4611686018427387904 - (now : Int) + 1) = ((dueOf now d - now : Nat) : Int) := by
  have := pickV_in d (4611686018427387904 - (now : Int) + 1) (by unfold M at hn; omega)
  unfold dueOf
  omega

/-- a wheel with a timer for each time of a row -/
structure Filled (now : Nat) (D : List Nat) (s : St) : Prop where
  now_ : s.now = now
  last : s.last = D.length
  ids : ∀ id, id ∈ s.ids ↔ 1 ≤ id ∧ id ≤ D.length
  len : s.ids.length = D.length
  due : ∀ i, i < D.length → s.due (i + 1) = D.getD i 0
  what : ∀ i, i < D.length → s.what (i + 1) = .int .i64 (i : Nat)
theorem filled_nil (now : Nat) : Filled now [] (fresh now) := ⟨rfl, rfl, fun id => ⟨(fun h => by cases h), fun ⟨a, b⟩ => by simp at b; omega⟩, rfl, fun i h => by simp at h, fun i h => by simp at h⟩
theorem Filled.add {now : Nat} {D : List Nat} {s : St} (h : Filled now D s) (d : Nat) : Filled now (D ++ [d]) (s.add d (.int .i64 (D.length : Nat))) := by
  obtain ⟨h1, h2, h3, h4, h5, h6⟩ := h
  refine ⟨h1, by simp [St.add, h2], fun id => ?_, by simp [St.add, h4], fun i hi => ?_, fun i hi => ?_⟩
  · simp only [St.add, List.mem_append, h3, h2, List.mem_singleton, List.length_append, List.length_cons, List.length_nil]
    omega
  · simp only [List.length_append, List.length_cons, List.length_nil] at hi
    by_cases hc : i = D.length
    · subst hc
      simp [St.add, updN, h2]
    · have : i < D.length := by omega
      simp only [St.add, updN, h2, if_neg (show ¬ (i + 1 = D.length + 1) by omega)]
      rw [h5 i this]
      simp [List.getD_eq_getElem?_getD, List.getElem?_append, this]
  · simp only [List.length_append, List.length_cons, List.length_nil] at hi
    by_cases hc : i = D.length
    · subst hc
      simp [St.add, updV, h2]
    · have : i < D.length := by omega
      simp only [St.add, updV, h2, if_neg (show ¬ (i + 1 = D.length + 1) by omega)]
      exact h6 i this
theorem Filled.typed {now : Nat} {D : List Nat} {s : St} (h : Filled now D s) : ∀ id ∈ s.ids, ∃ y1, s.what id = .int .i64 y1 := fun id hid => by
  obtain ⟨a, b⟩ := (h.ids id).1 hid
  obtain ⟨i, rfl⟩ : ∃ i, id = i + 1 := ⟨id - 1, by omega⟩
  exact ⟨_, h.what i (by omega)⟩

set_option maxRecDepth 100000 in
set_option maxHeartbeats 4000000 in
theorem fill_any (now : Nat) (hnow : now ≤ M) (a : Option Addr) (n c : Nat) (z : List Int) (w : World) (hz : Rz w a n z) :
    Calls Try.prog 8 #[.int .i64 (now : Nat), .slice a n c] w fun e w' => ∃ P s, e = .returned (.pointer (some ⟨P, 0, none⟩)) ∧ Filled now (z.map (dueOf now)) s ∧ WAt 75 80 (fun k => w.heap.size ≤ k) w' P s ∧ Keep (fun _ => False) w w' := by
  obtain ⟨hn, hn2, hb, hcell⟩ := hz
  have hzl : n = z.length := hn
  have HB := hide hb
  have HC := hide hcell
  clear hb hcell hn
  have hM : now ≤ 4611686018427387904 := hnow
  go_enter Try.func8, Try.ntmps8
  go_wp2_with fail
  go_at_call 23
  refine (newI now _ hnow).mono ?_
  rintro e w1 ⟨P, rfl, h1, k1⟩
  have H1 := hide h1
  have K1 := hide k1
  clear h1 k1
  go_wp2_with fail
  go_loopw [7] (fun iv wr => ∃ (i : Nat) (s : St), iv = .int .i64 (i : Nat) ∧ i ≤ n ∧ Hid (Filled now ((z.take i).map (dueOf now)) s ∧ WAt 75 80 (fun k => w.heap.size ≤ k) wr P s ∧ Keep (fun _ => False) w wr)) (fun iv _ => n - (intOf iv).toNat)
  case atStart => exact ⟨0, fresh now, rfl, Nat.zero_le _, filled_nil now, H1.out, K1.out⟩
  case round =>
    obtain ⟨i, s, rfl, hi, HI⟩ := hrel
    have htl : ((z.take i).map (dueOf now)).length = i := by simp; omega
    rcases Nat.lt_or_ge i n with hlt | hlt
    · obtain ⟨b, off, rfl, hbl, hcell⟩ := HC.out.resolve_left (by omega)
      have cz := HI.out.2.2.cell (hcell i hlt) fun f => f
      have hbz := HB.out (z.getD i 0) (by rw [List.getD_eq_getElem?_getD, List.getElem?_eq_getElem (by omega)]; simp)
      obtain ⟨x, hx⟩ : ∃ x, x = z.getD i 0 := ⟨_, rfl⟩
      rw [← hx] at cz hbz
      have HXX := hide hx
      clear hx
      have hdi := dueOf_in hnow x
      obtain ⟨pq, hpq⟩ : ∃ pq : Nat, dueOf now x = now + pq := ⟨dueOf now x - now, by omega⟩
      have hpq2 : now + pq ≤ 4611686018427387904 := by have := hdi.2; rw [hpq] at this; exact this
      have PK : Hid (∀ w, Calls Try.prog 7 #[.int .i64 x, .int .i64 (4611686018427387904 - (now : Int) + 1)] w fun e w' => e = .returned (.int .i64 (pq : Nat)) ∧ w' = w) := fun w => by
        have e := pick_due hnow x
        rw [hpq, Nat.add_sub_cancel_left] at e
        rw [← e]
        exact pick_any x _ hbz.1 hbz.2 (by omega) (by omega) w
      have SC := hide (schedI (now + pq) (.int .i64 (i : Nat)) ⟨_, rfl⟩ wr HI.out.2.1 (by rw [HI.out.1.now_]; omega) hpq2 (by rw [HI.out.1.last, htl]; omega))
      rw [HI.out.1.last, htl, Int.natCast_add] at SC
      have HPQ := hide hpq
      clear hdi hpq
      go_wp2_with fail
      go_at_call 7
      refine (PK.out _).mono ?_
      rintro e w2 ⟨rfl, hw2⟩
      rw [hw2]
      clear hw2 w2
      go_wp2_with fail
      go_at_call 14
      refine SC.out.mono ?_
      rintro e w3 ⟨rfl, h3, k3⟩
      have H3 := hide (h3.mono (T := fun k => w.heap.size ≤ k) fun k e => e.elim (fun x => x) fun e => Nat.le_trans HI.out.2.2.size e)
      have K3 := hide (HI.out.2.2.trans k3 fun k e => .inr e)
      have FA := hide (HI.out.1.add (now + pq))
      clear h3 k3 SC
      go_wp2_with fail
      refine ⟨⟨i + 1, _, by congr 1, by omega, ?_, H3.out, K3.out⟩, by simp [intOf]; omega⟩
      have := FA.out
      rw [htl] at this
      have e : (z.take (i + 1)).map (dueOf now) = (z.take i).map (dueOf now) ++ [now + pq] := by
        rw [← HPQ.out, HXX.out]
        exact take_map_succ _ _ _ (by omega)
      rw [e]
      exact this
    · obtain rfl : i = n := by omega
      go_wp2_with fail
      go_ret
      refine ⟨P, s, rfl, ?_, HI.out.2.1, HI.out.2.2⟩
      have := HI.out.1
      rw [List.take_of_length_le (by omega)] at this
      exact this

end Wh
end Go.Proofs.Ytbjapgajbljhfaa
