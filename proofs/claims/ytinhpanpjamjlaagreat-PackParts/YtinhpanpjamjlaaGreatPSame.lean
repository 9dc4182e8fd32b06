/- begins, ints, texts, lists of the laws. -/
import Derived.Test.YtinhpanpjamjlaaGreatPKnown
import Derived.Deep.QuietTactic
import Derived.BigQuiet
namespace Go.Proofs.YtinhpanpjamjlaaGreat
open Go.RowKit

theorem bytes_eq {a b : ByteArray} (h : a.toList = b.toList) : a = b := by
  rw [ByteArray.toList_eq, ByteArray.toList_eq] at h
  exact ByteArray.ext (Array.toList_inj.1 h)

set_option maxRecDepth 10000 in
theorem texts_same (D : Nat → Prop) (a b : Option Addr) (n c d : Nat) (xs : List ByteArray) (w : World) (h1 : Els D w a n (xs.map Value.string)) (h2 : Els D w b n (xs.map Value.string)) :
    Calls Tryz.prog 76 #[.slice a n c, .slice b n d] w fun en w' => en = .returned (.bool true) ∧ ∃ m, w' = w.drewN m := by
  have HA := hide h1
  have HB := hide h2
  have hn := h1.2.1
  clear h1 h2
  go_enter Tryz.func76, Tryz.ntmps76
  go_wp2
  go_loopw [5] (fun i wx => ∃ k m : Nat, k ≤ n ∧ i = .int .i64 (k : Nat) ∧ wx = w.drewN m) (fun i _ => n - (intOf i).toNat)
  case atStart => exact ⟨0, 0, Nat.zero_le _, rfl, rfl⟩
  case round =>
    obtain ⟨k, m, hk, rfl, rfl⟩ := hrel
    by_cases hlt : k < n
    · obtain ⟨x, hx⟩ : ∃ x, xs[k]? = some x := ⟨_, List.getElem?_eq_getElem (by have h := HA.out.1; rw [List.length_map] at h; omega)⟩
      obtain ⟨b1, o1, rfl, e1⟩ : ∃ b1 o1, a = some ⟨b1, o1, none⟩ ∧ w.cell? ⟨b1, o1 + k, none⟩ = some (Value.string x) := by
        rcases HA.out.2.2 with h0 | ⟨b1, o1, rfl, _, hr⟩
        · omega
        · exact ⟨b1, o1, rfl, hr k _ (by rw [List.getElem?_map, hx]; rfl)⟩
      obtain ⟨b2, o2, rfl, e2⟩ : ∃ b2 o2, b = some ⟨b2, o2, none⟩ ∧ w.cell? ⟨b2, o2 + k, none⟩ = some (Value.string x) := by
        rcases HB.out.2.2 with h0 | ⟨b2, o2, rfl, _, hr⟩
        · omega
        · exact ⟨b2, o2, rfl, hr k _ (by rw [List.getElem?_map, hx]; rfl)⟩
      clear hx
      go_wp2
      go_region
      all_goals go_wp2
      all_goals exact ⟨⟨k + 1, m + 1, by omega, by go_num, rfl⟩, by simp [intOf]; omega⟩
    · go_wp2
      go_ret
      exact ⟨rfl, m, rfl⟩

set_option maxRecDepth 10000 in
theorem ints_same (D : Nat → Prop) (a b : Option Addr) (n c d : Nat) (xs : List Int) (w : World) (h1 : Els D w a n (xs.map (Value.int .i64))) (h2 : Els D w b n (xs.map (Value.int .i64))) :
    Calls Tryz.prog 75 #[.slice a n c, .slice b n d] w fun en w' => en = .returned (.bool true) ∧ ∃ m, w' = w.drewN m := by
  have HA := hide h1
  have HB := hide h2
  have hn := h1.2.1
  clear h1 h2
  go_enter Tryz.func75, Tryz.ntmps75
  go_wp2
  go_loopw [5] (fun i wx => ∃ k m : Nat, k ≤ n ∧ i = .int .i64 (k : Nat) ∧ wx = w.drewN m) (fun i _ => n - (intOf i).toNat)
  case atStart => exact ⟨0, 0, Nat.zero_le _, rfl, rfl⟩
  case round =>
    obtain ⟨k, m, hk, rfl, rfl⟩ := hrel
    by_cases hlt : k < n
    · obtain ⟨x, hx⟩ : ∃ x, xs[k]? = some x := ⟨_, List.getElem?_eq_getElem (by have h := HA.out.1; rw [List.length_map] at h; omega)⟩
      obtain ⟨b1, o1, rfl, e1⟩ : ∃ b1 o1, a = some ⟨b1, o1, none⟩ ∧ w.cell? ⟨b1, o1 + k, none⟩ = some ((Value.int .i64) x) := by
        rcases HA.out.2.2 with h0 | ⟨b1, o1, rfl, _, hr⟩
        · omega
        · exact ⟨b1, o1, rfl, hr k _ (by rw [List.getElem?_map, hx]; rfl)⟩
      obtain ⟨b2, o2, rfl, e2⟩ : ∃ b2 o2, b = some ⟨b2, o2, none⟩ ∧ w.cell? ⟨b2, o2 + k, none⟩ = some ((Value.int .i64) x) := by
        rcases HB.out.2.2 with h0 | ⟨b2, o2, rfl, _, hr⟩
        · omega
        · exact ⟨b2, o2, rfl, hr k _ (by rw [List.getElem?_map, hx]; rfl)⟩
      clear hx
      go_wp2
      go_region
      all_goals go_wp2
      all_goals exact ⟨⟨k + 1, m + 1, by omega, by go_num, rfl⟩, by simp [intOf]; omega⟩
    · go_wp2
      go_ret
      exact ⟨rfl, m, rfl⟩


/-- a slice of slices of numbers -/
def RowsAt (D : Nat → Prop) (w : World) (a : Option Addr) (n : Nat) (zs : List (List Int)) : Prop :=
  ∃ vs, Els D w a n vs ∧ zs.length = n ∧ ∀ (i : Nat) v z, vs[i]? = some v → zs[i]? = some z → ∃ a' c', v = .slice a' z.length c' ∧ Els D w a' z.length (z.map (Value.int .i64))

theorem drewN_add (w : World) (a b : Nat) : (w.drewN a).drewN b = w.drewN (a + b) := by unfold World.drewN; simp only [Nat.add_assoc]

theorem Els.drewN {D : Nat → Prop} {w : World} {a : Option Addr} {n : Nat} {vs : List Value} (h : Els D w a n vs) (m : Nat) : Els D (w.drewN m) a n vs := h

set_option maxRecDepth 10000 in
theorem lists_same (D : Nat → Prop) (a b : Option Addr) (n c d : Nat) (zs : List (List Int)) (w : World) (h1 : RowsAt D w a n zs) (h2 : RowsAt D w b n zs) :
    Calls Tryz.prog 77 #[.slice a n c, .slice b n d] w fun en w' => en = .returned (.bool true) ∧ ∃ m, w' = w.drewN m := by
  obtain ⟨va, ha, hl, hva⟩ := h1
  obtain ⟨vb, hb, _, hvb⟩ := h2
  have HA := hide ha
  have HB := hide hb
  have HVA := hide hva
  have HVB := hide hvb
  have HL := hide hl
  have hn := ha.2.1
  clear ha hb hva hvb hl
  go_enter Tryz.func77, Tryz.ntmps77
  go_wp2
  go_loopw [5] (fun i wx => ∃ k m : Nat, k ≤ n ∧ i = .int .i64 (k : Nat) ∧ wx = w.drewN m) (fun i _ => n - (intOf i).toNat)
  case atStart => exact ⟨0, 0, Nat.zero_le _, rfl, rfl⟩
  case round =>
    obtain ⟨k, m, hk, rfl, rfl⟩ := hrel
    by_cases hlt : k < n
    · obtain ⟨x, hx⟩ : ∃ x, va[k]? = some x := ⟨_, List.getElem?_eq_getElem (by have h := HA.out.1; omega)⟩
      obtain ⟨y, hy⟩ : ∃ y, vb[k]? = some y := ⟨_, List.getElem?_eq_getElem (by have h := HB.out.1; omega)⟩
      obtain ⟨z, hz⟩ : ∃ z, zs[k]? = some z := ⟨_, List.getElem?_eq_getElem (by have h := HL.out; omega)⟩
      obtain ⟨b1, o1, rfl, e1⟩ : ∃ b1 o1, a = some ⟨b1, o1, none⟩ ∧ w.cell? ⟨b1, o1 + k, none⟩ = some x := by
        rcases HA.out.2.2 with h0 | ⟨b1, o1, rfl, _, hr⟩
        · omega
        · exact ⟨b1, o1, rfl, hr k _ hx⟩
      obtain ⟨b2, o2, rfl, e2⟩ : ∃ b2 o2, b = some ⟨b2, o2, none⟩ ∧ w.cell? ⟨b2, o2 + k, none⟩ = some y := by
        rcases HB.out.2.2 with h0 | ⟨b2, o2, rfl, _, hr⟩
        · omega
        · exact ⟨b2, o2, rfl, hr k _ hy⟩
      obtain ⟨ax, cx, rfl, hex⟩ := HVA.out k x z hx hz
      obtain ⟨ay, cy, rfl, hey⟩ := HVB.out k y z hy hz
      have HIN : Hid (∀ j, Calls Tryz.prog 75 #[.slice ax z.length cx, .slice ay z.length cy] (w.drewN j) fun en w' => en = .returned (.bool true) ∧ ∃ m, w' = (w.drewN j).drewN m) := fun j => ints_same D ax ay z.length cx cy z (w.drewN j) (hex.drewN j) (hey.drewN j)
      clear hx hy hz hex hey
      generalize z.length = zl at *
      go_wp2
      go_quiet ((go_at_call 75; exact (HIN.out _).mono (fun _ _ h => ⟨h.1, h.2.elim fun j e => ⟨_, e.trans ((drewN_add _ _ _).trans (congrArg w.drewN (Nat.add_assoc _ _ _)))⟩⟩)))
      go_wp2
      exact ⟨⟨k + 1, m + nq, by omega, by go_num, rfl⟩, by simp [intOf]; omega⟩
    · go_wp2
      go_ret
      exact ⟨rfl, m, rfl⟩

end Go.Proofs.YtinhpanpjamjlaaGreat
