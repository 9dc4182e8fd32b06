/- begins, ints, texts, lists of the laws. -/
import Derived.Test.YtnoniccbmojmlaaPKnown
import Derived.Deep.QuietTactic
import Derived.BigQuiet
namespace Go.Proofs.Ytnoniccbmojmlaa
open Go.RowKit

theorem bytes_eq {a b : ByteArray} (h : a.toList = b.toList) : a = b := by
  rw [ByteArray.toList_eq, ByteArray.toList_eq] at h
  exact ByteArray.ext (Array.toList_inj.1 h)

set_option maxRecDepth 10000 in
theorem begins_any (a b : Option Addr) (n m c d : Nat) (A B : List Nat) (w : World) (h1 : Rd w b m B) (h2 : Rd w a n A) (hm : m ≤ d) :
    Calls Try.prog 29 #[.slice b m d, .slice a n c] w fun en w' => ∃ β, en = .returned (.bool β) ∧ (β = true → ∃ t, B = A ++ t) ∧ Below w.heap.size w w' := by
  have HA := hide h2
  have HB := hide h1
  have hn9 := h2.2.1
  have hm9 := h1.2.1
  clear h1 h2
  by_cases hnm : n ≤ m
  · have hsl := slice_hi_run' b m d n (by omega)
    have hk : ∀ wx, wx = w.drew → (convert 22 9 (.slice b n d)).run Try.prog wx = .ok (.string (str (B.take n))) wx ∧ (convert 22 9 (.slice a n c)).run Try.prog wx = .ok (.string (str A)) wx := fun wx e => by
      subst e
      exact ⟨conv_rd ((HB.out.front n hnm).keep (Below.refl w.heap.size w).drew) d, conv_rd (HA.out.keep (Below.refl w.heap.size w).drew) c⟩
    obtain ⟨k1, k2⟩ := hk w.drew rfl
    clear hk
    by_cases he : B.take n = A
    · have HE := hide he
      rw [he] at k1
      clear he
      generalize hS : str A = S at *
      clear hS
      go_enter Try.func29, Try.ntmps29
      go_wp2
      go_region
      all_goals go_wp2
      all_goals go_ret
      all_goals exact ⟨true, by simp, fun _ => ⟨B.drop n, by rw [← HE.out, List.take_append_drop]⟩, (Below.refl _ _).drew⟩
    · have hne : str (B.take n) ≠ str A := fun e => he (by
        have h3 := congrArg sb e
        rwa [sb_str _ (fun d hd => HB.out.2.2.1 d (List.mem_of_mem_take hd)), sb_str _ HA.out.2.2.1] at h3)
      have HNE := hide hne
      clear he hne
      generalize hS : str A = S at *
      generalize hS2 : str (B.take n) = S2 at *
      clear hS hS2
      go_enter Try.func29, Try.ntmps29
      go_wp2
      go_region
      all_goals go_wp2
      all_goals go_ret
      all_goals exact ⟨_, rfl, fun h => absurd (bytes_eq (by simpa using h)) HNE.out, (Below.refl _ _).drew⟩
  · go_enter Try.func29, Try.ntmps29
    go_wp2
    go_region
    all_goals go_wp2
    all_goals go_ret
    all_goals exact ⟨false, rfl, fun h => (by cases h), (Below.refl _ _).drew⟩

set_option maxRecDepth 10000 in
theorem texts_same (D : Nat → Prop) (a b : Option Addr) (n c d : Nat) (xs : List ByteArray) (w : World) (h1 : Els D w a n (xs.map Value.string)) (h2 : Els D w b n (xs.map Value.string)) :
    Calls Try.prog 31 #[.slice a n c, .slice b n d] w fun en w' => en = .returned (.bool true) ∧ ∃ m, w' = w.drewN m := by
  have HA := hide h1
  have HB := hide h2
  have hn := h1.2.1
  clear h1 h2
  go_enter Try.func31, Try.ntmps31
  go_wp2
  go_loopw [5] (fun i wx => ∃ k m : Nat, k ≤ n ∧ i = .int .i64 (k : Nat) ∧ wx = w.drewN m) (fun i _ => n - (intOf i).toNat)
  case atStart => exact ⟨0, 0, Nat.zero_le _, rfl, rfl⟩
  case round =>
    obtain ⟨k, m, hk, rfl, rfl⟩ := hrel
    by_cases hlt : k < n
    · obtain ⟨x, hx⟩ : ∃ x, xs[k]? = some x := ⟨_, List.getElem?_eq_getElem (by have h := HA.out.1; rw [List.length_map] at h; omega)⟩
      obtain ⟨b1, o1, rfl, e1⟩ : ∃ b1 o1, a = some ⟨b1, o1, none⟩ ∧ w.cell? ⟨b1, o1 + k, none⟩ = some (Value.string x) := by
        rcases HA.out.2.2 with h0 | ⟨b1, o1, rfl, _, hr⟩
        · omega
        · exact ⟨b1, o1, rfl, hr k _ (by rw [List.getElem?_map, hx]; rfl)⟩
      obtain ⟨b2, o2, rfl, e2⟩ : ∃ b2 o2, b = some ⟨b2, o2, none⟩ ∧ w.cell? ⟨b2, o2 + k, none⟩ = some (Value.string x) := by
        rcases HB.out.2.2 with h0 | ⟨b2, o2, rfl, _, hr⟩
        · omega
        · exact ⟨b2, o2, rfl, hr k _ (by rw [List.getElem?_map, hx]; rfl)⟩
      clear hx
      go_wp2
      go_region
      all_goals go_wp2
      all_goals exact ⟨⟨k + 1, m + 1, by omega, by go_num, rfl⟩, by simp [intOf]; omega⟩
    · go_wp2
      go_ret
      exact ⟨rfl, m, rfl⟩

set_option maxRecDepth 10000 in
theorem ints_same (D : Nat → Prop) (a b : Option Addr) (n c d : Nat) (xs : List Int) (w : World) (h1 : Els D w a n (xs.map (Value.int .i64))) (h2 : Els D w b n (xs.map (Value.int .i64))) :
    Calls Try.prog 80 #[.slice a n c, .slice b n d] w fun en w' => en = .returned (.bool true) ∧ ∃ m, w' = w.drewN m := by
  have HA := hide h1
  have HB := hide h2
  have hn := h1.2.1
  clear h1 h2
  go_enter Try.func80, Try.ntmps80
  go_wp2
  go_loopw [5] (fun i wx => ∃ k m : Nat, k ≤ n ∧ i = .int .i64 (k : Nat) ∧ wx = w.drewN m) (fun i _ => n - (intOf i).toNat)
  case atStart => exact ⟨0, 0, Nat.zero_le _, rfl, rfl⟩
  case round =>
    obtain ⟨k, m, hk, rfl, rfl⟩ := hrel
    by_cases hlt : k < n
    · obtain ⟨x, hx⟩ : ∃ x, xs[k]? = some x := ⟨_, List.getElem?_eq_getElem (by have h := HA.out.1; rw [List.length_map] at h; omega)⟩
      obtain ⟨b1, o1, rfl, e1⟩ : ∃ b1 o1, a = some ⟨b1, o1, none⟩ ∧ w.cell? ⟨b1, o1 + k, none⟩ = some ((Value.int .i64) x) := by
        rcases HA.out.2.2 with h0 | ⟨b1, o1, rfl, _, hr⟩
        · omega
        · exact ⟨b1, o1, rfl, hr k _ (by rw [List.getElem?_map, hx]; rfl)⟩
      obtain ⟨b2, o2, rfl, e2⟩ : ∃ b2 o2, b = some ⟨b2, o2, none⟩ ∧ w.cell? ⟨b2, o2 + k, none⟩ = some ((Value.int .i64) x) := by
        rcases HB.out.2.2 with h0 | ⟨b2, o2, rfl, _, hr⟩
        · omega
        · exact ⟨b2, o2, rfl, hr k _ (by rw [List.getElem?_map, hx]; rfl)⟩
      clear hx
      go_wp2
      go_region
      all_goals go_wp2
      all_goals exact ⟨⟨k + 1, m + 1, by omega, by go_num, rfl⟩, by simp [intOf]; omega⟩
    · go_wp2
      go_ret
      exact ⟨rfl, m, rfl⟩


/-- a slice of slices of numbers -/
def RowsAt (D : Nat → Prop) (w : World) (a : Option Addr) (n : Nat) (zs : List (List Int)) : Prop :=
  ∃ vs, Els D w a n vs ∧ zs.length = n ∧ ∀ (i : Nat) v z, vs[i]? = some v → zs[i]? = some z → ∃ a' c', v = .slice a' z.length c' ∧ Els D w a' z.length (z.map (Value.int .i64))

theorem drewN_add (w : World) (a b : Nat) : (w.drewN a).drewN b = w.drewN (a + b) := by unfold World.drewN; simp only [Nat.add_assoc]

theorem Els.drewN {D : Nat → Prop} {w : World} {a : Option Addr} {n : Nat} {vs : List Value} (h : Els D w a n vs) (m : Nat) : Els D (w.drewN m) a n vs := h

set_option maxRecDepth 10000 in
theorem lists_same (D : Nat → Prop) (a b : Option Addr) (n c d : Nat) (zs : List (List Int)) (w : World) (h1 : RowsAt D w a n zs) (h2 : RowsAt D w b n zs) :
    Calls Try.prog 35 #[.slice a n c, .slice b n d] w fun en w' => en = .returned (.bool true) ∧ ∃ m, w' = w.drewN m := by
  obtain ⟨va, ha, hl, hva⟩ := h1
  obtain ⟨vb, hb, _, hvb⟩ := h2
  have HA := hide ha
  have HB := hide hb
  have HVA := hide hva
  have HVB := hide hvb
  have HL := hide hl
  have hn := ha.2.1
  clear ha hb hva hvb hl
  go_enter Try.func35, Try.ntmps35
  go_wp2
  go_loopw [5] (fun i wx => ∃ k m : Nat, k ≤ n ∧ i = .int .i64 (k : Nat) ∧ wx = w.drewN m) (fun i _ => n - (intOf i).toNat)
  case atStart => exact ⟨0, 0, Nat.zero_le _, rfl, rfl⟩
  case round =>
    obtain ⟨k, m, hk, rfl, rfl⟩ := hrel
    by_cases hlt : k < n
    · obtain ⟨x, hx⟩ : ∃ x, va[k]? = some x := ⟨_, List.getElem?_eq_getElem (by have h := HA.out.1; omega)⟩
      obtain ⟨y, hy⟩ : ∃ y, vb[k]? = some y := ⟨_, List.getElem?_eq_getElem (by have h := HB.out.1; omega)⟩
      obtain ⟨z, hz⟩ : ∃ z, zs[k]? = some z := ⟨_, List.getElem?_eq_getElem (by have h := HL.out; omega)⟩
      obtain ⟨b1, o1, rfl, e1⟩ : ∃ b1 o1, a = some ⟨b1, o1, none⟩ ∧ w.cell? ⟨b1, o1 + k, none⟩ = some x := by
        rcases HA.out.2.2 with h0 | ⟨b1, o1, rfl, _, hr⟩
        · omega
        · exact ⟨b1, o1, rfl, hr k _ hx⟩
      obtain ⟨b2, o2, rfl, e2⟩ : ∃ b2 o2, b = some ⟨b2, o2, none⟩ ∧ w.cell? ⟨b2, o2 + k, none⟩ = some y := by
        rcases HB.out.2.2 with h0 | ⟨b2, o2, rfl, _, hr⟩
        · omega
        · exact ⟨b2, o2, rfl, hr k _ hy⟩
      obtain ⟨ax, cx, rfl, hex⟩ := HVA.out k x z hx hz
      obtain ⟨ay, cy, rfl, hey⟩ := HVB.out k y z hy hz
      have HIN : Hid (∀ j, Calls Try.prog 80 #[.slice ax z.length cx, .slice ay z.length cy] (w.drewN j) fun en w' => en = .returned (.bool true) ∧ ∃ m, w' = (w.drewN j).drewN m) := fun j => ints_same D ax ay z.length cx cy z (w.drewN j) (hex.drewN j) (hey.drewN j)
      clear hx hy hz hex hey
      generalize z.length = zl at *
      go_wp2
      go_quiet ((go_at_call 80; exact (HIN.out _).mono (fun _ _ h => ⟨h.1, h.2.elim fun j e => ⟨_, e.trans ((drewN_add _ _ _).trans (congrArg w.drewN (Nat.add_assoc _ _ _)))⟩⟩)))
      go_wp2
      exact ⟨⟨k + 1, m + nq, by omega, by go_num, rfl⟩, by simp [intOf]; omega⟩
    · go_wp2
      go_ret
      exact ⟨rfl, m, rfl⟩

end Go.Proofs.Ytnoniccbmojmlaa
