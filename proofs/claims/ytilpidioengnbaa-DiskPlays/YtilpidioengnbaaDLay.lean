/- Package disk: lay, cut. -/
import Derived.Test.YtilpidioengnbaaDRow
import Derived.Deep.RegionHeld3
namespace Go.Proofs.Ytilpidioengnbaa
open Go.RowKit Go.Lib

theorem Rd.src {w : World} {a : Option Addr} {n : Nat} {l : List Nat} (h : Rd w a n l) : 0 < (B8 l).length → ∃ ad, a = some ad ∧ ∀ j v, (B8 l)[j]? = some v → w.cell? (ad.add j) = some v := by
  intro hp
  rw [B8_length] at hp
  rcases h.2.2.2 with h0 | ⟨b, off, rfl, _⟩
  · have := h.1; omega
  · exact ⟨_, rfl, h.cells⟩

/-- copy over a part of a row -/
theorem copy_run (w : World) (g off n dCap sCap : Nat) (cur : List Value) (hg : w.heap[g]? = some (.cells cur.toArray 5 (0, 0))) (a : Option Addr) (m : List Nat) (hm : Rd w a n m) (hfit : off + n ≤ cur.length) (hn : n ≠ 0) :
    ∃ w', (∀ ty, (Builtin.copy_ #[33, 33] ty #[.slice (some ⟨g, off, none⟩) n dCap, .slice a n sCap]).run Try.prog w = .ok (goInt n) w') ∧ w'.heap[g]? = some (.cells (splice cur off (B8 m)).toArray 5 (0, 0)) ∧ Keep (fun k => k = g) w w' := by
  have hl : (B8 m).length = n := by rw [B8_length]; exact hm.1.symm
  obtain ⟨ad, rfl, hsrc⟩ := hm.src (by omega)
  refine ⟨w.setRow g (cur.take off ++ (B8 m ++ cur.drop (off + (B8 m).length))).toArray, fun ty => ?_, ?_, ⟨rfl, rfl, rfl, by simp [World.setRow], fun k _ hk => setRow_other w g k _ hk⟩⟩
  · have := run_copy_row (P := Try.prog) w 33 33 ty 5 g off n dCap ad n sCap cur.toArray 5 (B8 m) Try.underlying33 size_u8 hg (by show _ = min _ _; rw [hl]; omega) hsrc (by simpa [hl] using hfit) (B8_one m)
    rw [hl] at this ⊢
    simpa [List.append_assoc] using this
  · exact setRow_heap w g _ _ 5 _ hg

/-- what lay leaves -/
def Laid (w : World) (v : Value) (l : List Nat) (e : Ending) (w' : World) : Prop :=
  ∃ v', e = .returned v' ∧ Row w' v' l ∧ Keep (fun k => v.ownBlock = some k) w w' ∧ NewBlk w v v'

set_option maxHeartbeats 1000000 in
set_option maxRecDepth 100000 in
theorem lay_none (a : Option Addr) (c : Nat) (w : World) : Calls Try.prog 29 #[.slice none 0 0, .slice a 0 c] w fun e w' => e = .returned (.slice none 0 0) ∧ w' = w := by
  have hg := grow_room none 0 0 0 w (Nat.le_refl _) (by decide) (by decide) (Nat.le_refl _)
  have hs := slice_to_nil
  have hcp : ∀ ty, (Builtin.copy_ #[33, 33] ty #[.slice none 0 0, .slice a 0 c]).run Try.prog w = .ok (goInt 0) w := fun ty => run_copy_none (P := Try.prog) w 33 33 ty 5 none a 0 0 0 c Try.underlying33 size_u8 rfl
  have hw1 : wrap64 (((0 : Nat) : Int) + ((0 : Nat) : Int)) = ((0 : Nat) : Int) := by unfold wrap64; omega
  go_enter Try.func29, Try.ntmps29
  go_wp2_with (go_at_call 51; refine hg.mono ?_; rintro e w1 ⟨rfl, rfl⟩)
  go_ret
  exact ⟨rfl, rfl⟩

theorem splice_laid {cur : List Value} {l m : List Nat} (h : cur.take l.length = B8 l) : (splice cur l.length (B8 m)).take (l ++ m).length = B8 (l ++ m) := by
  unfold splice
  rw [h, B8_append, List.length_append, ← List.append_assoc, List.take_append_of_le_length (by rw [List.length_append, B8_length, B8_length]; omega)]
  exact List.take_of_length_le (by rw [List.length_append, B8_length, B8_length]; omega)

/-- grown, and what follows in lay -/
def Behind (w : World) (v : Value) (l m : List Nat) (a : Option Addr) (n t c : Nat) (e : Ending) (w1 : World) : Prop :=
  ∃ (g cap : Nat) (a' : Option Addr) (w2 : World), e = .returned (.slice (some ⟨g, 0, none⟩) l.length cap) ∧
    (∀ wx, (Instr.slice 33 (.slice (some ⟨g, 0, none⟩) l.length cap) none (some (.int .i64 (t : Int))) none).run Try.prog wx = .ok (.slice (some ⟨g, 0, none⟩) t cap) wx) ∧
    (∀ wx, (Instr.slice 33 (.slice (some ⟨g, 0, none⟩) t cap) (some (.int .i64 (l.length : Int))) none none).run Try.prog wx = .ok (.slice a' n (cap - l.length)) wx) ∧
    (∀ ty, (Builtin.copy_ #[33, 33] ty #[.slice a' n (cap - l.length), .slice a n c]).run Try.prog w1 = .ok (goInt n) w2) ∧
    Hid (Laid w v (l ++ m) (.returned (.slice (some ⟨g, 0, none⟩) t cap)) w2)

theorem behind_grow {w w1 : World} {v : Value} {l m : List Nat} {a : Option Addr} {n c : Nat} {e : Ending} (hr : Row w v l) (hm : Rd w a n m) (hA : ¬ (v = .slice none 0 0 ∧ n = 0)) {t : Nat} (ht : t = l.length + n) (h : GrownTo w v l n e w1) : Behind w v l m a n t c e w1 := by
  subst ht
  rcases h with ⟨hv, hl, hn, rfl, rfl⟩ | ⟨g, cap, cur, rfl, hb, hcap, hmax, hlen, htake, hk, hloc⟩
  · exact absurd ⟨hv, hn⟩ hA
  obtain ⟨a', hs2, ha'⟩ := slice_from g l.length n cap hcap
  have hm1 : Rd w1 a n m := hm.stay (S := fun _ => False) hk fun _ _ _ h => h
  have hmn := hm.1
  have hcp : ∃ w2, (∀ ty, (Builtin.copy_ #[33, 33] ty #[.slice a' n (cap - l.length), .slice a n c]).run Try.prog w1 = .ok (goInt n) w2) ∧ w2.heap[g]? = some (.cells (splice cur l.length (B8 m)).toArray 5 (0, 0)) ∧ Keep (fun k => k = g) w1 w2 := by
    by_cases hn : n = 0
    · have hm0 : B8 m = [] := List.eq_nil_of_length_eq_zero (by rw [B8_length]; omega)
      refine ⟨w1, fun ty => ?_, by rw [hm0]; simpa [splice] using hb, Keep.refl _ _⟩
      rw [run_copy_none (P := Try.prog) w1 33 33 ty 5 a' a n (cap - l.length) n c Try.underlying33 size_u8 (by rw [hn]; rfl), hn]
      rfl
    · rw [ha' (by omega)]
      exact copy_run w1 g l.length n (cap - l.length) c cur hb a m hm1 (by omega) hn
  obtain ⟨w2, hc, hd, he⟩ := hcp
  refine ⟨g, cap, a', w2, rfl, slice_to g l.length (l.length + n) cap hcap, hs2, hc, ?_⟩
  have hll : (l ++ m).length = l.length + n := by rw [List.length_append]; omega
  refine ⟨_, rfl, ?_, ?_, ?_⟩
  · have := row_mk (l := l ++ m) hd (cap := cap) (by rw [hll]; exact hcap) hmax (by rw [length_splice _ _ _ (by rw [B8_length]; omega)]; exact hlen) (splice_laid htake) (fun d hd => (List.mem_append.1 hd).elim (hr.2 d) (hm.2.2.1 d))
    rw [hll] at this
    exact this
  · refine Keep.trans (S := fun k => v.ownBlock = some k) (T := fun k => k = g) (hk.mono fun _ h => h.elim) he fun i hi => ?_
    subst hi
    exact hloc
  · rcases hloc with h | h
    · exact .inl h.symm
    · exact .inr fun k hk => by injection hk with hk; subst hk; exact h

set_option maxHeartbeats 1000000 in
set_option maxRecDepth 100000 in
theorem lay_any (v : Value) (l m : List Nat) (a : Option Addr) (n c : Nat) (w : World) (hr : Row w v l) (hm : Rd w a n m) (hs : l.length + n ≤ 140737488355328) :
    Calls Try.prog 29 #[v, .slice a n c] w (Laid w v (l ++ m)) := by
  by_cases hA : v = .slice none 0 0 ∧ n = 0
  · obtain ⟨rfl, rfl⟩ := hA
    obtain rfl : m = [] := List.eq_nil_of_length_eq_zero hm.1.symm
    rcases hr.parts with ⟨_, rfl⟩ | ⟨_, _, _, e, _⟩
    · exact (lay_none a c w).mono fun e w' ⟨h1, h2⟩ => ⟨_, h1, by rw [h2]; exact row_nil w, by rw [h2]; exact Keep.refl _ _, .inl rfl⟩
    · cases e
  obtain ⟨t, ht⟩ : ∃ t, t = l.length + n := ⟨_, rfl⟩
  have HG := hide ((grow_any v l n w hr hs).mono fun e w1 h => behind_grow (c := c) hr hm hA ht h)
  obtain ⟨av, cv, hv⟩ := ownsRow_shape hr.1
  have hw1 : wrap64 ((l.length : Int) + (n : Int)) = (t : Int) := by unfold wrap64; omega
  subst hv
  clear hr hm hA hs ht
  go_enter Try.func29, Try.ntmps29
  go_wp2_with (go_at_call 51; refine HG.out.mono ?_; rintro e w1 ⟨g, cap, a', w2, rfl, hs1, hs2, hcp, HF⟩)
  go_ret
  exact HF.out

end Go.Proofs.Ytilpidioengnbaa
