/- Package cron: items laid into a set. -/
import Derived.Test.YtbgioclbjbmicaaDoorXItem
namespace Go.Proofs.YtbgioclbjbmicaaDoor
open Go.RowKit

/-- All blocks but one stay. -/
structure KeepX (g : Nat) (w w' : World) : Prop where
  os : w'.os = w.os
  tape : w'.tape = w.tape
  output : w'.output = w.output
  size : w.heap.size ≤ w'.heap.size
  block : ∀ k, k < w.heap.size → k ≠ g → w'.heap[k]? = w.heap[k]?
theorem KeepX.refl (g : Nat) (w : World) : KeepX g w w := ⟨rfl, rfl, rfl, Nat.le_refl _, fun _ _ _ => rfl⟩
theorem KeepX.trans {g : Nat} {a b c : World} (h : KeepX g a b) (k : KeepX g b c) : KeepX g a c :=
  ⟨k.os.trans h.os, k.tape.trans h.tape, k.output.trans h.output, Nat.le_trans h.size k.size, fun i hi hn => (k.block i (Nat.lt_of_lt_of_le hi h.size) hn).trans (h.block i hi hn)⟩
theorem KeepX.ofBelow {g : Nat} {a b : World} (h : Below a.heap.size a b) : KeepX g a b := ⟨h.os, h.tape, h.output, h.size, fun k hk _ => h.block k hk⟩
theorem KeepX.set {g : Nat} (w : World) (j : Nat) (u : Value) : KeepX g w (w.setCell ⟨g, j, none⟩ u) := ⟨rfl, rfl, rfl, by simp [World.setCell], fun _ _ hn => Below.heap_setCell _ _ _ _ fun e => hn e⟩
theorem KeepX.below {g B : Nat} {a b : World} (h : KeepX g a b) (hB : B ≤ a.heap.size) (hg : B ≤ g) : Below B a b := ⟨h.os, h.tape, h.output, h.size, fun k hk => h.block k (by omega) (by omega)⟩
theorem KeepX.cell {g : Nat} {w w' : World} (h : KeepX g w w') {p : Addr} {v : Value} (hc : w.cell? p = some v) (hp : p.block ≠ g) : w'.cell? p = some v :=
  (World.cell?_of_block (w := w) (h.block p.block (World.block_lt_of_cell? _ _ hc) hp)).trans hc
theorem Env.keepX {g : Nat} {w w' : World} (h : Env w) (k : KeepX g w w') (h0 : 0 < g) (h1 : 1 < g) : Env w' :=
  ⟨⟨fun i hi => k.cell (h.tab.out i hi) (Nat.ne_of_lt h1), Nat.lt_of_lt_of_le h.tab.size k.size⟩, fun i hi => k.cell (h.bnd i hi) (Nat.ne_of_lt h0), Nat.lt_of_lt_of_le h.bsz k.size⟩

/-- An expression in memory that may be written. -/
structure ExprW (w : World) (g : Nat) (S : X.Sets) : Prop where
  ex : ExprAt w g S
  fr : ∀ j, w.frozen? ⟨g, j, none⟩ = false
theorem ExprW.keep {w w' : World} {g : Nat} {S : X.Sets} (h : ExprW w g S) (b : Below w.heap.size w w') : ExprW w' g S :=
  ⟨h.ex.keep b, fun j => by rw [b.frozen (p := ⟨g, j, none⟩) h.ex.lt]; exact h.fr j⟩
theorem ExprW.set {w : World} {g : Nat} {S T : X.Sets} (h : ExprW w g S) (k : Nat) (hk : k < 300) (hT : ∀ i, i < 300 → T i = if i = k then true else S i) : ExprW (w.setCell ⟨g, k, none⟩ (.bool true)) g T := by
  refine ⟨⟨fun i hi => ?_⟩, fun j => by simp [h.fr]⟩
  rw [hT i hi]
  by_cases e : i = k
  · subst e; rw [if_pos rfl]; exact World.cell?_setCell_same _ _ _ (h.ex.c i hi)
  · rw [if_neg e, World.cell?_setCell_other _ _ _ _ (by simp <;> omega)]; exact h.ex.c i hi
theorem ExprW.congr {w : World} {g : Nat} {S T : X.Sets} (h : ExprW w g S) (hT : ∀ i, i < 300 → T i = S i) : ExprW w g T := ⟨⟨fun i hi => by rw [hT i hi]; exact h.ex.c i hi⟩, h.fr⟩

namespace X
/-- The values from a on by k, below v, laid into a set. -/
def upTo (S : Sets) (o a k v : Nat) : Sets := fun i => S i || (decide (o + a ≤ i) && decide (i < o + v) && decide ((i - (o + a)) % k = 0))
theorem upTo_start (S : Sets) (o a k : Nat) : upTo S o a k a = S := by
  funext i
  unfold upTo
  cases S i
  · by_cases h : o + a ≤ i
    · simp [show ¬ i < o + a by omega]
    · simp [h]
  · rfl
theorem upTo_step (S : Sets) (o a k v : Nat) (hk : 1 ≤ k) (hv : a ≤ v) (hm : (v - a) % k = 0) (i : Nat) : upTo S o a k (v + k) i = if i = o + v then true else upTo S o a k v i := by
  unfold upTo
  by_cases e : i = o + v
  · subst e
    rw [if_pos rfl]
    have : o + v - (o + a) = v - a := by omega
    rw [this, hm]
    simp; right; omega
  · rw [if_neg e]
    by_cases h1 : i < o + v
    · rw [show decide (i < o + (v + k)) = decide (i < o + v) from decide_eq_decide.2 (by omega)]
    · by_cases h2 : i < o + (v + k)
      · obtain ⟨r, rfl⟩ : ∃ r, i = o + v + r := ⟨i - (o + v), by omega⟩
        have hr : (o + v + r - (o + a)) % k = r := by
          rw [show o + v + r - (o + a) = (v - a) + r by omega, Nat.add_mod, hm, Nat.zero_add, Nat.mod_mod, Nat.mod_eq_of_lt (by omega)]
        rw [hr]
        have : ¬ r = 0 := by omega
        simp [this]
      · simp [h1, h2]
theorem upTo_end (S : Sets) (o a b k v : Nat) (hv : a ≤ v) (hm : (v - a) % k = 0) (h1 : b < v) (h2 : v ≤ b + k) : upTo S o a k v = addV S o a b k := by
  funext i
  unfold upTo addV
  by_cases h : o + a ≤ i ∧ (i - (o + a)) % k = 0
  · obtain ⟨ha, hz⟩ := h
    obtain ⟨p, hp⟩ := Nat.dvd_of_mod_eq_zero hz
    obtain ⟨q, hq⟩ := Nat.dvd_of_mod_eq_zero hm
    have : i < o + v ↔ i ≤ o + b := by
      constructor
      · intro hlt
        have hpq : k * p < k * q := by omega
        have hpq' : p < q := Nat.lt_of_mul_lt_mul_left hpq
        have : k * (p + 1) ≤ k * q := Nat.mul_le_mul_left k hpq'
        rw [Nat.mul_add, Nat.mul_one] at this
        omega
      · intro; omega
    rw [show decide (i < o + v) = decide (i ≤ o + b) from decide_eq_decide.2 this]
  · by_cases ha : o + a ≤ i
    · have hz : ¬ (i - (o + a)) % k = 0 := fun k => h ⟨ha, k⟩
      simp [hz]
    · simp [ha]
end X
end Go.Proofs.YtbgioclbjbmicaaDoor
