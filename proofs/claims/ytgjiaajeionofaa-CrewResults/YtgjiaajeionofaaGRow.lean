/- Rows of numbers of the call's own. -/
import Derived.Test.YtgjiaajeionofaaGOrM
import Derived.Deep.WholeRow
namespace Go.Proofs.Ytgjiaajeionofaa
namespace Gr
open Go.RowKit

theorem info_int : (Try.prog.info? 3).map (fun i => (i.zero, i.size, i.bytes)) = some (some (.int .i64 0), 1, 8) := by kernel_rfl
theorem size_arr : (Try.prog.info? 48).map (·.size) = some 64 := by kernel_rfl
def iv (l : List Nat) : List Value := l.map fun x : Nat => Value.int .i64 (x : Int)
theorem iv_snoc (l : List Nat) (x : Nat) : iv (l ++ [x]) = iv l ++ [.int .i64 (x : Int)] := by simp [iv]
theorem iv_len (l : List Nat) : (iv l).length = l.length := by simp [iv]

theorem ownsRow_keep {w w' : World} {b : Nat} {e : TypeId} {size : Nat} {v : Value} {n : Nat} {xs : List Value} (h : w.ownsRow b e size v n xs) {S : Nat → Prop} (k : Keep S w w') (hS : ∀ i, S i → v.ownBlock ≠ some i) : w'.ownsRow b e size v n xs := by
  refine ⟨h.1, ?_⟩
  rcases h.2 with h' | ⟨g, cap, cur, h1, h2, h3, h4⟩
  · exact .inl h'
  · subst h1
    exact .inr ⟨g, cap, cur, rfl, h2, k.blk h3 (fun hs => hS g hs rfl), h4⟩
theorem ownsRow_new {w w' : World} {b : Nat} {e : TypeId} {size : Nat} {v : Value} {n : Nat} {xs : List Value} (h : w.ownsRow b e size v n xs) (k : Keep (fun _ => False) w w') : w'.ownsRow b e size v n xs := ownsRow_keep h k fun _ f => f.elim
/-- the block of a row lies from its base on -/
theorem ownsRow_from {w : World} {b : Nat} {e : TypeId} {size : Nat} {v : Value} {n : Nat} {xs : List Value} (h : w.ownsRow b e size v n xs) {k : Nat} (hk : v.ownBlock = some k) : b ≤ k := (h.lt k hk).1
/-- a row of the call's own, as numbers that can be read -/
theorem ownsRow_rd {w : World} {b : Nat} {v : Value} {l : List Nat} (h : w.ownsRow b 3 1 v l.length (iv l)) (hl : l.length ≤ 17592186044416) : ∃ a c, v = .slice a l.length c ∧ RdZ w.heap.size w (a, l.length, c) (l.map fun x : Nat => (x : Int)) := by
  rcases h.2 with ⟨e1, e2⟩ | ⟨g, cap, cur, e1, e2, e3, e4, e5, e6, e7⟩
  · exact ⟨none, 0, by rw [e1, e2], by simp, hl, .inl e2⟩
  · refine ⟨_, cap, e1, by simp, hl, ?_⟩
    rcases Nat.eq_zero_or_pos l.length with h0 | h0
    · exact .inl h0
    · refine .inr ⟨g, 0, rfl, (Array.getElem?_eq_some_iff.1 e3).1, fun j x hj => ?_⟩
      rw [Nat.zero_add]
      refine cell_blk e3 j ?_
      have h2 : (iv l)[j]? = some (.int .i64 x) := by
        rw [List.getElem?_map] at hj
        unfold iv
        rw [List.getElem?_map]
        obtain ⟨y, hy, rfl⟩ := Option.map_eq_some_iff.1 hj
        rw [hy]; rfl
      rw [← e7, List.getElem?_take] at h2
      split at h2
      · simpa using h2
      · cases h2
theorem cell_one (w : World) (v : Value) (t : TypeId) : (w.alloc (.cells #[v] t)).cell? ⟨w.heap.size, 0, none⟩ = some v := by rw [World.cell?_alloc_mark]; rfl
/-- a number more behind a row of the call's own -/
theorem wp_append1 {w : World} {ops : Array Oper} {rest : List Oper} {o : Oper} {a : Act} {Q : Exit → Act → World → Prop} (hgd : o.guard = none) (s x : Operand)
    (ho : o.op = .call { callee := .builtin .append, args := #[s, x], argTypes := #[37, 37] })
    (base : Nat) (v : Value) (n : Nat) (xs : List Value) (hs : a.eval s = v) (hown : w.ownsRow base 3 1 v n xs) (ad : Addr) (y : Int) (hx : a.eval x = .slice (some ad) 1 1) (hc : w.cell? ad = some (.int .i64 y)) (hn : n + 1 ≤ 17592186044416) (hbase : base ≤ w.heap.size)
    (h : ∀ v' w', w'.ownsRow base 3 1 v' (n + 1) (xs ++ [.int .i64 y]) → Keep (fun k => v.ownBlock = some k) w w' → NewBlk w v v' → wpList Try.prog ops Q rest (a.put o.dst v') w') : wpList Try.prog ops Q (o :: rest) a w := by
  obtain ⟨i0, hi, hz0, hz1, hz2⟩ := info_parts info_int
  refine wpList_append_own2 hgd s x 37 ho base 3 i0 (.int .i64 0) 1 8 Try.underlying37 hi hz0 hz1 hz2 rfl (by decide) v n xs hs hown ad 1 1 [.int .i64 y] hx rfl (fun j u hu => ?_) (fun u hu => by rw [List.mem_singleton.1 hu]; rfl) (by unfold maxLen; omega) (by omega) hbase ?_
  · cases j with
    | zero =>
      have : u = .int .i64 y := by simpa using hu.symm
      subst this
      simpa [Addr.add] using hc
    | succ j => simp at hu
  · intro v' w' h1 h2 h3
    exact h v' w' h1 (Keep.grown h2 fun k e => e) h3
/-- an array of 64 bools, loaded whole -/
theorem load64 {ops : Array Oper} {rest : List Oper} {a : Act} {w : World} {Q : Exit → Act → World → Prop} {o : Oper} (hgd : o.guard = none) (x : Operand) (ho : o.op = .load 48 x) (g : Nat) (f : Nat → Bool)
    (hx : a.eval x = .pointer (some ⟨g, 0, none⟩)) (hg : w.heap[g]? = some (.cells (row64 f) 48 (0, 0))) (h : wpList Try.prog ops Q rest (a.put o.dst (.agg (row64 f))) w) :
    wpList Try.prog ops Q (o :: rest) a w :=
  wpList_load_row hgd 48 x ho g hx 48 (row64 f) (0, 0) _ hg Try.underlying48 rfl (by rw [row64_size]; exact size_arr) h
end Gr
end Go.Proofs.Ytgjiaajeionofaa
