/- DiskOwns: ints of two lists that are alike; copies of lists in blocks of their own. -/
import Derived.Test.YtmaeaibphggceaaDOcp
namespace Go.Proofs.Ytmaeaibphggceaa
open Go.RowKit Go.Lib

theorem Rz.at_ {w : World} {a : Option Addr} {n : Nat} {z : List Int} (h : Rz w a n z) (i : Nat) (hi : i < n) : ∃ b off, a = some ⟨b, off, none⟩ ∧ w.cell? ⟨b, off + i, none⟩ = some (.int .i64 (z.getD i 0)) := by
  rcases h.2.2.2 with h0 | ⟨b, off, e, hc⟩
  · omega
  · exact ⟨b, off, e, hc i hi⟩
/-- what a row of numbers is read as -/
theorem rz_of {w : World} {B : Nat} {v : Value} {l : List Int} (h : w.ownsRow B 3 1 v l.length (Zv l)) (hd : ∀ x ∈ l, -9223372036854775808 ≤ x ∧ x ≤ 9223372036854775807) (hs : l.length ≤ 17592186044416) : ∃ a c, v = .slice a l.length c ∧ Rz w a l.length l ∧ (a = none → c = 0) := by
  rcases h.2 with ⟨rfl, h0⟩ | ⟨g, cap, cur, rfl, hb, hg, hc, _, hcs, htk⟩
  · exact ⟨none, 0, by rw [h0], ⟨rfl, hs, hd, .inl h0⟩, fun _ => rfl⟩
  · refine ⟨_, cap, rfl, ⟨rfl, hs, hd, .inr ⟨g, 0, rfl, fun i hi => ?_⟩⟩, (fun e => by cases e)⟩
    have := h.cells (g := g) rfl i (.int .i64 (l.getD i 0)) (Zv_at l i hi)
    rw [Addr.add_lit] at this
    exact this
theorem drewN_addO (w : World) (a b : Nat) : (w.drewN a).drewN b = w.drewN (a + b) := by unfold World.drewN; simp only [Nat.add_assoc]
theorem Keep.drewM (w : World) (m : Nat) (S : Nat → Prop) : Keep S w (w.drewN m) := ⟨rfl, rfl, rfl, Nat.le_refl _, fun _ _ _ => rfl⟩
set_option maxRecDepth 100000 in
set_option maxHeartbeats 4000000 in
theorem ints_same (w : World) (a b : Option Addr) (n c d : Nat) (z : List Int) (h1 : Rz w a n z) (h2 : Rz w b n z) :
    Calls Try.prog 7 #[.slice a n c, .slice b n d] w fun e w' => e = .returned (.bool true) ∧ ∃ m, w' = w.drewN m := by
  have H1 := hide fun j hj => h1.at_ j hj
  have H2 := hide fun j hj => h2.at_ j hj
  have hl := h1.2.1
  clear h1 h2
  go_enter Try.func7, Try.ntmps7
  go_wp2
  go_loopw [5] (fun i wx => ∃ k m : Nat, k ≤ n ∧ i = .int .i64 (k : Nat) ∧ wx = w.drewN m) (fun i _ => n - (intOf i).toNat)
  case atStart => exact ⟨0, 0, Nat.zero_le _, rfl, rfl⟩
  case round =>
    obtain ⟨k, m, hk, rfl, rfl⟩ := hrel
    by_cases hlt : k < n
    · obtain ⟨g, o, rfl, g1⟩ := H1.out k hlt
      obtain ⟨g', o', rfl, g1'⟩ := H2.out k hlt
      generalize z.getD k 0 = x at *
      go_wp2
      go_region
      all_goals go_wp2
      all_goals exact ⟨⟨k + 1, m + 1, by omega, by go_num, rfl⟩, by simp [intOf]; omega⟩
    · go_wp2
      go_ret
      exact ⟨rfl, m, rfl⟩
theorem own_empty (w : World) (e : TypeId) : (w.alloc (.cells #[] e)).ownsRow w.heap.size e 1 (.slice (some ⟨w.heap.size, 0, none⟩) 0 0) 0 [] :=
  ⟨rfl, .inr ⟨w.heap.size, 0, #[], rfl, Nat.le_refl _, heap_alloc_new w _, Nat.le_refl _, Nat.zero_le _, rfl, rfl⟩⟩
theorem wp_cloneB {w : World} {ops : Array Oper} {rest : List Oper} {o : Oper} {ac : Act} {Q : Exit → Act → World → Prop} (hgd : o.guard = none) (s x : Operand)
    (ho : o.op = .call { callee := .builtin .append, args := #[s, x], argTypes := #[26, 26] })
    (hs : ac.eval s = .slice (some ⟨w.heap.size, 0, none⟩) 0 0) (a : Option Addr) (n c : Nat) (l : List Nat) (hx : ac.eval x = .slice a n c) (hr : Rd w a n l) (h0 : a = none → c = 0) (hsz : n ≤ 140737488355328)
    (h : ∀ v' w', w'.ownsRow w.heap.size 5 1 v' l.length (B8 l) → Keep (fun _ => False) w w' → wpList Try.prog ops Q rest (ac.put o.dst v') w') : wpList Try.prog ops Q (o :: rest) ac (w.alloc (.cells #[] 5)) := by
  have ka : Keep (fun _ => False) w (w.alloc (.cells #[] 5)) := Keep.alloc _ _ _
  refine wpList_append_rd hgd s x ho (.slice (some ⟨w.heap.size, 0, none⟩) 0 0) [] w.heap.size hs (own_empty w _) a n c l hx (hr.stay ka fun _ _ _ f => f) h0 (by simpa using hsz) ka.size fun v' w' h1 h2 h3 => ?_
  refine h v' w' (by simpa using h1) ?_
  exact ⟨h2.os.trans ka.os, h2.tape.trans ka.tape, h2.output.trans ka.output, Nat.le_trans ka.size h2.size, fun k hk _ => (h2.block k (Nat.lt_of_lt_of_le hk ka.size) (fun e => by have e : some k = some w.heap.size := e; injection e with e; omega)).trans (ka.block k hk fun f => f)⟩
set_option maxRecDepth 100000 in
theorem wp_cloneI {w : World} {ops : Array Oper} {rest : List Oper} {o : Oper} {ac : Act} {Q : Exit → Act → World → Prop} (hgd : o.guard = none) (s x : Operand)
    (ho : o.op = .call { callee := .builtin .append, args := #[s, x], argTypes := #[27, 27] })
    (hs : ac.eval s = .slice (some ⟨w.heap.size, 0, none⟩) 0 0) (a : Option Addr) (n c : Nat) (l : List Int) (hx : ac.eval x = .slice a n c) (hr : Rz w a n l) (h0 : a = none → c = 0)
    (h : ∀ v' w', w'.ownsRow w.heap.size 3 1 v' l.length (Zv l) → Keep (fun _ => False) w w' → wpList Try.prog ops Q rest (ac.put o.dst v') w') : wpList Try.prog ops Q (o :: rest) ac (w.alloc (.cells #[] 3)) := by
  have ka : Keep (fun _ => False) w (w.alloc (.cells #[] 3)) := Keep.alloc _ _ _
  have hr' : Rz (w.alloc (.cells #[] 3)) a n l := hr.stay ka fun _ _ _ _ f => f
  have hl := hr.1
  have hb := hr.2.1
  obtain ⟨i0, hi, hz0, hz1, hz2⟩ := info_parts Oi.info_i64N
  have hown := own_empty w 3
  cases a with
  | none =>
    have hn : n = 0 := hr.2.2.2.elim id (fun ⟨b, off, e, _⟩ => by cases e)
    rw [h0 rfl, hn] at hx
    have hl : l = [] := List.eq_nil_of_length_eq_zero (by omega)
    subst hl
    refine wpList_append_own_none hgd s x 27 ho w.heap.size 3 i0 1 Try.underlying27 hi _ 0 [] hs hown hx ?_
    exact h _ _ hown ka
  | some ad =>
    have hc : ∀ j u, (Zv l)[j]? = some u → (w.alloc (.cells #[] 3)).cell? (ad.add j) = some u := fun j u hu => by
      have hj : j < l.length := by have := (List.getElem?_eq_some_iff.1 hu).1; rw [Zv_len] at this; exact this
      obtain ⟨b, off, e, hc⟩ := hr'.at_ j (by omega)
      injection e with e
      subst e
      rw [Addr.add_mid, hc, ← Zv_at l j hj]
      exact hu
    refine wpList_append_own2 hgd s x 27 ho w.heap.size 3 i0 (.int .i64 0) 1 8 Try.underlying27 hi hz0 hz1 hz2 rfl (by decide) _ 0 [] hs hown ad n c (Zv l) hx (by rw [Zv_len]; omega) hc (Zv_one l) (by unfold maxLen; omega) (by omega) ka.size ?_
    intro v' w' h1 h2 h3
    refine h v' w' (by rw [hl] at h1; simpa using h1) ?_
    exact ⟨h2.os.trans ka.os, h2.tape.trans ka.tape, h2.output.trans ka.output, Nat.le_trans ka.size h2.size, fun k hk _ => (h2.block k (Nat.lt_of_lt_of_le hk ka.size) (fun e => by have e : some k = some w.heap.size := e; injection e with e; omega)).trans (ka.block k hk fun f => f)⟩
/-- lists that rise and have the same members are one -/
theorem rise_uniq : ∀ {a b : List Int}, a.Pairwise (· < ·) → b.Pairwise (· < ·) → (∀ x, x ∈ a ↔ x ∈ b) → a = b
  | [], [], _, _, _ => rfl
  | [], y :: b, _, _, h => by have := (h y).2 (by simp); simp at this
  | x :: a, [], _, _, h => by have := (h x).1 (by simp); simp at this
  | x :: a, y :: b, h1, h2, h => by
    rw [List.pairwise_cons] at h1 h2
    have e : x = y := by
      have hx := (h x).1 (by simp)
      have hy := (h y).2 (by simp)
      rcases List.mem_cons.1 hx with e | hx
      · exact e
      · rcases List.mem_cons.1 hy with e | hy
        · exact e.symm
        · have g1 := h2.1 x hx
          have g2 := h1.1 y hy
          omega
    subst e
    congr 1
    refine rise_uniq h1.2 h2.2 fun z => ?_
    constructor
    · intro hz
      rcases List.mem_cons.1 ((h z).1 (by simp [hz])) with e | h'
      · have := h1.1 z hz; omega
      · exact h'
    · intro hz
      rcases List.mem_cons.1 ((h z).2 (by simp [hz])) with e | h'
      · have := h2.1 z hz; omega
      · exact h'
/-- numbers that rise between 1 and m are at most m -/
theorem rise_len : ∀ {a : List Int} {lo m : Int}, a.Pairwise (· < ·) → (∀ x ∈ a, lo < x ∧ x ≤ m) → lo ≤ m → (a.length : Int) ≤ m - lo
  | [], lo, m, _, _, h => by simp; omega
  | x :: a, lo, m, h, hb, _ => by
    rw [List.pairwise_cons] at h
    have hx := hb x (by simp)
    have := rise_len (lo := x) (m := m) h.2 (fun y hy => ⟨h.1 y hy, (hb y (by simp [hy])).2⟩) hx.2
    simp only [List.length_cons]
    omega
end Go.Proofs.Ytmaeaibphggceaa
