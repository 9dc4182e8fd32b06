/- The law's words: numbers as words. -/
import Derived.Test.YtinhpanpjamjlaaGreatPPu3
namespace Go.Proofs.YtinhpanpjamjlaaGreat
namespace Wm
open Go.RowKit Go.Deep

/-- a number as a word -/
def wd (y : Int) : Nat := (y % 18446744073709551616).toNat
def uv (l : List Int) : List Value := l.map fun y => .int .u64 (wd y : Nat)
theorem wd_lt (y : Int) : wd y < 18446744073709551616 := by unfold wd; omega
theorem info_u64 : (Tryz.prog.info? 29).map (fun i => (i.zero, i.size, i.bytes)) = some (some (.int .u64 0), 1, 8) := by kernel_rfl
theorem wp_append64 {w : World} {ops : Array Oper} {rest : List Oper} {o : Oper} {a : Act} {Q : Exit → Act → World → Prop} (hgd : o.guard = none) (s x : Operand)
    (ho : o.op = .call { callee := .builtin .append, args := #[s, x], argTypes := #[113, 113] })
    (base : Nat) (v : Value) (n : Nat) (xs : List Value) (hs : a.eval s = v) (hown : w.ownsRow base 29 1 v n xs) (ad : Addr) (y : Int) (hx : a.eval x = .slice (some ad) 1 1) (hc : w.cell? ad = some (.int .u64 y)) (hn : n + 1 ≤ 17592186044416) (hbase : base ≤ w.heap.size)
    (h : ∀ v' w', w'.ownsRow base 29 1 v' (n + 1) (xs ++ [.int .u64 y]) → w.grownBy w' v.ownBlock → wpList Tryz.prog ops Q rest (a.put o.dst v') w') : wpList Tryz.prog ops Q (o :: rest) a w := by
  obtain ⟨i0, hi, hz0, hz1, hz2⟩ := info_parts info_u64
  refine wpList_append_own2 hgd s x 113 ho base 29 i0 (.int .u64 0) 1 8 Tryz.underlying113 hi hz0 hz1 hz2 rfl (by decide) v n xs hs hown ad 1 1 [.int .u64 y] hx rfl (fun j u hu => ?_) (fun u hu => by rw [List.mem_singleton.1 hu]; rfl) (by unfold maxLen; omega) (by omega) hbase ?_
  · cases j with
    | zero =>
      have : u = .int .u64 y := by simpa using hu.symm
      subst this
      simpa [Addr.add] using hc
    | succ j => simp at hu
  · intro v' w' h1 h2 _
    exact h v' w' h1 h2
theorem cell_1 (w : World) (v : Value) (t : TypeId) : (w.alloc (.cells #[v] t)).cell? ⟨w.heap.size, 0, none⟩ = some v := by rw [World.cell?_alloc_mark]; rfl
set_option maxRecDepth 10000 in
theorem words_any (D : Nat → Prop) (aL : Option Addr) (nL cL : Nat) (L : List Int) (w : World) (hE : Els D w aL nL (iv L)) (hn : nL ≤ 17592186043904) :
    Calls Tryz.prog 46 #[.slice aL nL cL] w fun en w' => ∃ v, en = .returned v ∧ w'.ownsRow w.heap.size 29 1 v nL (uv L) ∧ Below w.heap.size w w' := by
  have HLn : Hid (nL = L.length) := by show _ = _; have := hE.1; unfold iv at this; rw [List.length_map] at this; exact this
  have HE := hide hE
  clear hE
  go_enter Tryz.func46, Tryz.ntmps46
  go_wp2_with fail
  go_loopw [3, 4] (fun v iv wx => ∃ (k : Nat) (a : Option Addr) (c : Nat), v = .slice a k c ∧ iv = .int .i64 (k : Nat) ∧ k ≤ nL ∧ Hid (wx.ownsRow w.heap.size 29 1 (.slice a k c) k (uv (L.take k)) ∧ Below w.heap.size w wx)) (fun _ iv _ => nL - (intOf iv).toNat)
  case atStart => exact ⟨0, none, 0, rfl, rfl, Nat.zero_le _, by simpa [uv] using World.ownsRow_nil w w.heap.size 29 1, Below.refl _ _⟩
  case round => as_aux_lemma =>
    obtain ⟨k, a, c, rfl, rfl, hk, HD⟩ := hrel
    by_cases hlt : k < nL
    · have hlt' : (k : Int) < (nL : Int) := by omega
      have hkL : k < L.length := by have := HLn.out; omega
      obtain ⟨y, hy⟩ : ∃ y, L[k]? = some y := ⟨_, List.getElem?_eq_getElem hkL⟩
      have hiv : (iv L)[k]? = some (.int .i64 y) := by unfold iv; rw [List.getElem?_map, hy]; rfl
      obtain ⟨b, off, eA, hc⟩ : ∃ b off, aL = some ⟨b, off, none⟩ ∧ wr.cell? ⟨b, off + k, none⟩ = some (.int .i64 y) := by
        rcases HE.out.2.2 with h0 | ⟨b, off, e, _, hc⟩
        · omega
        · exact ⟨b, off, e, blkc (hc k _ hiv) HD.out.2⟩
      have ewd : IntKind.u64.wrap y = ((wd y : Nat) : Int) := by rw [IntKind.wrap_u64]; unfold wd; omega
      have emod : y % 18446744073709551616 = ((wd y : Nat) : Int) := by unfold wd; omega
      subst eA
      have HTk : Hid (uv (L.take k) ++ [.int .u64 (wd y : Nat)] = uv (L.take (k + 1))) := by
        show _ = _
        rw [List.take_add_one, hy]
        simp [uv]
      clear hy hiv hkL
      have HR := hide (HD.out.1.alloc (.cells #[.int .u64 (wd y : Nat)] 29))
      have HC := hide (cell_1 wr (.int .u64 (wd y : Nat)) 29)
      have HB := hide (HD.out.2.alloc HD.out.2.size (.cells #[.int .u64 (wd y : Nat)] 29))
      have HZ : Hid (w.heap.size ≤ (wr.alloc (.cells #[.int .u64 (wd y : Nat)] 29)).heap.size) := HB.out.size
      clear HD
      go_wp2_with (at_builtin; refine wp_append64 rfl _ _ rfl w.heap.size (.slice a k c) k (uv (L.take k)) rfl HR.out ⟨wr.heap.size, 0, none⟩ _ rfl HC.out (by omega) HZ.out ?_; intro v' w4 o4 g4; rw [HTk.out] at o4; have HB4 := hide (HB.out.grown g4 HZ.out fun j hj => (HR.out.lt j hj).1); obtain ⟨a4, c4, hv4⟩ := ownsRow_shape o4; subst hv4; have HO4 := hide o4; clear o4 g4)
      go_roundw
      · exact ⟨k + 1, a4, c4, rfl, rfl, by omega, HO4.out, HB4.out⟩
      · show nL - ((k : Int) + 1).toNat < nL - (k : Int).toNat
        omega
    · obtain rfl : k = nL := by omega
      have hge : ¬ ((k : Int) < (k : Int)) := by omega
      have HO : Hid (wr.ownsRow w.heap.size 29 1 (.slice a k c) k (uv L) ∧ Below w.heap.size w wr) := by
        have := HD.out
        rw [List.take_of_length_le (by have := HLn.out; omega)] at this
        exact this
      clear HD
      go_wp2_with fail
      go_ret
      exact ⟨_, rfl, HO.out⟩
end Wm
end Go.Proofs.YtinhpanpjamjlaaGreat
