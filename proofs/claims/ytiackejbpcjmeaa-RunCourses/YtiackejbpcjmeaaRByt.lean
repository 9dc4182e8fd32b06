/- Package run: bytes in memory. -/
import Derived.Test.YtiackejbpcjmeaaGRow
import Derived.Laws.AppendOwnNone
import Derived.Laws.BytesArg
namespace Go.Proofs.Ytiackejbpcjmeaa
namespace Rn
open Go.RowKit Gr

/-- bytes as cells -/
def B8 (l : List Nat) : List Value := l.map fun (d : Nat) => Value.int .u8 (d : Int)
theorem B8_length (l : List Nat) : (B8 l).length = l.length := by simp [B8]
theorem B8_one (l : List Nat) : ∀ v ∈ B8 l, v.oneCell' = true := by
  intro v hv
  simp only [B8, List.mem_map] at hv
  obtain ⟨d, _, rfl⟩ := hv
  rfl
theorem B8_at (l : List Nat) (i : Nat) (h : i < l.length) : (B8 l)[i]? = some (.int .u8 ((l.getD i 0 : Nat) : Int)) := by simp [B8, h]
theorem B8_append (a b : List Nat) : B8 (a ++ b) = B8 a ++ B8 b := by simp [B8]

/-- What a slice of bytes reads: n bytes l from an address on (or none at all). -/
def Rd (w : World) (a : Option Addr) (n : Nat) (l : List Nat) : Prop :=
  n = l.length ∧ n < 281474976710656 ∧ (∀ d ∈ l, d < 256) ∧ (n = 0 ∨ ∃ b off, a = some ⟨b, off, none⟩ ∧ ∀ i, i < n → w.cell? ⟨b, off + i, none⟩ = some (.int .u8 ((l.getD i 0 : Nat) : Int)))

theorem Rd.stay {w w' : World} {a : Option Addr} {n : Nat} {l : List Nat} {S : Nat → Prop} (h : Rd w a n l) (hk : Keep S w w') (hS : ∀ b off, a = some ⟨b, off, none⟩ → ¬ S b) : Rd w' a n l := by
  obtain ⟨h1, h2, h3, h4⟩ := h
  refine ⟨h1, h2, h3, ?_⟩
  rcases h4 with h4 | ⟨b, off, rfl, h4⟩
  · exact .inl h4
  · exact .inr ⟨b, off, rfl, fun i hi => hk.cell (h4 i hi) (hS b off rfl)⟩
theorem Rd.below {w w' : World} {a : Option Addr} {n : Nat} {l : List Nat} {B : Nat} (h : Rd w a n l) (hB : w.heap.size ≤ B) (hb : Below B w w') : Rd w' a n l :=
  h.stay (S := fun _ => False) (Keep.ofBelow hb hB) fun _ _ _ h => h
theorem Rd.keep {w w' : World} {a : Option Addr} {n : Nat} {l : List Nat} (h : Rd w a n l) (hb : Below w.heap.size w w') : Rd w' a n l := h.below (Nat.le_refl _) hb
theorem Rd.cells {w : World} {ad : Addr} {n : Nat} {l : List Nat} (h : Rd w (some ad) n l) : ∀ j u, (B8 l)[j]? = some u → w.cell? (ad.add j) = some u := by
  obtain ⟨h1, _, _, h4⟩ := h
  intro j u hu
  have hj : j < l.length := by
    rcases Nat.lt_or_ge j l.length with h' | h'
    · exact h'
    · rw [List.getElem?_eq_none (by rw [B8_length]; exact h')] at hu; cases hu
  rcases h4 with h4 | ⟨b, off, e, h4⟩
  · omega
  · injection e with e; subst e
    rw [B8_at l j hj] at hu
    injection hu with hu; subst hu
    have hadd : (⟨b, off, none⟩ : Addr).add j = ⟨b, off + j, none⟩ := by unfold Addr.add; split <;> simp_all
    rw [hadd]
    exact h4 j (by omega)

theorem info_u8 : (Try.prog.info? 5).map (fun i => (i.zero, i.size, i.bytes)) = some (some (.int .u8 0), 1, 1) := by kernel_rfl

theorem wpList_append_rd {w : World} {ops : Array Oper} {rest : List Oper} {o : Oper} {ac : Act} {Q : Exit → Act → World → Prop} (hgd : o.guard = none) (s x : Operand)
    (ho : o.op = .call { callee := .builtin .append, args := #[s, x], argTypes := #[38, 38] })
    (v : Value) (xs : List Nat) (base : Nat) (hs : ac.eval s = v) (hown : w.ownsRow base 5 1 v xs.length (B8 xs))
    (a : Option Addr) (n c : Nat) (l : List Nat) (hx : ac.eval x = .slice a n c) (hr : Rd w a n l) (h0 : a = none → c = 0)
    (hsz : xs.length + n ≤ 140737488355328) (hbase : base ≤ w.heap.size)
    (h : ∀ v' w', w'.ownsRow base 5 1 v' (xs ++ l).length (B8 (xs ++ l)) → w.grownBy w' v.ownBlock → NewBlk w v v' → wpList Try.prog ops Q rest (ac.put o.dst v') w') : wpList Try.prog ops Q (o :: rest) ac w := by
  obtain ⟨i0, hi, hz0, hz1, hz2⟩ := info_parts info_u8
  cases a with
  | none =>
    have hn : n = 0 := hr.2.2.2.elim id (fun ⟨b, off, e, _⟩ => by cases e)
    subst hn
    rw [h0 rfl] at hx
    have hl : l = [] := List.eq_nil_of_length_eq_zero hr.1.symm
    subst hl
    refine wpList_append_own_none hgd s x 38 ho base 5 i0 1 Try.underlying38 hi v xs.length (B8 xs) hs hown hx ?_
    refine h v w (by simpa using hown) ⟨rfl, rfl, rfl, Nat.le_refl _, fun _ _ _ => rfl⟩ (.inl rfl)
  | some ad =>
    refine wpList_append_own2 hgd s x 38 ho base 5 i0 (.int .u8 0) 1 1 Try.underlying38 hi hz0 hz1 hz2 rfl (by decide) v xs.length (B8 xs) hs hown ad n c (B8 l) hx (by rw [B8_length, hr.1]; simp) hr.cells (B8_one l) (by unfold maxLen; omega) (by omega) hbase ?_
    intro v' w' h1 h2 h3
    refine h v' w' ?_ h2 h3
    rw [← B8_append] at h1
    rw [List.length_append, ← hr.1]
    exact h1

/-- what a row of the call's own reads -/
theorem ownsRow_rdB {w : World} {base : Nat} {v : Value} {l : List Nat} (h : w.ownsRow base 5 1 v l.length (B8 l)) (hd : ∀ d ∈ l, d < 256) (hs : l.length < 281474976710656) :
    ∃ a c, v = .slice a l.length c ∧ Rd w a l.length l ∧ (a = none → c = 0) ∧ l.length ≤ c ∧ (∀ ad, a = some ad → ∃ g, ad = ⟨g, 0, none⟩ ∧ base ≤ g) := by
  rcases h.2 with ⟨rfl, h0⟩ | ⟨g, cap, cur, rfl, hb, hg, hc, _, hcs, htk⟩
  · exact ⟨none, 0, by rw [h0], ⟨rfl, hs, hd, .inl h0⟩, fun _ => rfl, by omega, (fun ad e => by cases e)⟩
  · refine ⟨_, cap, rfl, ⟨rfl, hs, hd, .inr ⟨g, 0, rfl, fun i hi => ?_⟩⟩, (fun e => by cases e), hc, (fun ad e => ⟨g, (by injection e with e; exact e.symm), hb⟩)⟩
    have := h.cells (g := g) rfl i (.int .u8 ((l.getD i 0 : Nat) : Int)) (B8_at l i hi)
    rw [Addr.add_lit] at this
    exact this

theorem below_grown {w wr w1 : World} {row : Option Nat} (hb : Below w.heap.size w wr) (o : Obj) (hg : (wr.alloc o).grownBy w1 row) (hr : ∀ k, row = some k → w.heap.size ≤ k) : Below w.heap.size w w1 :=
  (hb.alloc hb.size o).grown hg (by have := hb.size; simp; omega) hr

/-- []byte{} -/
theorem ownsRow_empty (w : World) : (w.alloc (.cells #[] 5)).ownsRow w.heap.size 5 1 (.slice (some ⟨w.heap.size, 0, none⟩) 0 0) 0 (B8 []) :=
  World.ownsRow_made (e := 5) (size := 1) w #[] 0 (Nat.le_refl _) (Nat.zero_le _) rfl

set_option maxRecDepth 10000 in
theorem clone_any (a : Option Addr) (n c : Nat) (l : List Nat) (w : World) (h : Rd w a n l) (h0 : a = none → c = 0) (hn : n ≤ 140737488355328) :
    Calls Try.prog 38 #[.slice a n c] w fun en w' => ∃ v, en = .returned v ∧ w'.ownsRow w.heap.size 5 1 v l.length (B8 l) ∧ Below w.heap.size w w' := by
  cases a with
  | none =>
    have hn0 : n = 0 := h.2.2.2.elim id (fun ⟨b, off, e, _⟩ => by cases e)
    subst hn0
    have hl : l = [] := List.eq_nil_of_length_eq_zero h.1.symm
    subst hl
    rw [h0 rfl]
    clear h h0
    have hq := fun w => Lib.run_eql_slice_nil (P := Try.prog) w 38 5 none 0 0 0 0 Try.underlying38
    go_enter Try.func38, Try.ntmps38
    go_wp2
    go_ret
    exact ⟨_, rfl, World.ownsRow_nil _ _ _ _, Below.refl _ _⟩
  | some ad =>
    have hb0 := (Below.refl w.heap.size w).alloc (Nat.le_refl _) (.cells #[] 5)
    have HR := hide (h.keep hb0)
    have HO := hide (ownsRow_empty w)
    clear h h0 hb0
    have hq := fun w => Lib.run_eql_slice_nil (P := Try.prog) w 38 5 (some ad) n c 0 0 Try.underlying38
    go_enter Try.func38, Try.ntmps38
    go_wp2_with (at_builtin; refine wpList_append_rd rfl _ _ rfl _ [] w.heap.size rfl HO.out (some ad) n c l rfl HR.out (fun e => by cases e) (by simpa using hn) (by simp) ?_; intro v' w2 ho2 hg hnb; rw [List.nil_append] at ho2; obtain ⟨a', c', hv'⟩ := ownsRow_shape ho2; have HO2 := hide ho2; have HG := hide hg; have HV := hide hv'; clear ho2 hg hnb hv')
    go_ret
    exact ⟨v', rfl, HO2.out, below_grown (Below.refl _ _) _ HG.out fun k hk => (HO.out.lt k hk).1⟩

def str (l : List Nat) : ByteArray := strOfNums (l.map fun (d : Nat) => (d : Int))
theorem conv_rd {w : World} {a : Option Addr} {n : Nat} {l : List Nat} (h : Rd w a n l) (c : Nat) : (convert 38 9 (.slice a n c)).run Try.prog w = .ok (.string (str l)) w := by
  obtain ⟨hl, _, _, hrow⟩ := h
  rcases hrow with h0 | ⟨b, off, rfl, hrow⟩
  · have hnil : l = [] := List.length_eq_zero_iff.1 (by omega)
    subst h0 hnil
    cases a with
    | none => exact run_convert_bytes_nil w 38 5 Try.underlying38 Try.underlying5 0 c 9 Try.underlying9
    | some y =>
      have hl : (loadCells y 0).run Try.prog w = .ok (([] : List Int).map (Value.int .u8)).toArray w := by simpa using run_loadCells_list (P := Try.prog) w y [] (by simp)
      rw [run_convert_bytes_string w 38 9 5 _ 0 c Try.underlying38 Try.underlying5 Try.underlying9, run_bytesToString w _ 0 c [] hl]
      rfl
  · exact run_convert_bytes_arg w 38 5 Try.underlying38 Try.underlying5 b off n c (l.map fun (d : Nat) => (d : Int)) (by simp [hl]) (fun i hi => by
      rw [hrow i hi]
      congr 2
      rw [List.getD_eq_getElem?_getD, List.getD_eq_getElem?_getD, List.getElem?_map, List.getElem?_eq_getElem (show i < l.length by omega)]
      rfl) 9 Try.underlying9

set_option maxRecDepth 10000 in
theorem twin_any (a : Option Addr) (n c : Nat) (l : List Nat) (w : World) (h : Rd w a n l) (h0 : a = none → c = 0) (hn : n ≤ 140737488355328) :
    Calls Try.prog 30 #[.slice a n c] w fun en w' => ∃ v, en = .returned v ∧ w'.ownsRow w.heap.size 5 1 v l.length (B8 l) ∧ Below w.heap.size w w' := by
  have HR := hide h
  have HO : Hid (w.ownsRow w.heap.size 5 1 (.slice none 0 0) ([] : List Nat).length (B8 [])) := World.ownsRow_nil _ _ _ _
  clear h
  go_enter Try.func30, Try.ntmps30
  go_wp2_with (at_builtin; refine wpList_append_rd rfl _ _ rfl _ [] w.heap.size rfl HO.out a n c l rfl HR.out h0 (by simpa using hn) (Nat.le_refl _) ?_; intro v' w2 ho2 hg hnb; rw [List.nil_append] at ho2; obtain ⟨a', c', hv'⟩ := ownsRow_shape ho2; have HO2 := hide ho2; have HG := hide hg; have HV := hide hv'; clear ho2 hg hnb hv')
  go_ret
  exact ⟨v', rfl, HO2.out, (Keep.grown (S := fun _ => False) HG.out (fun k e => by cases e)).below (Nat.le_refl _) fun _ f => f.elim⟩
end Rn
end Go.Proofs.Ytiackejbpcjmeaa
