/- Package run: plans in memory of their own: copyList, copyPlan. -/
import Derived.Test.YtiackejbpcjmeaaRStp
import Derived.Test.YtiackejbpcjmeaaShelf
import Derived.Deep.RegionHeld3
namespace Go.Proofs.Ytiackejbpcjmeaa
namespace Rn
open Go.RowKit Gr

theorem clone_str (s : ByteArray) (w : World) (h : s.size ≤ 281474976710656) :
    Calls Try.prog 45 #[.string s] w fun e w' => e = .returned (.string s) ∧ Below w.heap.size w w' := by
  go_enter Try.func45, Try.ntmps45
  go_wp2_with (go_at_call 67; refine (Try.stringslite_Clone s _ h).mono ?_; rintro e w1 ⟨rfl, hb⟩)
  go_ret
  exact ⟨rfl, hb⟩
/-- numbers as cells -/
def zi (z : List Int) : List Value := z.map (Value.int .i64)
theorem zi_len (z : List Int) : (zi z).length = z.length := by simp [zi]
set_option maxRecDepth 100000 in
/-- a list behind a row of the call's own -/
theorem wp_appendZ {w : World} {ops : Array Oper} {rest : List Oper} {o : Oper} {a : Act} {Q : Exit → Act → World → Prop} (hgd : o.guard = none) (s x : Operand)
    (ho : o.op = .call { callee := .builtin .append, args := #[s, x], argTypes := #[25, 25] })
    (base B : Nat) (hs : a.eval s = .slice none 0 0) (t : Option Addr × Nat × Nat) (z : List Int) (hx : a.eval x = .slice t.1 t.2.1 t.2.2) (hz : RdZ B w t z) (hcap : t.1 = none → t.2.2 = 0) (hn : z.length ≤ 1048576) (hbase : base ≤ w.heap.size)
    (h : ∀ v' w', w'.ownsRow base 3 1 v' z.length (zi z) → Keep (fun _ => False) w w' → wpList Try.prog ops Q rest (a.put o.dst v') w') : wpList Try.prog ops Q (o :: rest) a w := by
  obtain ⟨i0, hi, hz0, hz1, hz2⟩ := info_parts info_int
  obtain ⟨ta, tn, tc⟩ := t
  have htn : tn = z.length := hz.1
  subst htn
  have hown : w.ownsRow base 3 1 (.slice none 0 0) 0 [] := World.ownsRow_nil _ _ _ _
  cases ta with
  | none =>
    have hz0' : z.length = 0 := by
      rcases hz.2.2 with h0 | ⟨g, off, e, _⟩
      · exact h0
      · cases e
    obtain rfl : z = [] := List.eq_nil_of_length_eq_zero hz0'
    have htc : tc = 0 := hcap rfl
    subst htc
    refine wpList_append_own_none hgd s x 25 ho base 3 i0 1 Try.underlying25 hi _ 0 [] hs hown hx ?_
    exact h _ w hown (Keep.refl _ _)
  | some ad =>
    refine wpList_append_own2 hgd s x 25 ho base 3 i0 (.int .i64 0) 1 8 Try.underlying25 hi hz0 hz1 hz2 rfl (by decide) _ 0 [] hs hown ad z.length tc (zi z) hx (by rw [zi_len]; omega) (fun j u hu => ?_) (fun u hu => ?_) (by unfold maxLen; omega) (by omega) hbase ?_
    · simp only [zi, List.getElem?_map] at hu
      obtain ⟨y, hy, rfl⟩ := Option.map_eq_some_iff.1 hu
      rcases hz.2.2 with h0 | ⟨g, off, e, _, hc⟩
      · have := (List.getElem?_eq_some_iff.1 hy).1
        simp only at h0
        omega
      · injection e with e
        subst e
        rw [Addr.add_mid]
        exact hc j y hy
    · simp only [zi, List.mem_map] at hu
      obtain ⟨x, _, rfl⟩ := hu
      rfl
    · intro v' w' h1 h2 _
      refine h v' w' ?_ (Keep.grown h2 fun k e => by simp [Value.ownBlock] at e)
      simpa using h1
theorem copyList_any (s : Option Addr × Nat × Nat) (z : List Int) (B : Nat) (w : World) (hz : RdZ B w s z) (hc : s.1 = none → s.2.2 = 0) (hl : z.length ≤ 1048576) :
    Calls Try.prog 46 #[.slice s.1 s.2.1 s.2.2] w fun e w' => ∃ v, e = .returned v ∧ w'.ownsRow w.heap.size 3 1 v z.length (zi z) ∧ Keep (fun _ => False) w w' := by
  have HZ := hide hz
  clear hz
  go_enter Try.func46, Try.ntmps46
  go_wp2_with (at_builtin; refine wp_appendZ rfl _ _ rfl w.heap.size B rfl s z rfl HZ.out hc hl (Nat.le_refl _) ?_; intro v' w2 ho hk; obtain ⟨a', c', hv'⟩ := ownsRow_shape ho; subst hv'; have HO := hide ho; have HK := hide hk; clear ho hk)
  go_ret
  exact ⟨_, rfl, HO.out, HK.out⟩
theorem twinInts_any (s : Option Addr × Nat × Nat) (z : List Int) (B : Nat) (w : World) (hz : RdZ B w s z) (hc : s.1 = none → s.2.2 = 0) (hl : z.length ≤ 1048576) :
    Calls Try.prog 29 #[.slice s.1 s.2.1 s.2.2] w fun e w' => ∃ v, e = .returned v ∧ w'.ownsRow w.heap.size 3 1 v z.length (zi z) ∧ Keep (fun _ => False) w w' := by
  have HZ := hide hz
  clear hz
  go_enter Try.func29, Try.ntmps29
  go_wp2_with (at_builtin; refine wp_appendZ rfl _ _ rfl w.heap.size B rfl s z rfl HZ.out hc hl (Nat.le_refl _) ?_; intro v' w2 ho hk; obtain ⟨a', c', hv'⟩ := ownsRow_shape ho; subst hv'; have HO := hide ho; have HK := hide hk; clear ho hk)
  go_ret
  exact ⟨_, rfl, HO.out, HK.out⟩

def flat (qs : List Nd) : List Value := (qs.map Nd.row).flatten
theorem flat_snoc (qs : List Nd) (q : Nd) : flat (qs ++ [q]) = flat qs ++ q.row := by simp [flat]
theorem flat_get (qs : List Nd) (i j : Nat) (q : Nd) (u : Value) (hq : qs[i]? = some q) (hu : q.row[j]? = some u) : (flat qs)[i * 10 + j]? = some u := by
  induction qs generalizing i with
  | nil => simp at hq
  | cons p qs ih =>
    have hl : ∀ q : Nd, q.row.length = 10 := fun q => rfl
    have e : flat (p :: qs) = p.row ++ flat qs := by simp [flat]
    have hj : j < 10 := by rw [← hl q]; exact (List.getElem?_eq_some_iff.1 hu).1
    rw [e]
    cases i with
    | zero =>
      simp only [List.getElem?_cons_zero, Option.some.injEq] at hq
      subst hq
      rw [Nat.zero_mul, Nat.zero_add, List.getElem?_append_left (by rw [hl]; omega)]
      exact hu
    | succ i =>
      simp only [List.getElem?_cons_succ] at hq
      rw [List.getElem?_append_right (by rw [hl]; omega), hl, show (i + 1) * 10 + j - 10 = i * 10 + j by omega]
      exact ih i hq
/-- a node without its places in memory -/
def er (x : No) : No := ⟨{ x.q with ne := (none, 0, 0), af := (none, 0, 0) }, x.nl, x.al⟩
theorem nx_er (x : No) : nx (er x) = nx x := rfl
theorem map_nx {xs ys : List No} (h : ys.map er = xs.map er) : ys.map nx = xs.map nx := by
  have e : ∀ l : List No, (l.map er).map nx = l.map nx := fun l => by rw [List.map_map]; exact List.map_congr_left fun x _ => nx_er x
  rw [← e ys, h, e]
theorem cN_er (n : Nat) : ∀ (xs : List No) (i : Nat) (seen : List ByteArray), cN n i seen (xs.map er) = cN n i seen xs
  | [], _, _ => rfl
  | x :: xs, i, seen => by
    rw [List.map_cons]
    unfold cN
    rw [cN_er n xs]
    rfl
theorem eg_er (xs : List No) : eg (xs.map er) = eg xs := by
  funext i
  unfold eg
  rw [List.getElem?_map]
  cases xs[i]? <;> rfl
theorem edges_er (xs : List No) : edges (xs.map er) = edges xs := by
  unfold edges
  rw [List.map_map]
  rfl
theorem chk_er (nm : ByteArray) (dl : Int) (xs : List No) : chk nm dl (xs.map er) = chk nm dl xs := by
  have h1 : cW nm dl (xs.map er) = cW nm dl xs := by
    unfold cW
    rw [edges_er, List.length_map]
  have h2 : cyc (xs.map er) = cyc xs := by
    unfold cyc
    rw [eg_er]
  unfold chk
  rw [h1, h2, List.length_map, cN_er]
theorem info_node : (Try.prog.info? 36).map (fun i => (i.zero, i.size, i.bytes)) = some (some (.agg #[.string ⟨#[]⟩, .int .i64 0, .int .i64 0, .int .i64 0, .int .i64 0, .int .i64 0, .int .i64 0, .int .i64 0, .slice none 0 0, .slice none 0 0]), 10, 120) := by kernel_rfl
theorem row_one' (q : Nd) : ∀ u ∈ q.row, u.oneCell' = true := fun u hu => by
  simp [Nd.row] at hu
  rcases hu with rfl | rfl | rfl | rfl | rfl | rfl | rfl | rfl | rfl | rfl <;> rfl
/-- a node more behind a row of the call's own -/
theorem wp_append_node {w : World} {ops : Array Oper} {rest : List Oper} {o : Oper} {a : Act} {Q : Exit → Act → World → Prop} (hgd : o.guard = none) (s x : Operand)
    (ho : o.op = .call { callee := .builtin .append, args := #[s, x], argTypes := #[22, 22] })
    (base : Nat) (v : Value) (qs : List Nd) (hs : a.eval s = v) (hown : w.ownsRow base 36 10 v qs.length (flat qs)) (B : Nat) (q : Nd) (hx : a.eval x = .slice (some ⟨B, 0, none⟩) 1 1) (hq : w.heap[B]? = some (.cells q.row.toArray 36 (0, 0))) (hn : qs.length ≤ 20000) (hbase : base ≤ w.heap.size)
    (h : ∀ v' w', w'.ownsRow base 36 10 v' (qs.length + 1) (flat (qs ++ [q])) → Keep (fun k => v.ownBlock = some k) w w' → wpList Try.prog ops Q rest (a.put o.dst v') w') : wpList Try.prog ops Q (o :: rest) a w := by
  obtain ⟨i0, hi, hz0, hz1, hz2⟩ := info_parts info_node
  refine wpList_append_own2 hgd s x 22 ho base 36 i0 _ 10 120 Try.underlying22 hi hz0 hz1 hz2 rfl (by decide) v qs.length _ hs hown ⟨B, 0, none⟩ 1 1 q.row hx rfl (fun j u hu => ?_) (row_one' q) (by unfold maxLen; omega) (by omega) hbase ?_
  · rw [Addr.add_mid, Nat.zero_add]
    exact cell_blk hq j (by simpa using hu)
  · intro v' w' h1 h2 _
    exact h v' w' (by rw [flat_snoc]; exact h1) (Keep.grown h2 fun k e => e)
/-- nodes in memory of their own, from block B on -/
def NdX (B : Nat) (w : World) (v : Value) (ys : List No) : Prop :=
  w.ownsRow B 36 10 v ys.length (flat (ys.map (·.q))) ∧ ∀ y ∈ ys, w.ownsRow B 3 1 (.slice y.q.ne.1 y.q.ne.2.1 y.q.ne.2.2) y.nl.length (zi y.nl) ∧ w.ownsRow B 3 1 (.slice y.q.af.1 y.q.af.2.1 y.q.af.2.2) y.al.length (zi y.al)
theorem own_int_rd {w : World} {b : Nat} {s : Option Addr × Nat × Nat} {z : List Int} (h : w.ownsRow b 3 1 (.slice s.1 s.2.1 s.2.2) z.length (zi z)) (hl : z.length ≤ 1048576) : RdZ w.heap.size w s z ∧ (∀ T : Nat → Prop, (∀ k, T k → k < b) → Off T s) ∧ (s.1 = none → s.2.2 = 0) := by
  obtain ⟨sa, sn, sc⟩ := s
  rcases h.2 with ⟨e1, e2⟩ | ⟨g, cap, cur, e1, e2, e3, e4, e5, e6, e7⟩
  · injection e1 with e1 e1' e1''
    subst e1 e1' e1''
    exact ⟨⟨e2.symm, Nat.zero_le _, .inl rfl⟩, fun T _ => .inl rfl, fun _ => rfl⟩
  · injection e1 with e1 e1' e1''
    subst e1 e1' e1''
    refine ⟨⟨rfl, by simp only; omega, .inr ⟨g, 0, rfl, (Array.getElem?_eq_some_iff.1 e3).1, fun j x hj => ?_⟩⟩, fun T hT => .inr fun g' off e ht => ?_, fun e => by cases e⟩
    · have := h.cells (g := g) rfl j (.int .i64 x) (by simp [zi, hj])
      rw [Addr.add_mid] at this
      exact this
    · injection e with e
      injection e with e _
      subst e
      have := hT g ht
      omega
theorem NdX.rd {B : Nat} {w : World} {a : Option Addr} {n c : Nat} {ys : List No} (h : NdX B w (.slice a n c) ys) (hl : ys.length ≤ 20000) (hz : ∀ y ∈ ys, y.nl.length ≤ 1048576 ∧ y.al.length ≤ 1048576) : RdP w.heap.size w (a, n, c) ys ∧ ∀ T : Nat → Prop, (∀ k, T k → k < B) → Off T (a, n, c) ∧ ∀ y ∈ ys, Off T y.q.ne ∧ Off T y.q.af := by
  obtain ⟨h2, h3⟩ := h
  obtain ⟨a', c', e⟩ := ownsRow_shape h2
  injection e with e1 e2 e3
  subst e1; subst e2; subst e3
  refine ⟨⟨rfl, by simp only; omega, ?_, fun y hy => ⟨(own_int_rd (h3 y hy).1 (hz y hy).1).1, (own_int_rd (h3 y hy).2 (hz y hy).2).1⟩⟩, fun T hT => ⟨?_, fun y hy => ⟨(own_int_rd (h3 y hy).1 (hz y hy).1).2.1 T hT, (own_int_rd (h3 y hy).2 (hz y hy).2).2.1 T hT⟩⟩⟩
  · rcases h2.2 with ⟨e1, e2⟩ | ⟨g, cap, cur, e1, e2, e3, e4, e5, e6, e7⟩
    · left; exact e2
    · right
      injection e1 with e1 e1' e1''
      refine ⟨g, 0, e1, (Array.getElem?_eq_some_iff.1 e3).1, fun i x hx j u hu => ?_⟩
      have := flat_get (ys.map (·.q)) i j x.q u (by simp [hx]) hu
      rw [← e7, List.getElem?_take] at this
      split at this
      · rw [Nat.zero_add]; exact cell_blk e3 _ (by simpa using this)
      · cases this
  · rcases h2.2 with ⟨e1, e2⟩ | ⟨g, cap, cur, e1, e2, _⟩
    · exact .inl e2
    · refine .inr fun g' off e ht => ?_
      injection e1 with e1 _ _
      rw [e1] at e
      injection e with e
      injection e with e _
      subst e
      have := hT g ht
      omega
theorem NdX.keep {B : Nat} {S : Nat → Prop} {w w' : World} {v : Value} {ys : List No} (h : NdX B w v ys) (k : Keep S w w') (hS : ∀ i cs t, S i → w.heap[i]? = some (.cells cs t (0, 0)) → t ≠ 3 ∧ t ≠ 36) : NdX B w' v ys := by
  have far : ∀ {b : Nat} {e : TypeId} {sz : Nat} {u : Value} {m : Nat} {l : List Value}, (e = 3 ∨ e = 36) → w.ownsRow b e sz u m l → w'.ownsRow b e sz u m l := fun {b e sz u m l} he ho => ownsRow_keep ho k fun i hi hh => by
    rcases ho.2 with ⟨rfl, _⟩ | ⟨g, cap, cur, rfl, _, hg, _⟩
    · simp [Value.ownBlock] at hh
    · simp [Value.ownBlock] at hh
      subst hh
      have := hS _ _ _ hi hg
      rcases he with e | e
      · exact this.1 e
      · exact this.2 e
  exact ⟨far (.inr rfl) h.1, fun y hy => ⟨far (.inl rfl) (h.2 y hy).1, far (.inl rfl) (h.2 y hy).2⟩⟩
end Rn
end Go.Proofs.Ytiackejbpcjmeaa
