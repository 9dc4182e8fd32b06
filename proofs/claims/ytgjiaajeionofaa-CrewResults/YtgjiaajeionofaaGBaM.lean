/- A plan in memory of its own: what its making wants. -/
import Derived.Test.YtgjiaajeionofaaGRfS
import Derived.Deep.RegionHeld3
namespace Go.Proofs.Ytgjiaajeionofaa
namespace Rn
open Go.RowKit Gr

theorem row_far {w : World} {b : Nat} {v : Value} {n : Nat} {l : List Value} (h : w.ownsRow b 3 1 v n l) {A : Nat} {cs : Array Value} {t : TypeId} (hA : w.heap[A]? = some (.cells cs t (0, 0))) (ht : t ≠ 3) {i : Nat} (hi : v.ownBlock = some i) (e : i = A) : False := by
  subst e
  rcases h.2 with ⟨rfl, _⟩ | ⟨g, cap, cur, rfl, _, hg, _⟩
  · simp [Value.ownBlock] at hi
  · simp [Value.ownBlock] at hi
    subst hi
    rw [hg] at hA
    injection hA with hA
    injection hA with h1 h2 h3
    exact ht h2.symm
/-- numbers as cells -/
def zi (z : List Int) : List Value := z.map (Value.int .i64)
theorem zi_len (z : List Int) : (zi z).length = z.length := by simp [zi]
set_option maxRecDepth 100000 in
/-- a list behind a row of the call's own -/
theorem wp_appendZ {w : World} {ops : Array Oper} {rest : List Oper} {o : Oper} {a : Act} {Q : Exit → Act → World → Prop} (hgd : o.guard = none) (s x : Operand)
    (ho : o.op = .call { callee := .builtin .append, args := #[s, x], argTypes := #[37, 37] })
    (base B : Nat) (hs : a.eval s = .slice none 0 0) (t : Option Addr × Nat × Nat) (z : List Int) (hx : a.eval x = .slice t.1 t.2.1 t.2.2) (hz : RdZ B w t z) (hcap : t.1 = none → t.2.2 = 0) (hn : z.length ≤ 1048576) (hbase : base ≤ w.heap.size)
    (h : ∀ v' w', w'.ownsRow base 3 1 v' z.length (zi z) → Keep (fun _ => False) w w' → wpList Try.prog ops Q rest (a.put o.dst v') w') : wpList Try.prog ops Q (o :: rest) a w := by
  obtain ⟨i0, hi, hz0, hz1, hz2⟩ := info_parts info_int
  obtain ⟨ta, tn, tc⟩ := t
  have htn : tn = z.length := hz.1
  subst htn
  have hown : w.ownsRow base 3 1 (.slice none 0 0) 0 [] := World.ownsRow_nil _ _ _ _
  cases ta with
  | none =>
    have hz0' : z.length = 0 := by
      rcases hz.2.2 with h0 | ⟨g, off, e, _⟩
      · exact h0
      · cases e
    obtain rfl : z = [] := List.eq_nil_of_length_eq_zero hz0'
    have htc : tc = 0 := hcap rfl
    subst htc
    refine wpList_append_own_none hgd s x 37 ho base 3 i0 1 Try.underlying37 hi _ 0 [] hs hown hx ?_
    exact h _ w hown (Keep.refl _ _)
  | some ad =>
    refine wpList_append_own2 hgd s x 37 ho base 3 i0 (.int .i64 0) 1 8 Try.underlying37 hi hz0 hz1 hz2 rfl (by decide) _ 0 [] hs hown ad z.length tc (zi z) hx (by rw [zi_len]; omega) (fun j u hu => ?_) (fun u hu => ?_) (by unfold maxLen; omega) (by omega) hbase ?_
    · simp only [zi, List.getElem?_map] at hu
      obtain ⟨y, hy, rfl⟩ := Option.map_eq_some_iff.1 hu
      rcases hz.2.2 with h0 | ⟨g, off, e, _, hc⟩
      · have := (List.getElem?_eq_some_iff.1 hy).1
        simp only at h0
        omega
      · injection e with e
        subst e
        rw [Addr.add_mid]
        exact hc j y hy
    · simp only [zi, List.mem_map] at hu
      obtain ⟨x, _, rfl⟩ := hu
      rfl
    · intro v' w' h1 h2 _
      refine h v' w' ?_ (Keep.grown h2 fun k e => by simp [Value.ownBlock] at e)
      simpa using h1
def flat (qs : List Nd) : List Value := (qs.map Nd.row).flatten
theorem flat_snoc (qs : List Nd) (q : Nd) : flat (qs ++ [q]) = flat qs ++ q.row := by simp [flat]
theorem flat_get (qs : List Nd) (i j : Nat) (q : Nd) (u : Value) (hq : qs[i]? = some q) (hu : q.row[j]? = some u) : (flat qs)[i * 10 + j]? = some u := by
  induction qs generalizing i with
  | nil => simp at hq
  | cons p qs ih =>
    have hl : ∀ q : Nd, q.row.length = 10 := fun q => rfl
    have e : flat (p :: qs) = p.row ++ flat qs := by simp [flat]
    have hj : j < 10 := by rw [← hl q]; exact (List.getElem?_eq_some_iff.1 hu).1
    rw [e]
    cases i with
    | zero =>
      simp only [List.getElem?_cons_zero, Option.some.injEq] at hq
      subst hq
      rw [Nat.zero_mul, Nat.zero_add, List.getElem?_append_left (by rw [hl]; omega)]
      exact hu
    | succ i =>
      simp only [List.getElem?_cons_succ] at hq
      rw [List.getElem?_append_right (by rw [hl]; omega), hl, show (i + 1) * 10 + j - 10 = i * 10 + j by omega]
      exact ih i hq
/-- a node without its places in memory -/
def er (x : No) : No := ⟨{ x.q with ne := (none, 0, 0), af := (none, 0, 0) }, x.nl, x.al⟩
theorem info_node : (Try.prog.info? 39).map (fun i => (i.zero, i.size, i.bytes)) = some (some (.agg #[.string ⟨#[]⟩, .int .i64 0, .int .i64 0, .int .i64 0, .int .i64 0, .int .i64 0, .int .i64 0, .int .i64 0, .slice none 0 0, .slice none 0 0]), 10, 120) := by kernel_rfl
theorem row_one' (q : Nd) : ∀ u ∈ q.row, u.oneCell' = true := fun u hu => by
  simp [Nd.row] at hu
  rcases hu with rfl | rfl | rfl | rfl | rfl | rfl | rfl | rfl | rfl | rfl <;> rfl
/-- a node more behind a row of the call's own -/
theorem wp_append_node {w : World} {ops : Array Oper} {rest : List Oper} {o : Oper} {a : Act} {Q : Exit → Act → World → Prop} (hgd : o.guard = none) (s x : Operand)
    (ho : o.op = .call { callee := .builtin .append, args := #[s, x], argTypes := #[22, 22] })
    (base : Nat) (v : Value) (qs : List Nd) (hs : a.eval s = v) (hown : w.ownsRow base 39 10 v qs.length (flat qs)) (B : Nat) (q : Nd) (hx : a.eval x = .slice (some ⟨B, 0, none⟩) 1 1) (hq : w.heap[B]? = some (.cells q.row.toArray 39 (0, 0))) (hn : qs.length ≤ 20000) (hbase : base ≤ w.heap.size)
    (h : ∀ v' w', w'.ownsRow base 39 10 v' (qs.length + 1) (flat (qs ++ [q])) → Keep (fun k => v.ownBlock = some k) w w' → wpList Try.prog ops Q rest (a.put o.dst v') w') : wpList Try.prog ops Q (o :: rest) a w := by
  obtain ⟨i0, hi, hz0, hz1, hz2⟩ := info_parts info_node
  refine wpList_append_own2 hgd s x 22 ho base 39 i0 _ 10 120 Try.underlying22 hi hz0 hz1 hz2 rfl (by decide) v qs.length _ hs hown ⟨B, 0, none⟩ 1 1 q.row hx rfl (fun j u hu => ?_) (row_one' q) (by unfold maxLen; omega) (by omega) hbase ?_
  · rw [Addr.add_mid, Nat.zero_add]
    exact cell_blk hq j (by simpa using hu)
  · intro v' w' h1 h2 _
    exact h v' w' (by rw [flat_snoc]; exact h1) (Keep.grown h2 fun k e => e)
/-- nodes in memory of their own, from block B on -/
def NdX (B : Nat) (w : World) (v : Value) (ys : List No) : Prop :=
  w.ownsRow B 39 10 v ys.length (flat (ys.map (·.q))) ∧ ∀ y ∈ ys, w.ownsRow B 3 1 (.slice y.q.ne.1 y.q.ne.2.1 y.q.ne.2.2) y.nl.length (zi y.nl) ∧ w.ownsRow B 3 1 (.slice y.q.af.1 y.q.af.2.1 y.q.af.2.2) y.al.length (zi y.al)
theorem own_int_rd {w : World} {b : Nat} {s : Option Addr × Nat × Nat} {z : List Int} (h : w.ownsRow b 3 1 (.slice s.1 s.2.1 s.2.2) z.length (zi z)) (hl : z.length ≤ 1048576) : RdZ w.heap.size w s z := by
  obtain ⟨sa, sn, sc⟩ := s
  rcases h.2 with ⟨e1, e2⟩ | ⟨g, cap, cur, e1, e2, e3, e4, e5, e6, e7⟩
  · injection e1 with e1 e1' e1''
    subst e1 e1' e1''
    exact ⟨e2.symm, Nat.zero_le _, .inl rfl⟩
  · injection e1 with e1 e1' e1''
    subst e1 e1' e1''
    refine ⟨rfl, by simp only; omega, .inr ⟨g, 0, rfl, (Array.getElem?_eq_some_iff.1 e3).1, fun j x hj => ?_⟩⟩
    have := h.cells (g := g) rfl j (.int .i64 x) (by simp [zi, hj])
    rw [Addr.add_mid] at this
    exact this
theorem NdX.rd {B : Nat} {w : World} {a : Option Addr} {n c : Nat} {ys : List No} (h : NdX B w (.slice a n c) ys) (hl : ys.length ≤ 20000) (hz : ∀ y ∈ ys, y.nl.length ≤ 1048576 ∧ y.al.length ≤ 1048576) : RdP w.heap.size w (a, n, c) ys := by
  obtain ⟨h2, h3⟩ := h
  obtain ⟨a', c', e⟩ := ownsRow_shape h2
  injection e with e1 e2 e3
  subst e1; subst e2; subst e3
  refine ⟨rfl, by simp only; omega, ?_, fun y hy => ⟨own_int_rd (h3 y hy).1 (hz y hy).1, own_int_rd (h3 y hy).2 (hz y hy).2⟩⟩
  rcases h2.2 with ⟨e1, e2⟩ | ⟨g, cap, cur, e1, e2, e3, e4, e5, e6, e7⟩
  · left; exact e2
  · right
    injection e1 with e1 e1' e1''
    refine ⟨g, 0, e1, (Array.getElem?_eq_some_iff.1 e3).1, fun i x hx j u hu => ?_⟩
    have := flat_get (ys.map (·.q)) i j x.q u (by simp [hx]) hu
    rw [← e7, List.getElem?_take] at this
    split at this
    · rw [Nat.zero_add]; exact cell_blk e3 _ (by simpa using this)
    · cases this
theorem NdX.keep {B : Nat} {S : Nat → Prop} {w w' : World} {v : Value} {ys : List No} (h : NdX B w v ys) (k : Keep S w w') (hS : ∀ i cs t, S i → w.heap[i]? = some (.cells cs t (0, 0)) → t ≠ 3 ∧ t ≠ 39) : NdX B w' v ys := by
  have far : ∀ {b : Nat} {e : TypeId} {sz : Nat} {u : Value} {m : Nat} {l : List Value}, (e = 3 ∨ e = 39) → w.ownsRow b e sz u m l → w'.ownsRow b e sz u m l := fun {b e sz u m l} he ho => ownsRow_keep ho k fun i hi hh => by
    rcases ho.2 with ⟨rfl, _⟩ | ⟨g, cap, cur, rfl, _, hg, _⟩
    · simp [Value.ownBlock] at hh
    · simp [Value.ownBlock] at hh
      subst hh
      have := hS _ _ _ hi hg
      rcases he with e | e
      · exact this.1 e
      · exact this.2 e
  exact ⟨far (.inr rfl) h.1, fun y hy => ⟨far (.inl rfl) (h.2 y hy).1, far (.inl rfl) (h.2 y hy).2⟩⟩
theorem info_plan : (Try.prog.info? 24).map (·.size) = some 3 := by kernel_rfl
def put3 (w : World) (g : Nat) (a b c : Value) : World := ((w.setCell ⟨g, 0, none⟩ a).setCell ⟨g, 1, none⟩ b).setCell ⟨g, 2, none⟩ c
theorem put3_keep (w : World) (g : Nat) (a b c : Value) : Keep (fun i => i = g) w (put3 w g a b c) := ((keep_cell w g 0 a).more (keep_cell _ g 1 b)).more (keep_cell _ g 2 c)
theorem put3_blk {w : World} {g : Nat} {x0 x1 x2 : Value} {t : TypeId} (h : w.heap[g]? = some (.cells #[x0, x1, x2] t (0, 0))) (a b c : Value) : (put3 w g a b c).heap[g]? = some (.cells #[a, b, c] t (0, 0)) := by
  unfold put3
  rw [set_blk (set_blk (set_blk h 0 a) 1 b) 2 c]
  rfl
theorem res_plan {fn : Func} {p : Tmp} (h : fn.results = #[.cell p 24]) (tmps : Array Value) (w : World) (g : Nat) (a b c : Value) (hp : tmps.getD p undef = .pointer (some ⟨g, 0, none⟩)) (hg : w.heap[g]? = some (.cells #[a, b, c] 24 (0, 0))) :
    (results fn tmps).run Try.prog w = .ok (.agg #[a, b, c]) w :=
  results_cell_row h tmps w g 24 #[a, b, c] (0, 0) _ hp hg Try.underlying24 rfl (by rw [info_plan]; rfl)
/-- the lists of a plan's nodes, as they came in -/
def CapP (xs : List No) : Prop := ∀ x ∈ xs, (x.q.ne.1 = none → x.q.ne.2.2 = 0) ∧ (x.q.af.1 = none → x.q.af.2.2 = 0)
/-- what stands between two rounds: w0: when the call began; C: where the new plan lies -/
def PlI (w0 : World) (xs : List No) (nm : ByteArray) (dl : Int) (C i : Nat) (wr : World) : Prop :=
  ∃ (va : Option Addr) (vc : Nat) (ys : List No), ys.length = i ∧ wr.heap[C]? = some (.cells #[.string nm, .int .i64 dl, .slice va i vc] 24 (0, 0)) ∧ NdX w0.heap.size wr (.slice va i vc) ys ∧ ys.map er = (xs.take i).map er ∧ Keep (fun k => w0.heap.size ≤ k) w0 wr ∧ w0.heap.size ≤ C
/-- a round's end: a node more -/
theorem PlI.step {w0 w5 w6 : World} {xs : List No} {nm : ByteArray} {dl : Int} {C i : Nat} {va : Option Addr} {vc : Nat} {ys : List No} {x : No} (hx : xs[i]? = some x) (hyl : ys.length = i) (hye : ys.map er = (xs.take i).map er) (hK : Keep (fun k => w0.heap.size ≤ k) w0 w5) (hC : w0.heap.size ≤ C)
    (hCb : w5.heap[C]? = some (.cells #[.string nm, .int .i64 dl, .slice va i vc] 24 (0, 0))) (hN : NdX w0.heap.size w5 (.slice va i vc) ys) (q : Nd) (ne af : Option Addr × Nat × Nat) (hq : q = { x.q with ne := ne, af := af })
    (h1 : w5.ownsRow w0.heap.size 3 1 (.slice ne.1 ne.2.1 ne.2.2) x.nl.length (zi x.nl)) (h2 : w5.ownsRow w0.heap.size 3 1 (.slice af.1 af.2.1 af.2.2) x.al.length (zi x.al)) (na : Option Addr) (nc : Nat)
    (hrow : w6.ownsRow w0.heap.size 39 10 (.slice na (i + 1) nc) (i + 1) (flat (ys.map (·.q) ++ [q]))) (hk6 : Keep (fun k => (Value.slice va i vc).ownBlock = some k) w5 w6) :
    w6.heap[C]? = some (.cells #[.string nm, .int .i64 dl, .slice va i vc] 24 (0, 0)) ∧ PlI w0 xs nm dl C (i + 1) (w6.setCell ⟨C, 2, none⟩ (.slice na (i + 1) nc)) := by
  have blk : ∀ {j : Nat}, (Value.slice va i vc).ownBlock = some j → ∃ cur, w5.heap[j]? = some (.cells cur 39 (0, 0)) ∧ w0.heap.size ≤ j := fun {j} hj => by
    rcases hN.1.2 with ⟨e, _⟩ | ⟨g, cap, cur, e, hb, hg, _⟩
    · rw [e] at hj; simp [Value.ownBlock] at hj
    · rw [e] at hj
      simp [Value.ownBlock] at hj
      subst hj
      exact ⟨cur, hg, hb⟩
  have hC6 := hk6.blk hCb (fun e => by
    obtain ⟨cur, hg, _⟩ := blk e
    rw [hCb] at hg
    injection hg with hg
    injection hg with _ hg
    exact absurd hg (by decide))
  have kc := keep_cell w6 C 2 (.slice na (i + 1) nc)
  have mv : ∀ {u : Value} {m : Nat} {l : List Value}, w5.ownsRow w0.heap.size 3 1 u m l → (w6.setCell ⟨C, 2, none⟩ (.slice na (i + 1) nc)).ownsRow w0.heap.size 3 1 u m l := fun {u m l} ho => by
    have ho6 := ownsRow_keep ho hk6 (fun j hj hh => by
      obtain ⟨cur, hg, _⟩ := blk hj
      exact row_far ho hg (by decide) hh rfl)
    exact ownsRow_keep ho6 kc (fun j hj hh => row_far ho6 hC6 (by decide) hh hj)
  have hrow' : (w6.setCell ⟨C, 2, none⟩ (.slice na (i + 1) nc)).ownsRow w0.heap.size 39 10 (.slice na (i + 1) nc) (i + 1) (flat (ys.map (·.q) ++ [q])) := ownsRow_keep hrow kc (fun j hj hh => by
    rcases hrow.2 with ⟨e, _⟩ | ⟨g, cap, cur, e, hb, hg, _⟩
    · rw [e] at hh; simp [Value.ownBlock] at hh
    · rw [e] at hh
      simp [Value.ownBlock] at hh
      subst hh
      rw [show g = C from hj, hC6] at hg
      injection hg with hg
      injection hg with _ hg
      exact absurd hg (by decide))
  refine ⟨hC6, na, nc, ys ++ [⟨q, x.nl, x.al⟩], by simp [hyl], set_blk hC6 2 _, ⟨?_, fun y hy => ?_⟩, ?_, ?_, hC⟩
  · rw [List.map_append, List.length_append, hyl]
    exact hrow'
  · rcases List.mem_append.1 hy with hy | hy
    · exact ⟨mv (hN.2 y hy).1, mv (hN.2 y hy).2⟩
    · rw [List.mem_singleton] at hy
      subst hy
      rw [hq]
      exact ⟨mv h1, mv h2⟩
  · rw [List.map_append, hye, Gr.take_snoc xs i x hx, List.map_append]
    congr 1
    rw [hq]
    rfl
  · exact (hK.more (hk6.mono fun j hj => (blk hj).choose_spec.2)).more (kc.mono fun j hj => by omega)

theorem NdX.keepD {B D : Nat} {w w' : World} {v : Value} {ys : List No} {cs : Array Value} (h : NdX B w v ys) (k : Keep (fun j => j = D) w w') (hD : w.heap[D]? = some (.cells cs 39 (0, 0))) (hv : v.ownBlock ≠ some D) : NdX B w' v ys :=
  ⟨ownsRow_keep h.1 k (fun j hj hh => hv (hj ▸ hh)), fun y hy => ⟨ownsRow_keep (h.2 y hy).1 k (fun j hj hh => row_far (h.2 y hy).1 hD (by decide) hh hj), ownsRow_keep (h.2 y hy).2 k (fun j hj hh => row_far (h.2 y hy).2 hD (by decide) hh hj)⟩⟩
end Rn
end Go.Proofs.Ytgjiaajeionofaa
