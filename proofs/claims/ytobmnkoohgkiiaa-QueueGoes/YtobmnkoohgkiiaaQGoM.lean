/- QueueGoes: what stands between two rounds of the range over All. -/
import Derived.Test.YtobmnkoohgkiiaaQAs1
import Derived.Test.YtobmnkoohgkiiaaQFil
import Derived.Test.YtobmnkoohgkiiaaQInt
import Derived.Test.YtobmnkoohgkiiaaWLst
import Derived.Test.YtobmnkoohgkiiaaRLst
namespace Go.Proofs.Ytobmnkoohgkiiaa
namespace Qu
open Go.RowKit Go.Sort

/-- a region of a round that only reads -/
theorem wpIn_region_quiet {P : Program} {id lr n : Nat} {Q : Exit → Act → World → Prop} {a : Act} {w : World} {l : List Oper} (hm : P.follows .mixedOrders = true) (hB : Region.lexB .any l.toArray = true) (hd : noDefer l = true) (hQ : ¬ LetsOut Q)
    (h : wpQuiet P l.toArray (fun w' => ∃ p : Regrown, w' = grow (redrawn w p.d) p.os) (fun a' => ∀ w', (∃ p : Regrown, w' = grow (redrawn w p.d) p.os) → Q .normal a' w') l a) : (Code.region id l.toArray true).wpIn (Fence.wide.inRound lr) n P Q a w := by
  refine wpIn_region_any hm (wpAny_round (noDefer_of hd) hQ _ _ _ _ ?_)
  simp only [Region.lexB, Bool.and_eq_true] at hB
  refine wpAny_of_quiet (C := fun w' => ∃ p : Regrown, w' = grow (redrawn w p.d) p.os) (Q := fun a' => ∀ w', (∃ p : Regrown, w' = grow (redrawn w p.d) p.os) → Q .normal a' w') (fun _ w' hw' h => h w' hw') _ _ _ _ ⟨⟨w.drawn + 1, #[]⟩, by rw [grow_empty]; rfl⟩ ?_
  have := wpAnyQ_lex (P := P) (C := fun w' => ∃ p : Regrown, w' = grow (redrawn w p.d) p.os) (md := .any) hB.1 l 0 (Array.replicate l.toArray.size false) a (by simp) (by simpa using hB.2) h
  simpa using this
theorem res_bool {fn : Func} {p : Tmp} (h : fn.results = #[.cell p 4]) (tmps : Array Value) (w : World) (g : Nat) (b : Bool) (hp : tmps.getD p undef = .pointer (some ⟨g, 0, none⟩)) (hc : w.cell? ⟨g, 0, none⟩ = some (.bool b)) : (results fn tmps).run Try.prog w = .ok (.bool b) w := by
  have hp' : tmps[p]?.getD undef = .pointer (some ⟨g, 0, none⟩) := by simpa using hp
  simp [results, h, hp', asAddr, hc, go_sem]
theorem named_actIn {F : Fence} {n : Nat} {P : Program} {c : Code} {Q : Exit → Act → World → Prop} {a : Act} {w : World} (h : ∀ A : Act, A = a → c.wpIn F n P Q A w) : c.wpIn F n P Q a w := h a rfl
theorem named_act {P : Program} {c : Code} {Q : Exit → Act → World → Prop} {a : Act} {w : World} (h : ∀ A : Act, A = a → c.wp P Q A w) : c.wp P Q a w := h a rfl

theorem ownsRow_kq {w w' : World} {base : Nat} {e : TypeId} {size : Nat} {v : Value} {n : Nat} {xs : List Value} {T : Nat → Prop} (h : w.ownsRow base e size v n xs) (hk : Keep T w w') (hT : ∀ g, v.ownBlock = some g → ¬ T g) : w'.ownsRow base e size v n xs := by
  refine ⟨h.1, ?_⟩
  rcases h.2 with h' | ⟨g, cap, cur, h1, h2, h3, h4⟩
  · exact .inl h'
  · subst h1
    exact .inr ⟨g, cap, cur, rfl, h2, hk.blk h3 (hT g rfl), h4⟩
theorem pairs_at : ∀ {r : List (Nat × Int)} {i : Nat} {e : Nat × Int}, r[i]? = some e → (pairs r)[i * 2]? = some (e.1 : Int) ∧ (pairs r)[i * 2 + 1]? = some e.2
  | [], _, _, h => by simp at h
  | x :: r, 0, e, h => by
    simp at h
    subst h
    exact ⟨rfl, rfl⟩
  | x :: r, i + 1, e, h => by
    have ih := pairs_at (r := r) (i := i) (e := e) (by simpa using h)
    have e1 : pairs (x :: r) = (x.1 : Int) :: x.2 :: pairs r := rfl
    rw [e1, show (i + 1) * 2 = i * 2 + 1 + 1 by omega]
    simpa using ih
/-- the queue in blocks of S1 or from b + 2 on, its last number at most N -/
def Que (S1 : Nat → Prop) (b P N : Nat) (W : World) : Prop := ∃ s S, QAt KI S W P s ∧ (∀ k, S k → S1 k ∨ b + 2 ≤ k) ∧ s.last ≤ N
/-- between two rounds -/
structure GoI (wR : World) (S1 : Nat → Prop) (P Bn N k : Nat) (W : World) : Prop where
  nb : W.heap[Bn]? = some (.cells #[.int .i64 (k : Nat)] 3 (0, 0))
  qu : Que S1 wR.heap.size P N W
  kp : Keep (fun i => S1 i ∨ i = Bn) wR W
section
variable {wR W W' : World} {S1 : Nat → Prop} {P Bn N k b : Nat}
theorem Que.stay (h : Que S1 b P N W) {T : Nat → Prop} (kk : Keep T W W') (hT : ∀ i, T i → ¬ S1 i ∧ (b + 2 ≤ i → W.heap.size ≤ i)) : Que S1 b P N W' := by
  obtain ⟨s, S, h1, h2, h3⟩ := h
  refine ⟨s, S, h1.stay kk fun i hi hS ht => ?_, h2, h3⟩
  rcases h2 i hS with h5 | h5
  · exact (hT i ht).1 h5
  · have := (hT i ht).2 h5
    omega
theorem Que.new (h : Que S1 b P N W) (kk : Keep (fun _ => False) W W') : Que S1 b P N W' := h.stay kk fun _ f => f.elim
theorem GoI.new (h : GoI wR S1 P Bn N k W) (kk : Keep (fun _ => False) W W') : GoI wR S1 P Bn N k W' :=
  ⟨kk.blk h.nb fun f => f, h.qu.new kk, h.kp.more (kk.mono fun _ f => f.elim)⟩
theorem GoI.up {M : Nat} (h : GoI wR S1 P Bn N k W) (hM : N ≤ M) : GoI wR S1 P Bn M k W := ⟨h.nb, by obtain ⟨s, S, h1, h2, h3⟩ := h.qu; exact ⟨s, S, h1, h2, Nat.le_trans h3 hM⟩, h.kp⟩
theorem GoI.put (h : GoI wR S1 P Bn N k W) (hB : Bn < wR.heap.size) (hS : ∀ i, S1 i → i < wR.heap.size) (o : Obj) : GoI wR S1 P Bn N k (W.putObj (wR.heap.size + 1) o) := by
  have hk := keep_put W (wR.heap.size + 1) o
  refine ⟨hk.blk h.nb (by show ¬ (Bn = wR.heap.size + 1); omega), h.qu.stay hk fun i e => ⟨fun h1 => ?_, fun h2 => ?_⟩, h.kp.trans hk fun i e => .inr (by omega)⟩
  · have := hS i h1
    have e' : i = wR.heap.size + 1 := e
    omega
  · have e' : i = wR.heap.size + 1 := e
    omega
/-- at's box one more -/
theorem GoI.inc (h : GoI wR S1 P Bn N k W) (hB : Bn < wR.heap.size) (hB1 : ¬ S1 Bn) : GoI wR S1 P Bn N (k + 1) (W.setCell ⟨Bn, 0, none⟩ (.int .i64 ((k + 1 : Nat) : Int))) := by
  have kc := keep_cell W Bn 0 (.int .i64 ((k + 1 : Nat) : Int))
  refine ⟨by rw [set_blk h.nb 0 _]; rfl, h.qu.stay kc fun i e => ⟨fun h1 => ?_, fun h2 => ?_⟩, h.kp.more (kc.mono fun i e => .inr e)⟩
  · have e' : i = Bn := e
    rw [e'] at h1; exact hB1 h1
  · have e' : i = Bn := e
    omega
/-- a step in a round -/
theorem GoI.stepped (h : GoI wR S1 P Bn N k W) (hB : Bn < wR.heap.size) (hB1 : ¬ S1 Bn) (hsz : wR.heap.size + 2 ≤ W.heap.size) (hN : N < 9007199254740990) (x : Sp) (hx : Sp.In x) :
    Calls Try.prog 10 #[.pointer (some ⟨P, 0, none⟩), .agg #[.int .i64 x.1, .int .i64 x.2.1, .int .i64 x.2.2]] W fun e w2 => (∃ v, e = .returned v) ∧ GoI wR S1 P Bn (N + 1) k w2 ∧ Keep (fun i => S1 i ∨ wR.heap.size + 2 ≤ i) W w2 := by
  obtain ⟨s, S, h1, h2, h3⟩ := h.qu
  refine (stepped_any (S := fun i => S i ∧ i < W.heap.size) x.1 x.2.1 x.2.2 W h1.low (fun i e => e.2) hx.2.1.1 hx.2.1.2 hx.2.2.1 hx.2.2.2 (by omega)).mono ?_
  rintro e w2 ⟨a, c, rfl, _, hq, hk⟩
  have hSB : ¬ (S Bn ∧ Bn < W.heap.size) := fun e => (h2 Bn e.1).elim hB1 fun h => by omega
  refine ⟨⟨_, rfl⟩, ⟨hk.blk h.nb hSB, ⟨_, _, hq, fun i hi => ?_, ?_⟩, h.kp.trans hk fun i hi => ?_⟩, hk.mono fun i hi => h2 i hi.1⟩
  · rcases hi with h5 | h5
    · exact h2 i h5.1
    · exact .inr (by omega)
  · have := stS_last s (pickV x.2.1 8) x.2.2; omega
  · rcases h2 i hi.1 with h5 | h5
    · exact .inl (.inl h5)
    · exact .inr (by omega)
end
/-- between two rounds of the inner one -/
structure InI (w0 : World) (Bi j : Nat) (V : World) : Prop where
  nb : V.heap[Bi]? = some (.cells #[.int .i64 (j : Nat)] 3 (0, 0))
  kp : Keep (fun i => i = Bi) w0 V
section
variable {w0 V V' : World} {Bi j : Nat}
theorem InI.new (h : InI w0 Bi j V) (kk : Keep (fun _ => False) V V') : InI w0 Bi j V' := ⟨kk.blk h.nb fun f => f, h.kp.more (kk.mono fun _ f => f.elim)⟩
theorem InI.put (h : InI w0 Bi j V) (hB : Bi < w0.heap.size) (o : Obj) : InI w0 Bi j (V.putObj w0.heap.size o) := by
  have hk := keep_put V w0.heap.size o
  exact ⟨hk.blk h.nb (by show ¬ (Bi = w0.heap.size); omega), h.kp.trans hk fun i e => .inr (by have e' : i = _ := e; omega)⟩
theorem InI.inc (h : InI w0 Bi j V) : InI w0 Bi (j + 1) (V.setCell ⟨Bi, 0, none⟩ (.int .i64 ((j + 1 : Nat) : Int))) :=
  ⟨by rw [set_blk h.nb 0 _]; rfl, h.kp.more (keep_cell V Bi 0 _)⟩
end
end Qu
end Go.Proofs.Ytobmnkoohgkiiaa
