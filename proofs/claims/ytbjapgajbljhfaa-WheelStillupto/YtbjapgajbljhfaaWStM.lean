/- WheelStill: what stands between two rounds of the range over All. -/
import Derived.Test.YtbjapgajbljhfaaWFdM
import Derived.Test.YtbjapgajbljhfaaWPls
import Derived.Test.YtbjapgajbljhfaaWLsd
namespace Go.Proofs.Ytbjapgajbljhfaa
namespace Wh
open Go.RowKit Go.Lib Go.Sort Go.Shelf

/-- a region of a round that only reads -/
theorem wpIn_region_quiet {P : Program} {id lr n : Nat} {Q : Exit → Act → World → Prop} {a : Act} {w : World} {l : List Oper} (hm : P.follows .mixedOrders = true) (hB : Region.lexB .any l.toArray = true) (hd : noDefer l = true) (hQ : ¬ LetsOut Q)
    (h : wpQuiet P l.toArray (fun w' => ∃ p : Regrown, w' = grow (redrawn w p.d) p.os) (fun a' => ∀ w', (∃ p : Regrown, w' = grow (redrawn w p.d) p.os) → Q .normal a' w') l a) : (Code.region id l.toArray true).wpIn (Fence.wide.inRound lr) n P Q a w := by
  refine wpIn_region_any hm (wpAny_round (noDefer_of hd) hQ _ _ _ _ ?_)
  simp only [Region.lexB, Bool.and_eq_true] at hB
  refine wpAny_of_quiet (C := fun w' => ∃ p : Regrown, w' = grow (redrawn w p.d) p.os) (Q := fun a' => ∀ w', (∃ p : Regrown, w' = grow (redrawn w p.d) p.os) → Q .normal a' w') (fun _ w' hw' h => h w' hw') _ _ _ _ ⟨⟨w.drawn + 1, #[]⟩, by rw [grow_empty]; rfl⟩ ?_
  have := wpAnyQ_lex (P := P) (C := fun w' => ∃ p : Regrown, w' = grow (redrawn w p.d) p.os) (md := .any) hB.1 l 0 (Array.replicate l.toArray.size false) a (by simp) (by simpa using hB.2) h
  simpa using this

def Ty (s : St) : Prop := ∀ id ∈ s.ids, ∃ y1, s.what id = .int .i64 y1
theorem Ty.add {s : St} (h : Ty s) (d : Nat) (y : Int) : Ty (s.add d (.int .i64 y)) := fun id hid => by
  by_cases e : id = s.last + 1
  · exact ⟨y, by simp [St.add, updV, e]⟩
  · rcases List.mem_append.1 (show id ∈ s.ids ++ [s.last + 1] from hid) with h1 | h1
    · obtain ⟨y1, hy⟩ := h id h1
      exact ⟨y1, by simp [St.add, updV, e, hy]⟩
    · exact absurd (List.mem_singleton.1 h1) e
theorem Ty.del {s : St} (h : Ty s) (id : Nat) : Ty (s.del id) := fun j hj => h j (List.mem_filter.1 hj).1
theorem Ty.go {s : St} (h : Ty s) (to : Nat) : Ty (s.go to) := h
theorem Ty.none {s s' : St} {to : Nat} (h : Ty s) (hn : NextNone s to s') : Ty s' ∧ s'.last = s.last := by
  obtain ⟨_, rfl⟩ := hn
  exact ⟨h.go to, rfl⟩
theorem Ty.some {s s' : St} {to id : Nat} (h : Ty s) (hn : NextSome s to id s') : Ty s' ∧ s'.last = s.last := by
  obtain ⟨_, _, _, rfl⟩ := hn
  exact ⟨(h.del id).go _, rfl⟩

theorem own_blk {w w' : World} {base : Nat} {e : TypeId} {size : Nat} {v : Value} {n : Nat} {xs : List Value} (h : w.ownsRow base e size v n xs) {T : Nat → Prop} (hk : Keep T w w') (hT : ∀ g, v.ownBlock = some g → ¬ T g) : w'.ownsRow base e size v n xs :=
  ⟨h.1, h.2.imp (fun x => x) fun ⟨g, cap, cur, h1, h2, h3, h4⟩ => ⟨g, cap, cur, h1, h2, hk.blk h3 (hT g (by rw [h1]; rfl)), h4⟩⟩
/-- the wheel in blocks of S1 or from b + 2 on, its last number at most N -/
def Whl (S1 : Nat → Prop) (b P N : Nat) (W : World) : Prop := ∃ s S, WAt 75 80 S W P s ∧ (∀ k, S k → S1 k ∨ b + 2 ≤ k) ∧ s.last ≤ N ∧ Ty s
/-- between two rounds -/
structure StI (wR : World) (S1 : Nat → Prop) (P Bn n1 n2 : Nat) (pre : List Nat) (W : World) : Prop where
  nb : W.heap[Bn]? = some (.cells #[.int .i64 (pre.length : Nat)] 3 (0, 0))
  wh : Whl S1 wR.heap.size P (n1 + min pre.length n2) W
  kp : Keep (fun k => S1 k ∨ k = Bn) wR W
section
variable {wR W W' : World} {S1 : Nat → Prop} {P Bn n1 n2 b N : Nat} {pre : List Nat}
theorem Whl.stay (h : Whl S1 b P N W) {T : Nat → Prop} (k : Keep T W W') (hT : ∀ i, T i → ¬ S1 i ∧ (b + 2 ≤ i → W.heap.size ≤ i)) : Whl S1 b P N W' := by
  obtain ⟨s, S, h1, h2, h3, h4⟩ := h
  refine ⟨s, S, h1.stay k fun i hi hS ht => ?_, h2, h3, h4⟩
  rcases h2 i hS with h5 | h5
  · exact (hT i ht).1 h5
  · have := (hT i ht).2 h5
    omega
theorem Whl.new (h : Whl S1 b P N W) (k : Keep (fun _ => False) W W') : Whl S1 b P N W' := h.stay k fun _ f => f.elim
theorem StI.new (h : StI wR S1 P Bn n1 n2 pre W) (k : Keep (fun _ => False) W W') : StI wR S1 P Bn n1 n2 pre W' :=
  ⟨k.blk h.nb fun f => f, h.wh.new k, h.kp.more (k.mono fun _ f => f.elim)⟩
theorem StI.put (h : StI wR S1 P Bn n1 n2 pre W) (hB : Bn < wR.heap.size) (hS : ∀ k, S1 k → k < wR.heap.size) (o : Obj) : StI wR S1 P Bn n1 n2 pre (W.putObj (wR.heap.size + 1) o) := by
  have hk := keep_put W (wR.heap.size + 1) o
  refine ⟨hk.blk h.nb (by show ¬ (Bn = wR.heap.size + 1); omega), h.wh.stay hk fun i e => ⟨fun h1 => ?_, fun h2 => ?_⟩, h.kp.trans hk fun k e => .inr (by omega)⟩
  · have := hS i h1
    have e' : i = wR.heap.size + 1 := e
    omega
  · have e' : i = wR.heap.size + 1 := e
    omega
/-- the wheel turned, and n's box one more -/
theorem StI.step {S : Nat → Prop} {s : St} {w2 : World} (h : StI wR S1 P Bn n1 n2 pre W) (x : Nat) (hS : ∀ k, S k → S1 k ∨ wR.heap.size + 2 ≤ k) (hB : Bn < wR.heap.size) (hB1 : ¬ S1 Bn) (hsz : wR.heap.size + 2 ≤ W.heap.size)
    (k : Keep S W w2) (hw : WAt 75 80 (fun k => S k ∨ W.heap.size ≤ k) w2 P s) (hl : s.last ≤ n1 + min (pre.length + 1) n2) (ht : Ty s) :
    w2.heap[Bn]? = some (.cells #[.int .i64 (pre.length : Nat)] 3 (0, 0)) ∧ StI wR S1 P Bn n1 n2 (pre ++ [x]) (w2.setCell ⟨Bn, 0, none⟩ (.int .i64 ((pre.length + 1 : Nat) : Int))) ∧ Keep (fun k => S1 k ∨ k = Bn ∨ wR.heap.size + 2 ≤ k) W (w2.setCell ⟨Bn, 0, none⟩ (.int .i64 ((pre.length + 1 : Nat) : Int))) := by
  have hSB : ¬ S Bn := fun e => (hS Bn e).elim hB1 fun h => by omega
  have b2 := k.blk h.nb hSB
  have kc := keep_cell w2 Bn 0 (.int .i64 ((pre.length + 1 : Nat) : Int))
  refine ⟨b2, ⟨?_, ⟨s, _, hw.stay kc fun i _ hi e => ?_, fun i hi => ?_, by rw [List.length_append]; exact hl, ht⟩, ?_⟩, ?_⟩
  · rw [set_blk b2 0 _, List.length_append]
    rfl
  · have e' : i = Bn := e
    subst e'
    rcases hi with h1 | h1
    · exact hSB h1
    · omega
  · rcases hi with h1 | h1
    · exact hS i h1
    · exact .inr (by omega)
  · refine (h.kp.trans k fun i hi => ?_).more (kc.mono fun i e => .inr e)
    rcases hS i hi with h1 | h1
    · exact .inl (.inl h1)
    · exact .inr (by omega)
  · refine (k.mono fun i hi => ?_).more (kc.mono fun i e => .inr (.inl e))
    rcases hS i hi with h1 | h1
    · exact .inl h1
    · exact .inr (.inr h1)
end
end Wh
end Go.Proofs.Ytbjapgajbljhfaa
