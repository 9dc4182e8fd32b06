/- Package source: rows of the call's own; a draft in memory. -/
import Derived.Test.YtnhmmplheihojaaGreatDoorULof
import Derived.Deep.OwnRows
import Derived.Deep.RegionLaw
namespace Go.Proofs.YtnhmmplheihojaaGreatDoor
namespace U
open Go.RowKit

theorem own_stay {w w' : World} {b : Nat} {e : TypeId} {s : Nat} {v : Value} {n : Nat} {xs : List Value} (h : w.ownsRow b e s v n xs) (hb : ∀ g, v.ownBlock = some g → w'.heap[g]? = w.heap[g]?) : w'.ownsRow b e s v n xs := by
  refine ⟨h.1, ?_⟩
  rcases h.2 with h | ⟨g, cap, cur, rfl, e2, e3, e4⟩
  · exact .inl h
  · exact .inr ⟨g, cap, cur, rfl, e2, (hb g rfl).trans e3, e4⟩
theorem own_blk {w : World} {b : Nat} {e : TypeId} {s : Nat} {v : Value} {n : Nat} {xs : List Value} (h : w.ownsRow b e s v n xs) {g : Nat} (hg : v.ownBlock = some g) : b ≤ g ∧ g < w.heap.size ∧ ∃ cur, w.heap[g]? = some (.cells cur e (0, 0)) := by
  rcases h.2 with ⟨rfl, _⟩ | ⟨g', cap, cur, rfl, e2, e3, e4⟩
  · cases hg
  · cases hg
    exact ⟨e2, (Array.getElem?_eq_some_iff.1 e3).1, cur, e3⟩
theorem own_far {w : World} {b : Nat} {e t : TypeId} {s : Nat} {v : Value} {n : Nat} {xs : List Value} (h : w.ownsRow b e s v n xs) {O : Nat} {cs : Array Value} (hO : w.heap[O]? = some (.cells cs t (0, 0))) (ht : t ≠ e) : v.ownBlock ≠ some O := fun hg => by
  obtain ⟨_, _, cur, h3⟩ := own_blk h hg
  rw [hO] at h3
  injection h3 with h3
  injection h3 with _ h3
  exact ht h3
theorem own_below {w w' : World} {b : Nat} {e : TypeId} {s : Nat} {v : Value} {n : Nat} {xs : List Value} (h : w.ownsRow b e s v n xs) (hb : Below w.heap.size w w') : w'.ownsRow b e s v n xs :=
  own_stay h fun g hg => hb.block g (own_blk h hg).2.1
theorem own_shape {w : World} {b : Nat} {e : TypeId} {s : Nat} {v : Value} {n : Nat} {xs : List Value} (h : w.ownsRow b e s v n xs) : ∃ a c, v = .slice a n c := by
  rcases h.2 with ⟨rfl, rfl⟩ | ⟨g, cap, cur, rfl, _⟩ <;> exact ⟨_, _, rfl⟩

/-- 'append' as one step of a region that draws -/
theorem step_append_run {ops : Array Oper} {o : Oper} {a : Act} {w : World} {K : Act → World → Prop} {Q : Exit → Act → World → Prop} {E : Prop}
    (hg : o.guard = none) (d x : Operand) (t : TypeId) (hop : o.op = Op.call { callee := Callee.builtin Builtin.append, args := #[d, x], argTypes := #[t, t] })
    (v u : Value) (hd : a.eval d = v) (hx : a.eval x = u) {v' : Value} {w' : World} (hr : (Builtin.append_ #[t, t] o.type #[v, u]).run Tryz.prog w = .ok v' w') (hK : K (a.put o.dst v') w') :
    if Region.wanted o (yielded ops a.tmps) = true then Oper.wp Tryz.prog o a w K Q else E := by
  have hw : Region.wanted o (yielded ops a.tmps) = true := by simp [Region.wanted, hg]
  rw [if_pos hw]
  unfold Oper.wp
  simp [execOp, hop, resolve, invoke, builtin, hd, hx, hr, Result.andThen]
  exact hK

theorem own_keep {w w' : World} {b : Nat} {e : TypeId} {s : Nat} {v : Value} {n : Nat} {xs : List Value} (h : w.ownsRow b e s v n xs) {S : Nat → Prop} (k : Keep S w w') (hS : ∀ g, v.ownBlock = some g → ¬ S g) : w'.ownsRow b e s v n xs :=
  own_stay h fun g hg => k.block g (own_blk h hg).2.1 (hS g hg)
/-- two rows of unlike types lie apart -/
theorem own_apart {w : World} {b b' : Nat} {e e' : TypeId} {s s' : Nat} {v v' : Value} {n n' : Nat} {xs xs' : List Value} (h : w.ownsRow b e s v n xs) (h' : w.ownsRow b' e' s' v' n' xs') (he : e ≠ e') {g : Nat} (hg : v.ownBlock = some g) : v'.ownBlock ≠ some g := fun hg' => by
  obtain ⟨_, _, cur, h3⟩ := own_blk h hg
  exact own_far h' h3 he hg'
theorem own_noStr {w : World} {b : Nat} {e : TypeId} {s : Nat} {v : Value} {n : Nat} {xs : List Value} (h : w.ownsRow b e s v n xs) (he : e ≠ 9) {g : Nat} (hg : v.ownBlock = some g) : ¬ StrB w g := by
  obtain ⟨_, _, cur, h3⟩ := own_blk h hg
  exact not_strB h3 he

def flat (qs : List Gr.Nd) : List Value := (qs.map Gr.Nd.row).flatten
theorem flat_snoc (qs : List Gr.Nd) (q : Gr.Nd) : flat (qs ++ [q]) = flat qs ++ q.row := by simp [flat]
theorem flat_length (qs : List Gr.Nd) : (flat qs).length = qs.length * 10 := by
  induction qs with
  | nil => rfl
  | cons q qs ih => simp only [flat, List.map_cons, List.flatten_cons, List.length_append] at ih ⊢; rw [ih]; simp [Gr.Nd.row]; omega
theorem flat_get (qs : List Gr.Nd) (i j : Nat) (q : Gr.Nd) (u : Value) (hq : qs[i]? = some q) (hu : q.row[j]? = some u) : (flat qs)[i * 10 + j]? = some u := by
  induction qs generalizing i with
  | nil => simp at hq
  | cons p qs ih =>
    have hl : ∀ q : Gr.Nd, q.row.length = 10 := fun q => rfl
    have e : flat (p :: qs) = p.row ++ flat qs := by simp [flat]
    have hj : j < 10 := by rw [← hl q]; exact (List.getElem?_eq_some_iff.1 hu).1
    rw [e]
    cases i with
    | zero =>
      simp only [List.getElem?_cons_zero, Option.some.injEq] at hq
      subst hq
      rw [Nat.zero_mul, Nat.zero_add, List.getElem?_append_left (by rw [hl]; omega)]
      exact hu
    | succ i =>
      simp only [List.getElem?_cons_succ] at hq
      rw [List.getElem?_append_right (by rw [hl]; omega), hl, show (i + 1) * 10 + j - 10 = i * 10 + j by omega]
      exact ih i hq
theorem info_node : (Tryz.prog.info? 35).map (fun i => (i.zero, i.size, i.bytes)) = some (some (.agg #[.string ⟨#[]⟩, .int .i64 0, .int .i64 0, .int .i64 0, .int .i64 0, .int .i64 0, .int .i64 0, .int .i64 0, .slice none 0 0, .slice none 0 0]), 10, 120) := by kernel_rfl
/-- a node more behind a row of the call's own -/
theorem append_node {w : World} {b : Nat} {v : Value} {qs : List Gr.Nd} (h : w.ownsRow b 35 10 v qs.length (flat qs)) (hb : b ≤ w.heap.size) (hl : qs.length < 1000000) (q : Gr.Nd) {B : Nat} (hB : ∀ j u, q.row[j]? = some u → w.cell? ((⟨B, 0, none⟩ : Addr).add j) = some u) (c : Nat) (ty : TypeId) :
    ∃ v' w', (Builtin.append_ #[23, 23] ty #[v, .slice (some ⟨B, 0, none⟩) 1 c]).run Tryz.prog w = .ok v' w' ∧ w'.ownsRow b 35 10 v' (qs.length + 1) (flat (qs ++ [q])) ∧ w.grownBy w' v.ownBlock := by
  have hi := info_node
  rcases hi0 : Tryz.prog.info? 35 with _ | i
  · rw [hi0] at hi; cases hi
  · rw [hi0] at hi
    simp only [Option.map_some, Option.some.injEq, Prod.mk.injEq] at hi
    obtain ⟨hz, hs, hby⟩ := hi
    obtain ⟨v', w', h1, h2, h3, _⟩ := run_append_own (P := Tryz.prog) w b 23 ty 35 i _ 10 120 Tryz.underlying23 hi0 hz hs hby rfl (by decide) v qs.length _ h ⟨B, 0, none⟩ 1 c q.row rfl hB (fun u hu => by simp [Gr.Nd.row] at hu; rcases hu with rfl | rfl | rfl | rfl | rfl | rfl | rfl | rfl | rfl | rfl <;> rfl) (by unfold maxLen; omega) (by omega) hb
    exact ⟨v', w', h1, by rw [flat_snoc]; exact h2, h3⟩
theorem info_int : (Tryz.prog.info? 3).map (fun i => (i.zero, i.size, i.bytes)) = some (some (.int .i64 0), 1, 8) := by kernel_rfl
def ivs (z : List Nat) : List Value := z.map fun (n : Nat) => .int .i64 (n : Int)
/-- a number more behind a row of the call's own -/
theorem append_num {w : World} {b : Nat} {v : Value} {z : List Nat} (h : w.ownsRow b 3 1 v z.length (ivs z)) (hb : b ≤ w.heap.size) (hl : z.length < 1000000) (n : Nat) {B : Nat} (hB : w.cell? ⟨B, 0, none⟩ = some (.int .i64 (n : Int))) (c : Nat) (ty : TypeId) :
    ∃ v' w', (Builtin.append_ #[33, 33] ty #[v, .slice (some ⟨B, 0, none⟩) 1 c]).run Tryz.prog w = .ok v' w' ∧ w'.ownsRow b 3 1 v' (z.length + 1) (ivs (z ++ [n])) ∧ w.grownBy w' v.ownBlock := by
  have hi := info_int
  rcases hi0 : Tryz.prog.info? 3 with _ | i
  · rw [hi0] at hi; cases hi
  · rw [hi0] at hi
    simp only [Option.map_some, Option.some.injEq, Prod.mk.injEq] at hi
    obtain ⟨hz, hs, hby⟩ := hi
    obtain ⟨v', w', h1, h2, h3, _⟩ := run_append_own (P := Tryz.prog) w b 33 ty 3 i _ 1 8 Tryz.underlying33 hi0 hz hs hby rfl (by decide) v z.length _ h ⟨B, 0, none⟩ 1 c [.int .i64 (n : Int)] rfl (fun j u hj => by
      match j, hj with
      | 0, hj => simp at hj; subst hj; simpa [Addr.add] using hB
      | j + 1, hj => simp at hj) (fun u hu => by simp at hu; subst hu; rfl) (by unfold maxLen; omega) (by omega) hb
    exact ⟨v', w', h1, by rw [show ivs (z ++ [n]) = ivs z ++ [.int .i64 (n : Int)] by simp [ivs]]; exact h2, h3⟩
/-- a mention, and where its names lie -/
def mrow (x : Mn × Option Addr × Nat) : List Value := [.int .i64 (x.1.place : Int), .int .i64 (x.1.node : Int), .int .i64 (x.1.kind : Int), .slice x.2.1 x.1.names.length x.2.2]
def mflat (l : List (Mn × Option Addr × Nat)) : List Value := (l.map mrow).flatten
theorem mflat_snoc (l : List (Mn × Option Addr × Nat)) (x : Mn × Option Addr × Nat) : mflat (l ++ [x]) = mflat l ++ mrow x := by simp [mflat]
theorem info_men : (Tryz.prog.info? 109).map (fun i => (i.zero, i.size, i.bytes)) = some (some (.agg #[.int .i64 0, .int .i64 0, .int .i64 0, .slice none 0 0]), 4, 48) := by kernel_rfl
/-- a mention more behind a row of the call's own -/
theorem append_men {w : World} {b : Nat} {v : Value} {l : List (Mn × Option Addr × Nat)} (h : w.ownsRow b 109 4 v l.length (mflat l)) (hb : b ≤ w.heap.size) (hl : l.length < 1000000) (x : Mn × Option Addr × Nat) {B : Nat} (hB : ∀ j u, (mrow x)[j]? = some u → w.cell? ((⟨B, 0, none⟩ : Addr).add j) = some u) (c : Nat) (ty : TypeId) :
    ∃ v' w', (Builtin.append_ #[60, 60] ty #[v, .slice (some ⟨B, 0, none⟩) 1 c]).run Tryz.prog w = .ok v' w' ∧ w'.ownsRow b 109 4 v' (l.length + 1) (mflat (l ++ [x])) ∧ w.grownBy w' v.ownBlock := by
  have hi := info_men
  rcases hi0 : Tryz.prog.info? 109 with _ | i
  · rw [hi0] at hi; cases hi
  · rw [hi0] at hi
    simp only [Option.map_some, Option.some.injEq, Prod.mk.injEq] at hi
    obtain ⟨hz, hs, hby⟩ := hi
    obtain ⟨v', w', h1, h2, h3, _⟩ := run_append_own (P := Tryz.prog) w b 60 ty 109 i _ 4 48 Tryz.underlying60 hi0 hz hs hby rfl (by decide) v l.length _ h ⟨B, 0, none⟩ 1 c (mrow x) rfl hB (fun u hu => by simp [mrow] at hu; rcases hu with rfl | rfl | rfl | rfl <;> rfl) (by unfold maxLen; omega) (by omega) hb
    exact ⟨v', w', h1, by rw [mflat_snoc]; exact h2, h3⟩

/-- mentions in memory -/
def MsAt (B : Nat) (w : World) (vm : Value) (ms : List Mn) : Prop :=
  ∃ l : List (Mn × Option Addr × Nat), l.map (·.1) = ms ∧ w.ownsRow B 109 4 vm l.length (mflat l) ∧ ∀ x ∈ l, RdS w x.2.1 x.1.names ∧ x.1.names.length ≤ x.2.2
/-- a draft's block -/
def drow (d : Dr) (vn vp vm : Value) : List Value := [.string (ba d.nm), .int .i64 d.dl, vn, .int .i64 (d.place : Int), vp, .bool d.hn, .bool d.ha, vm]
/-- a draft in memory, all of it in blocks from B on, its lists by name -/
def DrX (B : Nat) (w : World) (D : Nat) (d : Dr) (vn vp vm : Value) : Prop :=
  B ≤ D ∧ w.heap[D]? = some (.cells (drow d vn vp vm).toArray 62 (0, 0)) ∧ w.ownsRow B 35 10 vn d.nds.length (flat (d.nds.map fun x => (no x).q)) ∧ w.ownsRow B 3 1 vp d.places.length (ivs d.places) ∧ MsAt B w vm d.ms
/-- a draft in memory -/
def DrAt (B : Nat) (w : World) (D : Nat) (d : Dr) : Prop := ∃ vn vp vm, DrX B w D d vn vp vm
theorem MsAt.keep {B : Nat} {w w' : World} {vm : Value} {ms : List Mn} (h : MsAt B w vm ms) {S : Nat → Prop} (k : Keep S w w') (h1 : ∀ g, vm.ownBlock = some g → ¬ S g) (hS : ∀ g, S g → ¬ StrB w g) : MsAt B w' vm ms := by
  obtain ⟨l, e, ho, hr⟩ := h
  exact ⟨l, e, own_keep ho k h1, fun x hx => ⟨(hr x hx).1.keep k hS, (hr x hx).2⟩⟩
theorem DrAt.below {B : Nat} {w w' : World} {D : Nat} {d : Dr} (h : DrAt B w D d) (k : Below w.heap.size w w') : DrAt B w' D d := by
  obtain ⟨vn, vp, vm, h0, h1, h2, h3, h4⟩ := h
  refine ⟨vn, vp, vm, h0, (k.block D (Array.getElem?_eq_some_iff.1 h1).1).trans h1, own_below h2 k, own_below h3 k, h4.keep (Keep.ofBelow (S := fun _ => False) k (Nat.le_refl _)) (fun _ _ f => f) (fun _ f => f.elim)⟩
/-- what lies in neither a draft nor its rows may turn -/
theorem DrX.line {B : Nat} {w w' : World} {D : Nat} {d : Dr} {vn vp vm : Value} (h : DrX B w D d vn vp vm) {L : Nat} {cs : Array Value} (hL : w.heap[L]? = some (.cells cs 105 (0, 0))) (k : Keep (fun i => i = L) w w') : DrX B w' D d vn vp vm := by
  obtain ⟨h0, h1, h2, h3, h4⟩ := h
  have hDL : D ≠ L := fun e => by
    subst e
    rw [h1] at hL
    injection hL with hL
    injection hL with _ hL
    exact absurd hL (by decide)
  refine ⟨h0, k.blk h1 hDL, own_keep h2 k fun g hg e => ?_, own_keep h3 k fun g hg e => ?_, h4.keep k (fun g hg e => ?_) (fun g e => ?_)⟩
  · subst e; exact own_far h2 hL (by decide) hg
  · subst e; exact own_far h3 hL (by decide) hg
  · subst e
    obtain ⟨l, _, ho, _⟩ := h4
    exact own_far ho hL (by decide) hg
  · subst e; exact not_strB hL (by decide)
theorem DrAt.line {B : Nat} {w w' : World} {D : Nat} {d : Dr} (h : DrAt B w D d) {L : Nat} {cs : Array Value} (hL : w.heap[L]? = some (.cells cs 105 (0, 0))) (k : Keep (fun i => i = L) w w') : DrAt B w' D d := by
  obtain ⟨vn, vp, vm, h⟩ := h
  exact ⟨vn, vp, vm, h.line hL k⟩
theorem LineAt.blk {w : World} {L pl : Nat} {s : Ln} (h : LineAt w L pl s) : ∃ cs, w.heap[L]? = some (.cells cs 105 (0, 0)) := by
  obtain ⟨a, c, hb, _⟩ := h
  exact ⟨_, hb⟩
theorem DrAt.lineAt {B : Nat} {w w' : World} {D : Nat} {d : Dr} (h : DrAt B w D d) {L pl : Nat} {s : Ln} (hL : LineAt w L pl s) (k : Keep (fun i => i = L) w w') : DrAt B w' D d := by
  obtain ⟨cs, hc⟩ := hL.blk
  exact h.line hc k
end U
end Go.Proofs.YtnhmmplheihojaaGreatDoor
