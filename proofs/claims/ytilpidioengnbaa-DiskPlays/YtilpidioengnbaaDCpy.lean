/- Package disk: Copy. -/
import Derived.Test.YtilpidioengnbaaDNew
namespace Go.Proofs.Ytilpidioengnbaa
open Go.RowKit Go.Lib Go.Maps Go.MapKept Go.ChangeMaps

theorem run_makeMap_hint {t k e : TypeId} (ht : Try.prog.underlying t = some (.map k e)) (n : Int) (w : World) : (Instr.makeMap t (some (.int .i64 n))).run Try.prog w = .ok (.map (some w.heap.size)) (w.alloc (.map #[] 0)) := by
  simp [Instr.makeMap, run_underlying ht, asInt, asIntOf, Result.andThen]
theorem MapIs.len {w : World} {b : Nat} {f : Int → Option Value} (h : MapIs w b f) {t e : TypeId} (ht : Try.prog.underlying t = some (.map 3 e)) : ∃ n : Nat, ∀ ty, (Builtin.len_ #[t] ty #[.map (some b)]).run Try.prog w = .ok (.int .i64 (n : Nat)) w := by
  obtain ⟨es, c, hb⟩ := h.blk
  refine ⟨es.size, fun ty => ?_⟩
  simp [Builtin.len_, run_underlying ht, Go.run_getObj_map w b es c hb, goInt]

theorem row_ne_map {w : World} {v : Value} {l : List Nat} {g b : Nat} {f : Int → Option Value} (h : Row w v l) (hg : v.ownBlock = some g) (hm : MapIs w b f) : g ≠ b := fun e => by
  obtain ⟨cs, hc⟩ := row_blk h hg
  obtain ⟨es, c, hb⟩ := hm.blk
  rw [← e, hc] at hb
  cases hb

theorem Keep.one {b : Nat} {w w' : World} (h : Keep (fun i => i = b) w w') : w.grownBy w' (some b) := ⟨h.os, h.tape, h.output, h.size, fun k hk hn => h.block k hk fun e => hn (by rw [e])⟩
theorem Keep.nil {w w' : World} (h : Keep (fun _ => False) w w') (row : Option Nat) : w.grownBy w' row := ⟨h.os, h.tape, h.output, h.size, fun k hk _ => h.block k hk fun f => f⟩

/-- rows that a Copy has made so far, of the segments in H -/
structure Cpy (G : Nat → Prop) (w : World) (s : St) (nv : Int → Value) (H : Int → Prop) : Prop where
  row : ∀ k l, H k → s.held k = some l → Row w (nv k) l
  one : ∀ k k' g, H k → H k' → s.held k ≠ none → s.held k' ≠ none → (nv k).ownBlock = some g → (nv k').ownBlock = some g → k = k'
  own : ∀ k g, H k → s.held k ≠ none → (nv k).ownBlock = some g → G g

section
variable {G G' : Nat → Prop} {w w' : World} {s : St} {nv : Int → Value} {H H' : Int → Prop}
theorem Cpy.keep (h : Cpy G w s nv H) {T : Nat → Prop} (hk : Keep T w w') (hT : ∀ g, g < w.heap.size → G g → ¬ T g) : Cpy G w' s nv H :=
  ⟨fun k l a b => (h.row k l a b).keep hk fun g hg => hT g ((h.row k l a b).1.lt g hg).2 (h.own k g a (by rw [b]; simp) hg), h.one, h.own⟩
theorem Cpy.congr (h : Cpy G w s nv H) (hH : ∀ k, s.held k ≠ none → H' k → H k) : Cpy G w s nv H' :=
  ⟨fun k l a b => h.row k l (hH k (by rw [b]; simp) a) b, fun k k' g a b c d => h.one k k' g (hH k c a) (hH k' d b) c d, fun k g a b => h.own k g (hH k b a) b⟩
theorem Cpy.mono (h : Cpy G w s nv H) (hG : ∀ g, g < w.heap.size → G g → G' g) : Cpy G' w s nv H :=
  ⟨h.row, h.one, fun k g a b c => hG g (by obtain ⟨l, hl⟩ := Option.ne_none_iff_exists'.1 b; exact ((h.row k l a hl).1.lt g c).2) (h.own k g a b c)⟩
theorem Cpy.add (h : Cpy G w s nv H) (hk : Keep (fun _ => False) w w') {x : Int} {v' : Value} {l : List Nat} (hx : ¬ H x) (hl : s.held x = some l) (hr : Row w' v' l) (hn : ∀ g, v'.ownBlock = some g → w.heap.size ≤ g ∧ G g) : Cpy G w' s (upd nv x v') (fun k => H k ∨ k = x) := by
  have hne : ∀ k, H k → k ≠ x := fun k hk e => hx (e ▸ hk)
  have hold : ∀ k g, H k → s.held k ≠ none → (nv k).ownBlock = some g → g < w.heap.size := fun k g a b c => by
    obtain ⟨m, hm⟩ := Option.ne_none_iff_exists'.1 b
    exact ((h.row k m a hm).1.lt g c).2
  refine ⟨fun k m a b => ?_, fun k k' g a b c d e1 e2 => ?_, fun k g a b c => ?_⟩
  · by_cases e : k = x
    · subst e
      rw [hl] at b; injection b with b; subst b
      rw [upd_same]; exact hr
    · rw [upd_other _ _ e]
      exact (h.row k m (a.resolve_right e) b).keep hk fun _ _ f => f
  · by_cases ek : k = x
    · by_cases ek' : k' = x
      · rw [ek, ek']
      · rw [ek, upd_same] at e1
        rw [upd_other _ _ ek'] at e2
        have := (hn g e1).1
        have := hold k' g (b.resolve_right ek') d e2
        omega
    · by_cases ek' : k' = x
      · rw [ek', upd_same] at e2
        rw [upd_other _ _ ek] at e1
        have := (hn g e2).1
        have := hold k g (a.resolve_right ek) c e1
        omega
      · rw [upd_other _ _ ek] at e1
        rw [upd_other _ _ ek'] at e2
        exact h.one k k' g (a.resolve_right ek) (b.resolve_right ek') c d e1 e2
  · by_cases ek : k = x
    · rw [ek, upd_same] at c
      exact (hn g c).2
    · rw [upd_other _ _ ek] at c
      exact h.own k g (a.resolve_right ek) b c
end

/-- what the new map holds in the midst -/
def F1 (s : St) (left : Lit → Bool) (nv : Int → Value) (k : Int) : Option Value := if left (.int .i64 k) then none else (s.there k).map fun _ => nv k
def F2 (s : St) (left : Lit → Bool) (nv : Int → Value) (k : Int) : Option Value := if left (.int .i64 k) then none else pastOf (s.there k) (s.safe k) (nv k)
def H1 (s : St) (left : Lit → Bool) (k : Int) : Prop := s.there k ≠ none ∧ left (.int .i64 k) = false
def H2 (s : St) (left : Lit → Bool) (k : Int) : Prop := s.there k ≠ none ∨ left (.int .i64 k) = false

theorem left_step (left : Lit → Bool) (x k : Int) : (left (.int .i64 k) && !(Lit.int .i64 k).sameKey (.int .i64 x)) = if k = x then false else left (.int .i64 k) := by
  rw [same_int]
  by_cases e : k = x <;> simp [e]

theorem F1_step {s : St} {left : Lit → Bool} {nv : Int → Value} {x : Int} {v' : Value} (hx : s.there x ≠ none) : F1 s (fun z => left z && !z.sameKey (.int .i64 x)) (upd nv x v') = upd (F1 s left nv) x (some v') := by
  funext k
  unfold F1
  by_cases e : k = x
  · subst e
    obtain ⟨l, hl⟩ := Option.ne_none_iff_exists'.1 hx
    simp [left_step, upd_same, hl]
  · simp [left_step, e, upd_other _ _ e]
theorem F2_step {s : St} {left : Lit → Bool} {nv : Int → Value} {x : Int} {v' c : Value} (hx : pastOf (s.there x) (s.safe x) v' = some c) : F2 s (fun z => left z && !z.sameKey (.int .i64 x)) (upd nv x v') = upd (F2 s left nv) x (some c) := by
  funext k
  unfold F2
  by_cases e : k = x
  · subst e
    simp [left_step, upd_same, hx]
  · simp [left_step, e, upd_other _ _ e]

theorem pastOf_there {t : List Nat} {s : Option (List Nat)} {v c : Value} (h : pastOf (some t) s v = some c) : ∃ (b : Bool) (i : Int), c = .agg #[.bool b, .int .i64 i, .slice none 0 0] ∧ ∀ v', pastOf (some t) s v' = some c := by
  unfold pastOf at h ⊢
  by_cases e : some t = s
  · rw [if_pos e] at h; cases h
  · rw [if_neg e] at h
    cases s with
    | none => injection h with h; exact ⟨_, _, h.symm, fun _ => by rw [if_neg e]; exact congrArg some h⟩
    | some m => injection h with h; exact ⟨_, _, h.symm, fun _ => by rw [if_neg e]; exact congrArg some h⟩
theorem pastOf_away {s : Option (List Nat)} {v c : Value} (h : pastOf none s v = some c) : ∃ m, s = some m ∧ c = .agg #[.bool true, .int .i64 0, v] ∧ ∀ v', pastOf none s v' = some (.agg #[.bool true, .int .i64 0, v']) := by
  unfold pastOf at h ⊢
  cases s with
  | none => rw [if_pos rfl] at h; cases h
  | some m => rw [if_neg (by simp)] at h; injection h with h; exact ⟨m, rfl, h.symm, fun _ => by rw [if_neg (by simp)]⟩

/-- the copy, whole -/
theorem copied {w : World} {s : St} {p bm bq : Nat} {left : Lit → Bool} {nv : Int → Value} {B E : Nat} (hl : ∀ kl, left kl = false) (hb : w.heap[p]? = some (.cells (dcells s bm bq) 68 (0, 0))) (mt : MapIs w bm (fun k => (s.there k).map fun _ => nv k)) (mo : MapIs w bq (F2 s left nv)) (hne : bm ≠ bq)
    (hc : Cpy (fun g => B ≤ g ∧ g < E ∨ E + 2 ≤ g) w s nv (H2 s left)) {N : Nat} (h1 : N ≤ p) (h2 : N ≤ bm) (h3 : N ≤ bq) (h4 : N ≤ B) (h5 : N ≤ E) : DAt (fun i => N ≤ i) w p s := by
  have hH : ∀ k, H2 s left k := fun k => .inr (hl _)
  refine ⟨bm, bq, nv, hb, mt, ?_, hne, fun k l h => hc.row k l (hH k) h, fun k k' g a b => hc.one k k' g (hH k) (hH k') a b, fun k g a b => ?_, h1, h2, h3⟩
  · have : F2 s left nv = fun k => pastOf (s.there k) (s.safe k) (nv k) := by funext k; unfold F2; rw [hl]; rfl
    rw [← this]; exact mo
  · rcases hc.own k g (hH k) a b with h | h <;> omega

theorem segF1 {s : St} (ok : Ok s) (left : Lit → Bool) (nv : Int → Value) : Segs (F1 s left nv) := fun k hk => ok.seg k (by
  intro e
  rw [held_iff] at e
  unfold F1 at hk
  rw [e.1] at hk
  exact hk (by split <;> rfl))
theorem segF2 {s : St} (ok : Ok s) (left : Lit → Bool) (nv : Int → Value) : Segs (F2 s left nv) := fun k hk => ok.seg k (by
  intro e
  rw [held_iff] at e
  unfold F2 at hk
  rw [e.1, e.2, pastOf_none] at hk
  exact hk (by split <;> rfl))

/-- the first loop -/
structure L1 (w wr : World) (s : St) (bo : Nat) (left : Lit → Bool) (nv : Int → Value) : Prop where
  m : MapIs wr (w.heap.size + 1) (F1 s left nv)
  c : Cpy (fun g => w.heap.size + 3 ≤ g) wr s nv (H1 s left)
  k : Keep (fun _ => False) w wr
  b : wr.heap[w.heap.size]? = some (.cells (dcells s (w.heap.size + 1) bo) 68 (0, 0))
  z : w.heap.size + 3 ≤ wr.heap.size

theorem L1.step {w wr w1 W1 w3 : World} {s : St} {bo : Nat} {left : Lit → Bool} {nv : Int → Value} (h : L1 w wr s bo left nv) {x : Int} {l : List Nat} {v' : Value} (hx : s.there x = some l) (hlx : left (.int .i64 x) = true)
    (k1 : Keep (fun i => i = w.heap.size + 2) wr w1) (k2 : Keep (fun _ => False) w1 W1) (hr : Row W1 v' l) (hn : ∀ g, v'.ownBlock = some g → w1.heap.size ≤ g) (m3 : MapIs w3 (w.heap.size + 1) (upd (F1 s left nv) x (some v'))) (k3 : Keep (fun i => i = w.heap.size + 1) W1 w3) :
    L1 w w3 s bo (fun z => left z && !z.sameKey (.int .i64 x)) (upd nv x v') := by
  have hhe : s.held x = some l := by unfold St.held; rw [hx]
  have c1 := h.c.keep k1 fun g _ hg e => by omega
  have hz := h.z
  have z1 := k1.size
  refine ⟨by rw [F1_step (by rw [hx]; simp)]; exact m3, ?_, ?_, ?_, ?_⟩
  · have c2 := c1.add k2 (x := x) (v' := v') (l := l) (fun hh => by have := hh.2; rw [hlx] at this; cases this) hhe hr fun g hg => ⟨hn g hg, by have := hn g hg; omega⟩
    refine (c2.congr fun k _ hk => ?_).keep k3 fun g _ hg e => by omega
    obtain ⟨a, b⟩ := hk
    by_cases e : k = x
    · exact .inr e
    · refine .inl ⟨a, ?_⟩
      have b' : (left (.int .i64 k) && !(Lit.int .i64 k).sameKey (.int .i64 x)) = false := b
      rw [left_step, if_neg e] at b'
      exact b'
  · exact ((h.k.trans k1 fun i e => .inr (by omega)).more k2).trans k3 fun i e => .inr (by omega)
  · exact k3.blk (k2.blk (k1.blk h.b (by omega)) fun f => f) (by omega)
  · have := k2.size; have := k3.size; omega

/-- the second loop -/
structure L2 (w wr : World) (s : St) (E : Nat) (left : Lit → Bool) (nv : Int → Value) : Prop where
  mt : MapIs wr (w.heap.size + 1) (fun k => (s.there k).map fun _ => nv k)
  m : MapIs wr E (F2 s left nv)
  c : Cpy (fun g => w.heap.size + 3 ≤ g ∧ g < E ∨ E + 2 ≤ g) wr s nv (H2 s left)
  k : Keep (fun _ => False) w wr
  b : wr.heap[w.heap.size]? = some (.cells (dcells s (w.heap.size + 1) E) 68 (0, 0))
  z : E + 2 ≤ wr.heap.size
  e : w.heap.size + 3 ≤ E

theorem L2.stepA {w wr w1 W1 w3 : World} {s : St} {E : Nat} {left : Lit → Bool} {nv : Int → Value} (h : L2 w wr s E left nv) {x : Int} {c : Value} (hx : s.there x ≠ none) (hp : pastOf (s.there x) (s.safe x) (nv x) = some c)
    (k1 : Keep (fun i => i = E + 1) wr w1) (k2 : Keep (fun _ => False) w1 W1) (m3 : MapIs w3 E (upd (F2 s left nv) x (some c))) (k3 : Keep (fun i => i = E) W1 w3) :
    L2 w w3 s E (fun z => left z && !z.sameKey (.int .i64 x)) nv := by
  have hz := h.z
  have he := h.e
  refine ⟨((h.mt.keep k1 (by omega)).keep k2 fun f => f).keep k3 (by omega), ?_, ?_, ?_, ?_, ?_, he⟩
  · have := F2_step (left := left) (nv := nv) hp
    rw [upd_id] at this
    rw [this]; exact m3
  · refine (((h.c.keep k1 fun g _ hg e => by omega).keep k2 fun _ _ _ f => f).congr fun k _ hk => ?_).keep k3 fun g _ hg e => by omega
    rcases hk with hk | hk
    · exact .inl hk
    · by_cases e : k = x
      · exact .inl (e ▸ hx)
      · have b' : (left (.int .i64 k) && !(Lit.int .i64 k).sameKey (.int .i64 x)) = false := hk
        rw [left_step, if_neg e] at b'
        exact .inr b'
  · exact ((h.k.trans k1 fun i e => .inr (by omega)).more k2).trans k3 fun i e => .inr (by omega)
  · exact k3.blk (k2.blk (k1.blk h.b (by omega)) fun f => f) (by omega)
  · have := k1.size; have := k2.size; have := k3.size; omega

theorem L2.stepB {w wr w1 W1 w3 : World} {s : St} {E : Nat} {left : Lit → Bool} {nv : Int → Value} (h : L2 w wr s E left nv) {x : Int} {m : List Nat} {v' c : Value} (hx : s.there x = none) (hs : s.safe x = some m) (hlx : left (.int .i64 x) = true) (hp : pastOf (s.there x) (s.safe x) v' = some c)
    (k1 : Keep (fun i => i = E + 1) wr w1) (k2 : Keep (fun _ => False) w1 W1) (hr : Row W1 v' m) (hn : ∀ g, v'.ownBlock = some g → w1.heap.size ≤ g) (m3 : MapIs w3 E (upd (F2 s left nv) x (some c))) (k3 : Keep (fun i => i = E) W1 w3) :
    L2 w w3 s E (fun z => left z && !z.sameKey (.int .i64 x)) (upd nv x v') := by
  have hz := h.z
  have he := h.e
  have hhe : s.held x = some m := by unfold St.held; rw [hx]; exact hs
  have z1 := k1.size
  refine ⟨?_, by rw [F2_step hp]; exact m3, ?_, ?_, ?_, ?_, he⟩
  · have e1 : (fun k => (s.there k).map fun _ => upd nv x v' k) = fun k => (s.there k).map fun _ => nv k := by
      funext k
      by_cases e : k = x
      · rw [e, hx]; rfl
      · rw [upd_other _ _ e]
    rw [e1]
    exact ((h.mt.keep k1 (by omega)).keep k2 fun f => f).keep k3 (by omega)
  · have c1 := h.c.keep k1 fun g _ hg e => by omega
    have c2 := c1.add k2 (x := x) (v' := v') (l := m) (fun hh => hh.elim (fun e => e hx) fun e => by rw [hlx] at e; cases e) hhe hr fun g hg => ⟨hn g hg, .inr (by have := hn g hg; omega)⟩
    refine (c2.congr fun k _ hk => ?_).keep k3 fun g _ hg e => by omega
    by_cases e : k = x
    · exact .inr e
    · rcases hk with hk | hk
      · exact .inl (.inl hk)
      · have b' : (left (.int .i64 k) && !(Lit.int .i64 k).sameKey (.int .i64 x)) = false := hk
        rw [left_step, if_neg e] at b'
        exact .inl (.inr b')
  · exact ((h.k.trans k1 fun i e => .inr (by omega)).more k2).trans k3 fun i e => .inr (by omega)
  · exact k3.blk (k2.blk (k1.blk h.b (by omega)) fun f => f) (by omega)
  · have := k2.size; have := k3.size; omega

/-- a copy: what Copy answers -/
def CopyAs (w : World) (s : St) (e : Ending) (w' : World) : Prop := ∃ p, e = .returned (.pointer (some ⟨p, 0, none⟩)) ∧ DAt (fun i => w.heap.size ≤ i) w' p s ∧ Keep (fun _ => False) w w'

set_option maxRecDepth 100000 in
set_option maxHeartbeats 4000000 in
theorem copy_any (S : Nat → Prop) (w : World) (p : Nat) (s : St) (h : DAt S w p s) (ok : Ok s) :
    Calls Try.prog 8 #[.pointer (some ⟨p, 0, none⟩)] w (CopyAs w s) := by
  obtain ⟨bt, bo, val, h⟩ := h
  have c0 := h.c0
  have c1 := h.c1
  have c2 := h.c2
  have c3 := h.c3
  have c4 := h.c4
  have c5 := h.c5
  have c6 := h.c6
  have hpl : p < w.heap.size := (Array.getElem?_eq_some_iff.1 h.blk).1
  obtain ⟨W1, hW1⟩ : ∃ W1, W1 = w.alloc (.cells (dcells s bt bo) 68) := ⟨_, rfl⟩
  have k1 : Keep (fun _ => False) w W1 := by rw [hW1]; exact Keep.alloc _ _ _
  have h1 := h.stay k1 fun _ _ _ f => f
  obtain ⟨n1, hn1⟩ := h1.mt.len mapT
  have hmk1 := run_makeMap_hint mapT (n1 : Int) W1
  have c2' := h1.c2
  have hs1 : W1.heap.size = w.heap.size + 1 := by rw [hW1, alloc_size]
  rw [hs1] at hmk1
  rw [hW1, dcells] at c2' hn1 hmk1
  obtain ⟨W2, hW2⟩ : ∃ W2, W2 = (w.alloc (.cells (dcells s (w.heap.size + 1) bo) 68)).alloc (.map #[] 0) := ⟨_, rfl⟩
  have k2 : Keep (fun _ => False) w W2 := by rw [hW2]; exact (Keep.alloc _ _ _).more (Keep.alloc _ _ _)
  obtain ⟨ft, hft⟩ : ∃ ft : Int → Option Value, ft = fun k => (s.there k).map fun _ => val k := ⟨_, rfl⟩
  obtain ⟨D, hD, ha⟩ := h.mt.keep k2 fun f => f
  have hn := MapIs.room hD ha (segT ok)
  rw [← hft] at ha
  have HFT : Hid (∀ k, ft k = (s.there k).map fun _ => val k) := fun k => by rw [hft]
  clear hft
  have hb2 : W2.heap[w.heap.size]? = some (.cells (dcells s (w.heap.size + 1) bo) 68 (0, 0)) := by
    rw [hW2]
    exact (Keep.alloc (fun _ => False) _ _).blk (heap_alloc_new w _) fun f => f
  have hm2 : MapIs W2 (w.heap.size + 1) (fun _ => none) := by
    have := mapIs_made (w.alloc (.cells (dcells s (w.heap.size + 1) bo) 68))
    rw [alloc_size] at this
    rw [hW2]; exact this
  have hz2 : W2.heap.size = w.heap.size + 2 := by rw [hW2, alloc_size, alloc_size]
  obtain ⟨n, en⟩ : ∃ n, n = Maps.size D := ⟨_, rfl⟩
  rw [← en] at hD hn
  have HA := hide ha
  have HB2 := hide hb2
  have HM2 := hide hm2
  have HK2 := hide k2
  have HZ2 := hide hz2
  have HW2 := hide hW2
  have EN := hide en
  rw [hW2, dcells] at hD
  have H := hide h
  have HOk := hide ok
  have hbt := h.mt.lt
  have hbo := h.mo.lt
  clear h ok h1 k1 hs1 ha hb2 hm2 hz2 k2 en hW1 hW2
  go_enter Try.func8, Try.ntmps8
  go_wp2_with (first
    | (at_range; refine wpList_range_own _ rfl _ 65 rfl 3 33 kint mapT rawE bt n D rfl hD ?_; intro w0 hrg0 hg0 hs0)
    | go_in)
  go_frame
  have e2 : ((w.alloc (.cells #[.int .i64 (s.cap : Nat), .int .i64 (s.used : Nat), .map (some (w.heap.size + 1)), .map (some bo), .bool s.left.isSome, .int .i64 (s.left.getD 0 : Nat), .bool s.down] 68)).alloc (.map #[] 0)).heap.size = w.heap.size + 2 := by rw [alloc_size, alloc_size]
  rw [e2] at hrg0 hs0 ⊢
  have HG0 : Hid (W2.grownBy w0 none) := by show _; rw [HW2.out]; exact hg0
  have HL0 : Hid (L1 w w0 s bo (Maps.has D) val) := by
    have kg : Keep (fun _ => False) W2 w0 := Keep.grown HG0.out fun _ e => by cases e
    refine ⟨?_, ⟨fun k l a => ?_, fun k k' g a => ?_, fun k g a => ?_⟩, HK2.out.more kg, kg.blk HB2.out fun f => f, by omega⟩
    · have : F1 s (Maps.has D) val = fun _ => none := by
        funext k
        unfold F1
        split
        · rfl
        · rename_i hh
          cases e : s.there k with
          | none => rfl
          | some l => exact absurd ((HA.out k).2 (val k) (by rw [HFT.out, e]; rfl)).1 hh
      rw [this]; exact HM2.out.keep kg fun f => f
    all_goals
      exfalso
      obtain ⟨a1, a2⟩ := a
      cases e : s.there k with
      | none => exact a1 e
      | some l => rw [((HA.out k).2 (val k) (by rw [HFT.out, e]; rfl)).1] at a2; cases a2
  clear hg0
  go_loopw [4] (fun _ wr => ∃ (left : Lit → Bool) (cnt : Nat) (nv : Int → Value), wr.ranges Try.prog 3 rawE bt (w.heap.size + 2) n D left cnt ∧ Hid (L1 w wr s bo left nv)) (fun _ wr => wr.rangeLeft bt (w.heap.size + 2))
  case atStart => exact ⟨_, _, val, hrg0, HL0⟩
  case round =>
    obtain ⟨left, cnt, nv, hrg, HL⟩ := hrel
    go_wp2_with (first
      | (at_next; refine wpList_next_raw rfl _ rfl bt (w.heap.size + 2) n D ft _ _ rfl hrg HA.out ?_ ?_)
      | go_in)
    · intro hc0 hl0
      obtain ⟨E, eE⟩ : ∃ E, E = wr.heap.size := ⟨_, rfl⟩
      have kwr := HL.out.k
      have c3r : wr.cell? ⟨p, 3, none⟩ = some (.map (some bo)) := kwr.cell c3 fun f => f
      obtain ⟨n2, hn2⟩ := (H.out.mo.keep kwr fun f => f).len mapO
      have hmk2 := run_makeMap_hint mapO (n2 : Int) wr
      rw [← eE] at hmk2
      have kal : Keep (fun _ => False) wr (wr.alloc (.map #[] 0)) := Keep.alloc _ _ _
      have hpb := kal.blk HL.out.b fun f => f
      have q3 := cell_blk hpb 3 (v := .map (some bo)) rfl
      have g3 := frozen_blk hpb 3
      have hzr := HL.out.z
      obtain ⟨W4, hW4⟩ : ∃ W4, W4 = (wr.alloc (.map #[] 0)).setCell ⟨w.heap.size, 3, none⟩ (.map (some E)) := ⟨_, rfl⟩
      have k4' : Keep (fun i => i = w.heap.size) wr W4 := by rw [hW4]; exact (kal.mono fun _ f => f.elim).more (keep_cell _ _ _ _)
      have k4 : Keep (fun _ => False) w W4 := kwr.trans k4' fun i e => .inr (by omega)
      have hz4 : W4.heap.size = E + 1 := by rw [hW4, eE]; simp [World.setCell]
      have hb4 : W4.heap[w.heap.size]? = some (.cells (dcells s (w.heap.size + 1) E) 68 (0, 0)) := by
        rw [hW4, set_blk hpb 3 _]
        rfl
      have hm4 : MapIs W4 E (fun _ => none) := by
        have := mapIs_made wr
        rw [← eE] at this
        rw [hW4]
        exact this.keep (keep_cell _ _ _ _) fun e => by omega
      have hmt4 : MapIs W4 (w.heap.size + 1) (fun k => (s.there k).map fun _ => nv k) := by
        have e1 : F1 s left nv = fun k => (s.there k).map fun _ => nv k := by funext k; unfold F1; rw [hl0]; rfl
        rw [← e1]
        exact HL.out.m.keep k4' fun e => by omega
      have hc4 : Cpy (fun g => w.heap.size + 3 ≤ g ∧ g < E ∨ E + 2 ≤ g) W4 s nv (fun k => s.there k ≠ none) :=
        ((HL.out.c.congr fun k _ hk => ⟨hk, hl0 _⟩).mono fun g h1 h2 => .inl ⟨h2, by rw [eE]; exact h1⟩).keep k4' fun g _ h2 e => by omega
      obtain ⟨fo, hfo⟩ : ∃ fo : Int → Option Value, fo = fun k => pastOf (s.there k) (s.safe k) (val k) := ⟨_, rfl⟩
      obtain ⟨D2, hD2, ha2⟩ := H.out.mo.keep k4 fun f => f
      have hn3 := MapIs.room hD2 ha2 (segO HOk.out)
      rw [← hfo] at ha2
      have HFO : Hid (∀ k, fo k = pastOf (s.there k) (s.safe k) (val k)) := fun k => by rw [hfo]
      obtain ⟨n3, en3⟩ : ∃ n, n = Maps.size D2 := ⟨_, rfl⟩
      rw [← en3] at hD2 hn3
      have HA2 := hide ha2
      have HB4 := hide hb4
      have HM4 := hide hm4
      have HMT4 := hide hmt4
      have HC4 := hide hc4
      have HK4 := hide k4
      have HZ4 := hide hz4
      have HW4 := hide hW4
      have HE : Hid (w.heap.size + 3 ≤ E) := by show _ ≤ _; omega
      have hboE : bo < E := by omega
      have c3d : (wr.alloc (.map #[] 0)).cell? ⟨p, 3, none⟩ = some (.map (some bo)) := kal.cell c3r fun f => f
      have c3e : ((wr.alloc (.map #[] 0)).setCell ⟨w.heap.size, 3, none⟩ (.map (some E))).cell? ⟨p, 3, none⟩ = some (.map (some bo)) := (keep_cell _ _ _ _).cell c3d fun e => by simp at e; omega
      rw [hW4] at hD2 hz4
      have EE := hide eE
      clear hrg HL kwr kal hpb k4' k4 hb4 hm4 hmt4 hc4 ha2 hfo hn3 en3 hW4 eE hD hrg0 HL0 HM2 HB2 hzr hn1 hmk1 c2' HA HFT hn
      go_wp2_with (first
        | (at_range; refine wpList_range_own _ rfl _ 66 rfl 3 71 kint mapO rawE bo n3 D2 rfl hD2 ?_; intro w5 hrg5 hg5 hs5)
        | go_in)
      go_frame
      rw [hz4] at hrg5 hs5 ⊢
      have HL5 : Hid (L2 w w5 s E (Maps.has D2) nv) := by
        have kg : Keep (fun _ => False) W4 w5 := by rw [HW4.out]; exact Keep.grown hg5 fun _ e => by cases e
        refine ⟨HMT4.out.keep kg fun f => f, ?_, ?_, HK4.out.more kg, kg.blk HB4.out fun f => f, by omega, HE.out⟩
        · have : F2 s (Maps.has D2) nv = fun _ => none := by
            funext k
            unfold F2
            split
            · rfl
            · rename_i hh
              cases e : pastOf (s.there k) (s.safe k) (val k) with
              | none =>
                have h1 := pastOf_isSome (t := s.there k) (s := s.safe k) (v := val k)
                have h2 := pastOf_isSome (t := s.there k) (s := s.safe k) (v := nv k)
                rw [e] at h1
                rw [← h1] at h2
                cases e2 : pastOf (s.there k) (s.safe k) (nv k) with
                | none => rfl
                | some c => rw [e2] at h2; cases h2
              | some c => exact absurd ((HA2.out k).2 c (by rw [HFO.out, e])).1 hh
          rw [this]; exact HM4.out.keep kg fun f => f
        · refine (HC4.out.congr fun k hk h => ?_).keep kg fun g _ _ f => f
          rcases h with h | h
          · exact h
          · intro e0
            obtain ⟨m, hm⟩ := Option.ne_none_iff_exists'.1 hk
            have hsm : s.safe k = some m := by unfold St.held at hm; rw [e0] at hm; exact hm
            have hp : pastOf (s.there k) (s.safe k) (val k) = some (.agg #[.bool true, .int .i64 0, val k]) := by rw [e0, hsm]; simp [pastOf]
            rw [((HA2.out k).2 _ (by rw [HFO.out, hp])).1] at h
            cases h
      clear hg5 HM4 HMT4 HC4 HB4 HK4
      go_loopw [6] (fun _ wr => ∃ (left : Lit → Bool) (cnt : Nat) (nv : Int → Value), wr.ranges Try.prog 3 rawE bo (E + 1) n3 D2 left cnt ∧ Hid (L2 w wr s E left nv)) (fun _ wr => wr.rangeLeft bo (E + 1))
      case atStart => exact ⟨_, _, nv, hrg5, HL5⟩
      case round =>
        clear HL5 hrg5 hl0 hc0
        obtain ⟨left, cnt, nv, hrg, HL⟩ := hrel
        go_wp2_with (first
          | (at_next; refine wpList_next_raw rfl _ rfl bo (E + 1) n3 D2 fo _ _ rfl hrg HA2.out ?_ ?_)
          | go_in)
        · intro hc0 hl0
          clear hrg
          go_wp2
          go_ret
          exact ⟨w.heap.size, rfl, copied hl0 HL.out.b HL.out.mt HL.out.m (by have := HL.out.e; omega) HL.out.c (Nat.le_refl _) (by omega) (by have := HL.out.e; omega) (by omega) (by have := HL.out.e; omega), HL.out.k⟩
        · intro x c w1 cnt1 hwx hlx hfu hrg1 hlt hg1 hs1 hen
          have hm0 : wr.rangeLeft bo (E + 1) = cnt := hrg.left_eq
          rw [HFO.out] at hfu
          have K1 : Hid (Keep (fun i => i = E + 1) wr w1) := Keep.grown hg1 fun k e => by injection e with e; exact e.symm
          have hEw := HE.out
          have kk1 : Keep (fun _ => False) w w1 := HL.out.k.trans K1.out fun i e => .inr (by omega)
          have hb1 := K1.out.blk HL.out.b (by omega)
          have HM1 : Hid (MapIs w1 E (F2 s left nv)) := HL.out.m.keep K1.out (by omega)
          have hz1 : E + 2 ≤ w1.heap.size := Nat.le_trans HL.out.z K1.out.size
          have hbx := bounds_i64 hwx
          have hx1 : -9223372036854775808 ≤ x := by omega
          have hx2 : x ≤ 9223372036854775807 := by omega
          have HLX := hide hlx
          cases hxt : s.there x with
          | some l =>
            rw [hxt] at hfu
            obtain ⟨bb, ii, rfl, hall⟩ := pastOf_there hfu
            obtain ⟨W6, hW6⟩ : ∃ W6, W6 = w1.alloc (.cells #[.bool bb, .int .i64 ii, .slice none 0 0] 71) := ⟨_, rfl⟩
            have k6 : Keep (fun _ => False) w1 W6 := by rw [hW6]; exact Keep.alloc _ _ _
            obtain ⟨a0, a1, a2⟩ := alloc3_cells hW6
            have c3x : W6.cell? ⟨w.heap.size, 3, none⟩ = some (.map (some E)) := cell_blk (k6.blk hb1 fun f => f) 3 rfl
            obtain ⟨w3, hst, m3, k3, z3⟩ := (HM1.out.keep k6 fun f => f).store mapO hx1 hx2 (segF2 HOk.out left nv) (.agg #[.bool bb, .int .i64 ii, .slice none 0 0])
            have HL3 : Hid (L2 w w3 s E (fun z => left z && !z.sameKey (.int .i64 x)) nv) := HL.out.stepA (by rw [hxt]; simp) (by rw [hxt]; exact hall _) K1.out k6 m3 k3
            have hrg3 := (hrg1.kept (k6.nil none) (by simp) (by simp)).kept k3.one (by simp; omega) (by simp)
            have HLay := hide (lay_none none 0 W6)
            rw [hW6] at a0 a1 a2 c3x hst HLay
            clear hrg hfu hxt kk1 hb1 hlx hs1 hg1 hbx hwx hW6 k6 m3 k3 z3 hall HM1 HL hEw
            go_wp2_with (go_at_call 29; refine HLay.out.mono ?_; rintro e w7 ⟨rfl, rfl⟩)
            go_roundw
            case rel => exact ⟨_, cnt1, _, hrg3, HL3⟩
            case measure => rw [hrg3.left_eq, hm0]; exact hlt
          | none =>
            rw [hxt] at hfu
            obtain ⟨m, hsm, rfl, hall⟩ := pastOf_away hfu
            have hhe : s.held x = some m := by unfold St.held; rw [hxt]; exact hsm
            have hln := HOk.out.len x m hhe
            obtain ⟨a, cc, hv, hrd, _, _, _⟩ := ((H.out.row x m hhe).keep kk1 fun _ _ f => f).rd (by omega)
            rw [hv] at hen ⊢
            obtain ⟨W6, hW6⟩ : ∃ W6, W6 = w1.alloc (.cells #[.bool true, .int .i64 0, .slice a m.length cc] 71) := ⟨_, rfl⟩
            have k6 : Keep (fun _ => False) w1 W6 := by rw [hW6]; exact Keep.alloc _ _ _
            obtain ⟨a0, a1, a2⟩ := alloc3_cells hW6
            have hb6 : W6.heap[w1.heap.size]? = some (.cells #[.bool true, .int .i64 0, .slice a m.length cc] 71 (0, 0)) := by rw [hW6]; exact heap_alloc_new w1 _
            have hz6 : W6.heap.size = w1.heap.size + 1 := by rw [hW6, alloc_size]
            have HLay := hide (lay_any (.slice none 0 0) [] m a m.length cc W6 (row_nil _) (hrd.stay (S := fun _ => False) k6 fun _ _ _ f => f) (by simp; omega))
            have HB6 := hide hb6
            have K6 := hide k6
            have HB1 := hide hb1
            have HXT := hide hxt
            have HSM := hide hsm
            have HALL := hide hall
            have HW6 := hide hW6
            have HZ6 := hide hz6
            rw [hW6] at a0 a1 a2 HLay
            clear hrg hfu hxt kk1 hb1 hlx hs1 hg1 hbx hwx hW6 k6 hall hEw hhe hln hv hrd hb6 hz6 hsm
            go_wp2_with (first
              | (go_at_call 29
                 refine HLay.out.mono ?_
                 rintro e w7 ⟨v', rfl, hrow, hkp, hnew⟩
                 rw [← HW6.out] at hkp hnew
                 have k7 : Keep (fun _ => False) W6 w7 := hkp.mono fun i e => by cases e
                 have b7 := k7.blk HB6.out fun f => f
                 have d0 := cell_blk b7 0 (v := .bool true) rfl
                 have d1 := cell_blk b7 1 (v := .int .i64 0) rfl
                 have d2 := cell_blk b7 2 (v := .slice a m.length cc) rfl
                 have f2 := frozen_blk b7 2
                 obtain ⟨va, vn, vc, hvs⟩ : ∃ va vn vc, v' = .slice va vn vc := by obtain ⟨x, y, e⟩ := ownsRow_shape hrow.1; exact ⟨x, _, y, e⟩
                 subst hvs
                 have hn : ∀ g, (Value.slice va vn vc).ownBlock = some g → w1.heap.size < g := fun g e => hnew.elim (fun e' => by rw [e] at e'; cases e') fun e' => by have := e' g e; have := HZ6.out; omega
                 obtain ⟨W8, hW8⟩ : ∃ W8, W8 = w7.setCell ⟨w1.heap.size, 2, none⟩ (.slice va vn vc) := ⟨_, rfl⟩
                 have k8 : Keep (fun _ => False) w1 W8 := by rw [hW8]; exact (K6.out.more k7).trans (keep_cell _ _ _ _) fun i e => .inr (by omega)
                 have hr8 : Row W8 (.slice va vn vc) m := by rw [hW8]; exact hrow.keep (keep_cell _ _ _ _) fun g e e' => by have := hn g e; omega
                 have b8 : W8.heap[w1.heap.size]? = some (.cells #[.bool true, .int .i64 0, .slice va vn vc] 71 (0, 0)) := by rw [hW8, set_blk b7 2 _]; rfl
                 have g0 := cell_blk b8 0 (v := .bool true) rfl
                 have g1 := cell_blk b8 1 (v := .int .i64 0) rfl
                 have g2 := cell_blk b8 2 (v := .slice va vn vc) rfl
                 have c3x : W8.cell? ⟨w.heap.size, 3, none⟩ = some (.map (some E)) := cell_blk (k8.blk HB1.out fun f => f) 3 rfl
                 obtain ⟨w3, hst, m3, k3, z3⟩ := (HM1.out.keep k8 fun f => f).store mapO hx1 hx2 (segF2 HOk.out left nv) (.agg #[.bool true, .int .i64 0, .slice va vn vc])
                 have HL3 : Hid (L2 w w3 s E (fun z => left z && !z.sameKey (.int .i64 x)) (upd nv x (.slice va vn vc))) := HL.out.stepB HXT.out HSM.out HLX.out (by rw [HXT.out]; exact HALL.out _) K1.out k8 hr8 (fun g e => Nat.le_of_lt (hn g e)) m3 k3
                 have hrg3 := (hrg1.kept (k8.nil none) (by simp) (by simp)).kept k3.one (by simp; omega) (by simp)
                 rw [hW8] at g0 g1 g2 c3x hst
                 clear hrow hkp hnew k7 b7 hn hW8 k8 hr8 b8 m3 k3 z3))
            go_roundw
            case rel => exact ⟨_, cnt1, _, hrg3, HL3⟩
            case measure => rw [hrg3.left_eq, hm0]; exact hlt
    · intro x c w1 cnt1 hwx hlx hfu hrg1 hlt hg1 hs1 hen
      have hm0 : wr.rangeLeft bt (w.heap.size + 2) = cnt := hrg.left_eq
      rw [HFT.out] at hfu
      obtain ⟨l, hxl, rfl⟩ : ∃ l, s.there x = some l ∧ val x = c := by
        cases e : s.there x with
        | none => simp [e] at hfu
        | some l => simp [e] at hfu; exact ⟨l, rfl, hfu⟩
      have hhe : s.held x = some l := by unfold St.held; rw [hxl]
      have hln := HOk.out.len x l hhe
      have K1 : Hid (Keep (fun i => i = w.heap.size + 2) wr w1) := Keep.grown hg1 fun k e => by injection e with e; exact e.symm
      have kk1 : Keep (fun _ => False) w w1 := HL.out.k.trans K1.out fun i e => .inr (by omega)
      obtain ⟨a, cc, hv, hrd, _, _, _⟩ := ((H.out.row x l hhe).keep kk1 fun _ _ f => f).rd (by omega)
      have hrd' : Rd w1.drew a l.length l := hrd.stay (S := fun _ => False) (Keep.drew _ _) fun _ _ _ f => f
      have HLay := hide (lay_any (.slice none 0 0) [] l a l.length cc w1.drew (row_nil _) hrd' (by simp; omega))
      have hb1 := K1.out.blk HL.out.b (by omega)
      have C2 : Hid (w1.drew.cell? ⟨w.heap.size, 2, none⟩ = some (.map (some (w.heap.size + 1)))) := cell_blk hb1 2 rfl
      have M1 : Hid (MapIs w1.drew (w.heap.size + 1) (F1 s left nv)) := (HL.out.m.keep K1.out (by omega)).of_blk rfl
      have HXL := hide hxl
      have HLX := hide hlx
      have hbx := bounds_i64 hwx
      have hx1 : -9223372036854775808 ≤ x := by omega
      have hx2 : x ≤ 9223372036854775807 := by omega
      have HZ1 := hide (HL.out.z)
      rw [hv] at hen ⊢
      clear hrg hfu hxl hhe kk1 hv hrd hrd' hb1 hlx hs1 hg1 hbx hwx
      go_wp2
      go_region_held3 (fun wx => wx.cell? ⟨w.heap.size, 2, none⟩ = some (.map (some (w.heap.size + 1)))) (first | (exact C2.out) | (exact HKl.out.cell C2.out fun f => f) | (exact K3.out.cell (HKl.out.cell C2.out fun f => f) (by simp)) | go_keep)
        ((go_at_call 29
          refine HLay.out.mono ?_
          rintro e W1 ⟨v', rfl, hrow, hkp, hnew⟩
          have hkp' : Keep (fun _ => False) w1.drew W1 := hkp.mono fun i e => by cases e
          obtain ⟨w3, hst, m3, k3, z3⟩ := (M1.out.keep hkp' fun f => f).store mapT hx1 hx2 (segF1 HOk.out left nv) v'
          have M3 := hide m3
          have K3 := hide k3
          have HRow1 := hide hrow
          have HKl := hide hkp'
          have HNew := hide hnew
          clear m3 k3 hrow hkp hkp' hnew z3))
      have hrg3 := ((hrg1.kept ((Keep.drew (fun _ => False) w1).nil none) (by simp) (by simp)).kept (HKl.out.nil none) (by simp) (by simp)).kept K3.out.one (by simp; omega) (by simp)
      have HL3 : Hid (L1 w w3 s bo (fun z => left z && !z.sameKey (.int .i64 x)) (upd nv x v')) := HL.out.step HXL.out HLX.out K1.out ((Keep.drew _ _).more HKl.out) HRow1.out (fun g e => HNew.out.elim (fun e' => by rw [e] at e'; cases e') fun e' => e' g e) M3.out K3.out
      go_wp2
      go_roundw
      case rel => exact ⟨_, cnt1, _, hrg3, HL3⟩
      case measure => rw [hrg3.left_eq, hm0]; exact hlt

end Go.Proofs.Ytilpidioengnbaa
