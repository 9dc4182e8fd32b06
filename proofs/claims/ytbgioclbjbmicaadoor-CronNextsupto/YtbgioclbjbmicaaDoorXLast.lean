/- A region that draws its order, all of whose operations but the last are quiet in a class of worlds, and whose last one waits for all others. -/
import Derived.Deep.Quiet
import Derived.Lib.QuietBelow
import Derived.Test.YtbgioclbjbmicaaDoorXBase
namespace Go.Proofs.YtbgioclbjbmicaaDoor
open Go.RowKit Go.Sort

section
variable {P : Program} {md : Region.Mode} {C : World → Prop} {ops ops2 : Array Oper} {n : Nat} {o o2 : Oper}

/-- What the two regions share. -/
structure Twin (md : Region.Mode) (ops ops2 : Array Oper) (n : Nat) (o o2 : Oper) : Prop where
  size : ops.size = n + 1
  size2 : ops2.size = n + 1
  same : ∀ i, i < n → ops2[i]? = ops[i]?
  last : ops[n]? = some o
  last2 : ops2[n]? = some o2
  after : o2.after = o.after
  g1 : o.guard = none
  g2 : o2.guard = none
  d1 : o.dst = none
  d2 : o2.dst = none
  all : ∀ i, i < n → ∃ e ∈ o.after, Region.binds md e = true ∧ e.on = i
  low : ∀ i oi, ops[i]? = some oi → ∀ e ∈ oi.after, Region.binds md e = true → e.on < i
theorem Twin.at {i : Nat} (h : Twin md ops ops2 n o o2) (hi : i ≠ n) : ops2[i]? = ops[i]? := by
  rcases Nat.lt_or_ge i n with k | k
  · exact h.same i k
  · rw [Array.getElem?_eq_none (by rw [h.size2]; omega), Array.getElem?_eq_none (by rw [h.size]; omega)]
theorem Twin.ready (h : Twin md ops ops2 n o o2) (listed : Array Bool) : Region.ready md ops2 listed = Region.ready md ops listed := by
  unfold Region.ready
  rw [h.size, h.size2]
  congr 1
  funext i
  by_cases e : i = n
  · subst e; rw [h.last, h.last2]; simp [h.after]
  · rw [h.at e]
theorem Twin.yielded (h : Twin md ops ops2 n o o2) (t : Array Value) : yielded ops2 t = yielded ops t := by
  funext j
  unfold Go.yielded
  by_cases e : j = n
  · subst e; rw [h.last, h.last2]; simp [h.d1, h.d2]
  · rw [h.at e]
theorem first_free (listed : Array Bool) : ∀ k : Nat, (∀ i, i < k → listed.getD i true = true) ∨ ∃ m, m < k ∧ listed.getD m true = false ∧ ∀ i, i < m → listed.getD i true = true
  | 0 => .inl fun i hi => absurd hi (by omega)
  | k + 1 => by
    rcases first_free listed k with h | ⟨m, h1, h2, h3⟩
    · cases hk : listed.getD k true
      · exact .inr ⟨k, by omega, hk, h⟩
      · exact .inl fun i hi => if e : i = k then by rw [e]; exact hk else h i (by omega)
    · exact .inr ⟨m, by omega, h2, h3⟩
theorem getD_tf {l : Array Bool} {i : Nat} (hi : i < l.size) : l.getD i false = l.getD i true := by simp [Array.getD, hi]
/-- As long as the last is not done something may be done. -/
theorem Twin.some_ready (h : Twin md ops ops2 n o o2) (listed : Array Bool) (hs : listed.size = n + 1) (hn : listed.getD n true = false) : Region.ready md ops listed ≠ [] := by
  rcases first_free listed (n + 1) with k | ⟨m, h1, h2, h3⟩
  · rw [k n (by omega)] at hn; cases hn
  · obtain ⟨om, hom⟩ : ∃ om, ops[m]? = some om := ⟨_, Array.getElem?_eq_getElem (by rw [h.size]; exact h1)⟩
    have : m ∈ Region.ready md ops listed := by
      unfold Region.ready
      rw [List.mem_filter]
      refine ⟨by rw [h.size]; simpa using h1, ?_⟩
      rw [h2, hom]
      simp only [Bool.not_false, Bool.true_and, Option.map_some, Option.getD_some]
      rw [Array.all_eq_true_iff_forall_mem]
      intro e he
      cases hb : Region.binds md e
      · rfl
      · have hl := h.low m om hom e he hb
        rw [getD_tf (by omega), h3 e.on hl]; rfl
    intro e
    rw [e] at this
    cases this
/-- Where the last may be done all others are, and behind it nothing is left. -/
theorem Twin.none_left (h : Twin md ops ops2 n o o2) (listed : Array Bool) (hs : listed.size = n + 1) (hn : n ∈ Region.ready md ops listed) : Region.ready md ops (listed.setIfInBounds n true) = [] := by
  unfold Region.ready at hn
  rw [List.mem_filter] at hn
  obtain ⟨_, hn⟩ := hn
  rw [h.last] at hn
  simp only [Option.map_some, Option.getD_some, Bool.and_eq_true] at hn
  have hall := Array.all_eq_true_iff_forall_mem.1 hn.2
  unfold Region.ready
  rw [List.filter_eq_nil_iff]
  intro i hi
  have hi' : i < n + 1 := by rw [← h.size]; simpa using hi
  by_cases e : i = n
  · subst e
    simp [Array.getD, hs]
  · obtain ⟨ed, h1, h2, h3⟩ := h.all i (by omega)
    have := hall ed h1
    rw [h2, h3] at this
    have hl : listed.getD i false = true := by simpa using this
    have hl2 : (listed.setIfInBounds n true).getD i true = true := by
      rw [getD_tf (by omega)] at hl
      have hne : ¬ n = i := fun k => e k.symm
      simp only [Array.getD, Array.size_setIfInBounds] at hl ⊢
      split
      · rename_i hlt
        rw [dif_pos hlt] at hl
        simp only [Array.getInternal_eq_getElem] at hl ⊢
        rw [Array.getElem_setIfInBounds]
        split
        · rfl
        · exact hl
      · rfl
    rw [hl2]
    simp

theorem wpAny_of_quiet_last {Q2 : Act → Prop} {Q : Exit → Act → World → Prop} (h : Twin md ops ops2 n o o2) (hQ : ∀ a w, C w → Q2 a → o.wp P a w (fun a' w' => Q .normal a' w') Q) :
    ∀ (fuel : Nat) (listed : Array Bool) (a : Act) (w : World), C w → listed.size = n + 1 → listed.getD n true = false → wpAnyQ P md ops2 C Q2 fuel listed a → wpAny P md ops Q fuel listed a w
  | 0, listed, a, w, _, hs, hn, hh => by
    have := hh.1
    rw [h.ready] at this
    exact absurd this (h.some_ready listed hs hn)
  | fuel + 1, listed, a, w, hC, hs, hn, hh => by
    refine ⟨fun k => absurd k (h.some_ready listed hs hn), fun i hi => ?_⟩
    have hq := hh.2 i (by rw [h.ready]; exact hi)
    by_cases e : i = n
    · subst e
      have hnl := h.none_left listed hs hi
      have hK : wpAnyQ P md ops2 C Q2 fuel (listed.setIfInBounds i true) a := by
        unfold qOp at hq
        rw [h.last2] at hq
        simp only [Region.wanted, h.g2, if_true] at hq
        obtain ⟨v, _, hv⟩ := hq
        rw [h.d2] at hv
        exact hv
      have hQ2 : Q2 a := by
        cases fuel with
        | zero => exact hK.2
        | succ f => exact hK.1 (by rw [h.ready]; exact hnl)
      unfold wpOp
      rw [h.last]
      simp only [Region.wanted, h.g1, if_true]
      refine .inl (Oper.wp_mono (fun a' w' hq' => ?_) (hQ a w hC hQ2))
      cases fuel with
      | zero => exact ⟨hnl, hq'⟩
      | succ f => exact ⟨fun _ => hq', fun j hj => by rw [hnl] at hj; cases hj⟩
    · have hq' : qOp P ops C i (wpAnyQ P md ops2 C Q2 fuel (listed.setIfInBounds i true)) a := by
        unfold qOp at hq ⊢
        rw [h.at e] at hq
        rw [h.yielded] at hq
        exact hq
      refine wpOp_of_qOp hC (fun a' w' hC' hK => ?_) hq'
      refine wpAny_of_quiet_last h hQ fuel _ a' w' hC' (by simpa using hs) ?_ hK
      have hne : ¬ i = n := e
      simp only [Array.getD, Array.size_setIfInBounds] at hn ⊢
      split
      · rename_i hlt
        rw [dif_pos hlt] at hn
        simp only [Array.getInternal_eq_getElem] at hn ⊢
        rw [Array.getElem_setIfInBounds, if_neg hne]
        exact hn
      · rename_i hlt
        rw [dif_neg hlt] at hn
        exact hn
end

/-- A region written out: the walk is of l2, which has something quiet in its last one's place. -/
theorem wp_region_quiet_last {P : Program} {id : Nat} {Q : Exit → Act → World → Prop} {a : Act} {w : World} {l l2 : List Oper} {n : Nat} {o o2 : Oper} (hm : P.follows .mixedOrders = true) (hB : Region.lexB .any l2.toArray = true)
    (h : Twin .any l.toArray l2.toArray n o o2)
    (hw : wpQuiet P l2.toArray (fun w' => ∃ p : Regrown, w' = grow (redrawn w p.d) p.os) (fun a' => ∀ w', (∃ p : Regrown, w' = grow (redrawn w p.d) p.os) → o.wp P a' w' (fun a'' w'' => Q .normal a'' w'') Q) l2 a) : (Code.region id l.toArray true).wp P Q a w := by
  simp only [Region.lexB, Bool.and_eq_true] at hB
  refine wp_region_any hm ?_
  refine wpAny_of_quiet_last (C := fun w' => ∃ p : Regrown, w' = grow (redrawn w p.d) p.os) (Q2 := fun a' => ∀ w', (∃ p : Regrown, w' = grow (redrawn w p.d) p.os) → o.wp P a' w' (fun a'' w'' => Q .normal a'' w'') Q) h (fun a w hC hq => hq w hC) _ _ _ _ ⟨⟨w.drawn + 1, #[]⟩, by rw [grow_empty]; rfl⟩ (by simp [h.size]) ?_ ?_
  · have : n < l.toArray.size := by rw [h.size]; omega
    simp [Array.getD] <;> simpa using this
  · have := wpAnyQ_lex (P := P) (C := fun w' => ∃ p : Regrown, w' = grow (redrawn w p.d) p.os) (md := .any) hB.1 l2 0 (Array.replicate l2.toArray.size false) a (by simp) (by simpa using hB.2) hw
    have e1 : l.toArray.size = l2.length := by rw [h.size, ← h.size2]; simp
    rw [e1]
    simpa using this

/-- Does the last wait for all, and each for such ahead of it alone? -/
def lastB (l : List Oper) : Bool :=
  match l.getLast? with
  | none => false
  | some o => o.guard.isNone && o.dst.isNone && ((List.range (l.length - 1)).all fun i => o.after.any fun e => Region.binds .any e && e.on == i) &&
    ((List.range l.length).all fun i => match l[i]? with
      | none => true
      | some x => x.after.all fun e => !Region.binds .any e || decide (e.on < i))
/-- Something quiet in an operation's place. -/
def still (o : Oper) : Oper := ⟨none, .move (.const (.bool true)), 0, o.pos, o.after, none⟩
theorem twin_of {l : List Oper} {o : Oper} (hl : l.getLast? = some o) (hb : lastB l = true) : Twin .any l.toArray (l.dropLast ++ [still o]).toArray (l.length - 1) o (still o) := by
  unfold lastB at hb
  rw [hl] at hb
  simp only [Bool.and_eq_true, Option.isNone_iff_eq_none] at hb
  obtain ⟨⟨⟨h1, h2⟩, h3⟩, h4⟩ := hb
  obtain ⟨init, rfl⟩ : ∃ init, l = init ++ [o] := List.getLast?_eq_some_iff.1 hl
  have e : (init ++ [o]).length - 1 = init.length := by simp
  rw [e] at h3 ⊢
  refine ⟨by simp, by simp, fun i hi => ?_, by simp, by simp, rfl, h1, rfl, h2, rfl, fun i hi => ?_, fun i oi hoi ed hed hbd => ?_⟩
  · simp [List.getElem?_append, hi]
  · have := List.all_eq_true.1 h3 i (by simpa using hi)
    obtain ⟨ed, hm, hx⟩ := Array.any_eq_true'.1 this
    simp only [Bool.and_eq_true, beq_iff_eq] at hx
    exact ⟨ed, hm, hx.1, hx.2⟩
  · have hi : i < (init ++ [o]).length := by
      rcases Nat.lt_or_ge i (init ++ [o]).length with k | k
      · exact k
      · rw [Array.getElem?_eq_none (by simpa using k)] at hoi; cases hoi
    have := List.all_eq_true.1 h4 i (by simpa using hi)
    rw [show (init ++ [o])[i]? = some oi by simpa using hoi] at this
    have := Array.all_eq_true_iff_forall_mem.1 this ed hed
    rw [hbd] at this
    simpa using this
theorem wp_region_quiet_store {P : Program} {id : Nat} {Q : Exit → Act → World → Prop} {a : Act} {w : World} {l : List Oper} {o : Oper} (hl : l.getLast? = some o) (hm : P.follows .mixedOrders = true) (hB : Region.lexB .any (l.dropLast ++ [still o]).toArray = true) (hb : lastB l = true)
    (hw : wpQuiet P (l.dropLast ++ [still o]).toArray (fun w' => ∃ p : Regrown, w' = grow (redrawn w p.d) p.os) (fun a' => ∀ w', (∃ p : Regrown, w' = grow (redrawn w p.d) p.os) → o.wp P a' w' (fun a'' w'' => Q .normal a'' w'') Q) (l.dropLast ++ [still o]) a) : (Code.region id l.toArray true).wp P Q a w :=
  wp_region_quiet_last hm hB (twin_of hl hb) hw
end Go.Proofs.YtbgioclbjbmicaaDoor
