/- A region that draws its order, whose last operation waits for all others: the others by a walk under S, which the last one need not keep. -/
import Derived.OrdersHeld
import Derived.Deep.RegionHeld
namespace Go.Proofs.Ytilpidioengnbaa
namespace RL


section
variable {P : Program} {md : Region.Mode} {ops ops2 : Array Oper} {n : Nat} {o o2 : Oper}

/-- What the two regions share. -/
structure Twin (md : Region.Mode) (ops ops2 : Array Oper) (n : Nat) (o o2 : Oper) : Prop where
  size : ops.size = n + 1
  size2 : ops2.size = n + 1
  same : ∀ i, i < n → ops2[i]? = ops[i]?
  last : ops[n]? = some o
  last2 : ops2[n]? = some o2
  after : o2.after = o.after
  g1 : o.guard = none
  g2 : o2.guard = none
  d2 : o2.dst = none
  gd : ∀ (i : Nat) (oi : Oper), ops[i]? = some oi → oi.guard = none
  all : ∀ i, i < n → ∃ (j : Nat) (oj : Oper) (e : _), i < j ∧ j ≤ n ∧ ops[j]? = some oj ∧ e ∈ oj.after ∧ Region.binds md e = true ∧ e.on = i
  low : ∀ i oi, ops[i]? = some oi → ∀ e ∈ oi.after, Region.binds md e = true → e.on < i
theorem Twin.at {i : Nat} (h : Twin md ops ops2 n o o2) (hi : i ≠ n) : ops2[i]? = ops[i]? := by
  rcases Nat.lt_or_ge i n with k | k
  · exact h.same i k
  · rw [Array.getElem?_eq_none (by rw [h.size2]; omega), Array.getElem?_eq_none (by rw [h.size]; omega)]
theorem Twin.ready (h : Twin md ops ops2 n o o2) (listed : Array Bool) : Region.ready md ops2 listed = Region.ready md ops listed := by
  unfold Region.ready
  rw [h.size, h.size2]
  congr 1
  funext i
  by_cases e : i = n
  · subst e; rw [h.last, h.last2]; simp [h.after]
  · rw [h.at e]
theorem first_free (listed : Array Bool) : ∀ k : Nat, (∀ i, i < k → listed.getD i true = true) ∨ ∃ m, m < k ∧ listed.getD m true = false ∧ ∀ i, i < m → listed.getD i true = true
  | 0 => .inl fun i hi => absurd hi (by omega)
  | k + 1 => by
    rcases first_free listed k with h | ⟨m, h1, h2, h3⟩
    · cases hk : listed.getD k true
      · exact .inr ⟨k, by omega, hk, h⟩
      · exact .inl fun i hi => if e : i = k then by rw [e]; exact hk else h i (by omega)
    · exact .inr ⟨m, by omega, h2, h3⟩
theorem getD_tf {l : Array Bool} {i : Nat} (hi : i < l.size) : l.getD i false = l.getD i true := by simp [Array.getD, hi]
/-- As long as the last is not done something may be done. -/
theorem Twin.some_ready (h : Twin md ops ops2 n o o2) (listed : Array Bool) (hs : listed.size = n + 1) (hn : listed.getD n true = false) : Region.ready md ops listed ≠ [] := by
  rcases first_free listed (n + 1) with k | ⟨m, h1, h2, h3⟩
  · rw [k n (by omega)] at hn; cases hn
  · obtain ⟨om, hom⟩ : ∃ om, ops[m]? = some om := ⟨_, Array.getElem?_eq_getElem (by rw [h.size]; exact h1)⟩
    have : m ∈ Region.ready md ops listed := by
      unfold Region.ready
      rw [List.mem_filter]
      refine ⟨by rw [h.size]; simpa using h1, ?_⟩
      rw [h2, hom]
      simp only [Bool.not_false, Bool.true_and, Option.map_some, Option.getD_some]
      rw [Array.all_eq_true_iff_forall_mem]
      intro e he
      cases hb : Region.binds md e
      · rfl
      · have hl := h.low m om hom e he hb
        rw [getD_tf (by omega), h3 e.on hl]; rfl
    intro e
    rw [e] at this
    cases this
/-- who is done has waited -/
def Closed (md : Region.Mode) (ops : Array Oper) (listed : Array Bool) : Prop := ∀ (i : Nat) (oi : Oper), ops[i]? = some oi → listed.getD i false = true → ∀ e ∈ oi.after, Region.binds md e = true → listed.getD e.on false = true
theorem set_getD (l : Array Bool) (n i : Nat) (hn : n < l.size) : (l.setIfInBounds n true).getD i false = if i = n then true else l.getD i false := by
  by_cases h : i = n
  · subst h; simp [Array.getD, hn]
  · rw [if_neg h]
    have hne : ¬ n = i := fun k => h k.symm
    simp only [Array.getD, Array.size_setIfInBounds]
    split
    · simp only [Array.getInternal_eq_getElem]
      rw [Array.getElem_setIfInBounds, if_neg hne]
    · rfl
theorem ready_after {md : Region.Mode} {ops : Array Oper} {listed : Array Bool} {i : Nat} {oi : Oper} (hi : i ∈ Region.ready md ops listed) (ho : ops[i]? = some oi) : ∀ e ∈ oi.after, Region.binds md e = true → listed.getD e.on false = true := by
  unfold Region.ready at hi
  rw [List.mem_filter] at hi
  obtain ⟨_, hi⟩ := hi
  rw [ho] at hi
  simp only [Option.map_some, Option.getD_some, Bool.and_eq_true] at hi
  intro e he hb
  have := Array.all_eq_true_iff_forall_mem.1 hi.2 e he
  rw [hb] at this
  simpa using this
theorem Closed.step {md : Region.Mode} {ops : Array Oper} {listed : Array Bool} (h : Closed md ops listed) {i : Nat} (hi : i ∈ Region.ready md ops listed) (hs : i < listed.size) : Closed md ops (listed.setIfInBounds i true) := by
  intro j oj hj hl e he hb
  rw [set_getD _ _ _ hs] at hl ⊢
  split
  · rfl
  · split at hl
    · rename_i hji
      subst hji
      exact ready_after hi hj e he hb
    · exact h j oj hj hl e he hb
/-- Where the last may be done all others are, and behind it nothing is left. -/
theorem Twin.none_left (h : Twin md ops ops2 n o o2) (listed : Array Bool) (hs : listed.size = n + 1) (hc : Closed md ops listed) (hn : n ∈ Region.ready md ops listed) : Region.ready md ops (listed.setIfInBounds n true) = [] := by
  have hall : ∀ k i, i + k = n → 0 < k → listed.getD i false = true := by
    intro k
    induction k using Nat.strongRecOn with
    | ind k ih =>
      intro i hik hk
      obtain ⟨j, oj, e, h1, h2, h3, h4, h5, h6⟩ := h.all i (by omega)
      rw [← h6]
      by_cases hjn : j = n
      · subst hjn; exact ready_after hn h3 e h4 h5
      · exact hc j oj h3 (ih (n - j) (by omega) j (by omega) (by omega)) e h4 h5
  unfold Region.ready
  rw [List.filter_eq_nil_iff]
  intro i hi
  have hi' : i < n + 1 := by rw [← h.size]; simpa using hi
  have hl2 : (listed.setIfInBounds n true).getD i true = true := by
    rw [← getD_tf (by simpa using (by omega : i < listed.size)), set_getD _ _ _ (by omega)]
    split
    · rfl
    · exact hall (n - i) i (by omega) (by omega)
  rw [hl2]
  simp


/-- what stands behind all but the last: the last one is run -/
def endQ (P : Program) (o : Oper) (Q : Exit → Act → World → Prop) : Exit → Act → World → Prop
  | .normal, a, w => o.wp P a w (fun a' w' => Q .normal a' w') Q
  | e, a, w => Q e a w
theorem wp_endQ {o oi : Oper} {a : Act} {w : World} {K K' : Act → World → Prop} {Q : Exit → Act → World → Prop} (h : ∀ a w, K a w → K' a w) (hh : oi.wp P a w K (endQ P o Q)) : oi.wp P a w K' Q := by
  unfold Oper.wp at *
  generalize (execOp a.eval oi).run P w = r at *
  cases r with
  | ok n w' =>
    cases n <;> simp only [Oper.upon] at hh ⊢ <;>
      first
        | exact h _ _ hh
        | exact Calls.mono hh (fun e w'' he => by cases e <;> first | exact h _ _ he | exact he)
        | exact Rows.mono hh (fun _ _ he => h _ _ he)
  | halt x w' => cases x <;> simp only [Oper.upon] at hh ⊢ <;> exact hh

theorem wpAny_last {Q : Exit → Act → World → Prop} (h : Twin md ops ops2 n o o2) (hs2 : ∀ a w, o2.asks P a w → False) (hst : ∀ a w K, o2.wp P a w K (endQ P o Q) → K a w) :
    ∀ (fuel : Nat) (listed : Array Bool) (a : Act) (w : World), listed.size = n + 1 → Closed md ops listed → listed.getD n true = false → wpAny P md ops2 (endQ P o Q) fuel listed a w → wpAny P md ops Q fuel listed a w
  | 0, listed, a, w, hs, _, hn, hh => by
    have := hh.1
    rw [h.ready] at this
    exact absurd this (h.some_ready listed hs hn)
  | fuel + 1, listed, a, w, hs, hcl, hn, hh => by
    refine ⟨fun k => absurd k (h.some_ready listed hs hn), fun i hi => ?_⟩
    have hq := hh.2 i (by rw [h.ready]; exact hi)
    by_cases e : i = n
    · subst e
      have hnl := h.none_left listed hs hcl hi
      have hK : wpAny P md ops2 (endQ P o Q) fuel (listed.setIfInBounds i true) a w := by
        unfold wpOp at hq
        rw [h.last2] at hq
        simp only [Region.wanted, h.g2, if_true] at hq
        rcases hq with hq | hq
        · exact hst _ _ _ hq
        · exact (hs2 _ _ hq.1).elim
      have hQ2 : endQ P o Q .normal a w := by
        cases fuel with
        | zero => exact hK.2
        | succ f => exact hK.1 (by rw [h.ready]; exact hnl)
      unfold wpOp
      rw [h.last]
      simp only [Region.wanted, h.g1, if_true]
      refine .inl (Oper.wp_mono (fun a' w' hq' => ?_) hQ2)
      cases fuel with
      | zero => exact ⟨hnl, hq'⟩
      | succ f => exact ⟨fun _ => hq', fun j hj => by rw [hnl] at hj; cases hj⟩
    · unfold wpOp at hq ⊢
      rw [h.at e] at hq
      have hnext : ∀ a w, wpAny P md ops2 (endQ P o Q) fuel (listed.setIfInBounds i true) a w → wpAny P md ops Q fuel (listed.setIfInBounds i true) a w := fun a' w' hK => by
        refine wpAny_last h hs2 hst fuel _ a' w' (by simpa using hs) (hcl.step hi (by
          unfold Region.ready at hi
          have := (List.mem_filter.1 hi).1
          rw [hs, ← h.size]; simpa using this)) ?_ hK
        have hne : ¬ i = n := e
        simp only [Array.getD, Array.size_setIfInBounds] at hn ⊢
        split
        · rename_i hlt
          rw [dif_pos hlt] at hn
          simp only [Array.getInternal_eq_getElem] at hn ⊢
          rw [Array.getElem_setIfInBounds, if_neg hne]
          exact hn
        · rename_i hlt
          rw [dif_neg hlt] at hn
          exact hn
      cases ho : ops[i]? with
      | none => rw [ho] at hq; exact hnext _ _ hq
      | some oi =>
        rw [ho] at hq
        simp only [Region.wanted, h.gd i oi ho, if_true] at hq ⊢
        rcases hq with hq | ⟨hq1, hq2⟩
        · exact .inl (wp_endQ hnext hq)
        · exact .inr ⟨hq1, hq2⟩
end

/-- Does the last wait for all, and each for such ahead of it alone? -/
def lastB (l : List Oper) : Bool :=
  match l.getLast? with
  | none => false
  | some _ => (l.all fun x => x.guard.isNone) && ((List.range (l.length - 1)).all fun i => (List.range l.length).any fun j => decide (i < j) && (match l[j]? with | none => false | some x => x.after.any fun e => Region.binds .any e && e.on == i)) &&
    ((List.range l.length).all fun i => match l[i]? with
      | none => true
      | some x => x.after.all fun e => !Region.binds .any e || decide (e.on < i))
/-- Something quiet in an operation's place. -/
def still (o : Oper) : Oper := ⟨none, .move (.const (.bool true)), 0, o.pos, o.after, none⟩
theorem twin_of {l : List Oper} {o : Oper} (hl : l.getLast? = some o) (hb : lastB l = true) : Twin .any l.toArray (l.dropLast ++ [still o]).toArray (l.length - 1) o (still o) := by
  unfold lastB at hb
  rw [hl] at hb
  simp only [Bool.and_eq_true] at hb
  obtain ⟨⟨h2, h3⟩, h4⟩ := hb
  have h1 : ∀ x ∈ l, x.guard = none := fun x hx => by simpa using List.all_eq_true.1 h2 x hx
  obtain ⟨init, rfl⟩ : ∃ init, l = init ++ [o] := List.getLast?_eq_some_iff.1 hl
  have e : (init ++ [o]).length - 1 = init.length := by simp
  rw [e] at h3 ⊢
  refine ⟨by simp, by simp, fun i hi => ?_, by simp, by simp, rfl, h1 o (by simp), rfl, rfl, fun i oi hoi => h1 oi (by simpa using Array.mem_of_getElem? hoi), fun i hi => ?_, fun i oi hoi ed hed hbd => ?_⟩
  · simp [List.getElem?_append, hi]
  · have := List.all_eq_true.1 h3 i (by simpa using hi)
    obtain ⟨j, hj, hx⟩ := List.any_eq_true.1 this
    simp only [Bool.and_eq_true, decide_eq_true_eq] at hx
    obtain ⟨hij, hx⟩ := hx
    cases ho : (init ++ [o])[j]? with
    | none => rw [ho] at hx; cases hx
    | some x =>
      rw [ho] at hx
      obtain ⟨ed, hm, hx⟩ := Array.any_eq_true'.1 hx
      simp only [Bool.and_eq_true, beq_iff_eq] at hx
      have hjl : j < (init ++ [o]).length := by simpa using hj
      exact ⟨j, x, ed, hij, by simp at hjl; omega, by simpa using ho, hm, hx.1, hx.2⟩
  · have hi : i < (init ++ [o]).length := by
      rcases Nat.lt_or_ge i (init ++ [o]).length with k | k
      · exact k
      · rw [Array.getElem?_eq_none (by simpa using k)] at hoi; cases hoi
    have := List.all_eq_true.1 h4 i (by simpa using hi)
    rw [show (init ++ [o])[i]? = some oi by simpa using hoi] at this
    have := Array.all_eq_true_iff_forall_mem.1 this ed hed
    rw [hbd] at this
    simpa using this

/-- what was shown of a region's orders holds in a round, too -/

theorem still_wp {P : Program} {o : Oper} {a : Act} {w : World} {K : Act → World → Prop} {Q : Exit → Act → World → Prop} (h : (still o).wp P a w K Q) : K a w := h
/-- A region written out: all but the last under S; behind them the last one. -/
theorem wp_region_held_last {P : Program} {id : Nat} {Q : Exit → Act → World → Prop} {S : World → Prop} {a : Act} {w : World} {l : List Oper} {o : Oper} (hl : l.getLast? = some o) (hm : P.follows .mixedOrders = true) (hb : lastB l = true) (hS : S w.drew)
    (h : S w.drew → wpAnyH P .any (l.dropLast ++ [still o]).toArray (endQ P o Q) S (l.dropLast ++ [still o]).toArray.size (Array.replicate (l.dropLast ++ [still o]).toArray.size false) a w.drew) : (Code.region id l.toArray true).wp P Q a w := by
  have t := twin_of hl hb
  refine wp_region_any hm ?_
  have e1 : (l.dropLast ++ [still o]).toArray.size = l.toArray.size := t.size2.trans t.size.symm
  have := wpAny_of_held _ _ _ _ (h hS)
  rw [e1] at this
  refine wpAny_last t (fun a w hk => ?_) (fun a w K hk => still_wp hk) _ _ _ _ (by simp [t.size]) (fun i oi _ hl => absurd hl (by simp [Array.getD])) ?_ this
  · have h0 : noRoomEvent ∈ (#[] : Array Event) := hk.1
    simp at h0
  · have : l.length - 1 < l.toArray.size := by rw [t.size]; omega
    simp [Array.getD] <;> simpa using this
end RL
end Go.Proofs.Ytilpidioengnbaa
