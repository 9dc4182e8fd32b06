/- A region that draws its order, all of whose operations but the last are quiet in a class of worlds, and whose last one (a call, say) waits for all others, be it by way of others; within a round of a range over a function, too. -/
import Derived.Deep.Quiet
import Derived.Lib.QuietBelow
import Derived.OrdersIn
import Derived.Test.YtobmnkoohgkiiaaWRng
namespace Go.Proofs.Ytobmnkoohgkiiaa
open Go.RowKit Go.Sort

section
variable {P : Program} {md : Region.Mode} {C : World → Prop} {ops ops2 : Array Oper} {n : Nat} {o o2 : Oper}

/-- What the two regions share. -/
structure Twin (md : Region.Mode) (ops ops2 : Array Oper) (n : Nat) (o o2 : Oper) : Prop where
  size : ops.size = n + 1
  size2 : ops2.size = n + 1
  same : ∀ i, i < n → ops2[i]? = ops[i]?
  last : ops[n]? = some o
  last2 : ops2[n]? = some o2
  after : o2.after = o.after
  g1 : o.guard = none
  g2 : o2.guard = none
  d2 : o2.dst = none
  gd : ∀ (i : Nat) (oi : Oper), ops[i]? = some oi → oi.guard = none
  all : ∀ i, i < n → ∃ (j : Nat) (oj : Oper) (e : _), i < j ∧ j ≤ n ∧ ops[j]? = some oj ∧ e ∈ oj.after ∧ Region.binds md e = true ∧ e.on = i
  low : ∀ i oi, ops[i]? = some oi → ∀ e ∈ oi.after, Region.binds md e = true → e.on < i
theorem Twin.at {i : Nat} (h : Twin md ops ops2 n o o2) (hi : i ≠ n) : ops2[i]? = ops[i]? := by
  rcases Nat.lt_or_ge i n with k | k
  · exact h.same i k
  · rw [Array.getElem?_eq_none (by rw [h.size2]; omega), Array.getElem?_eq_none (by rw [h.size]; omega)]
theorem Twin.ready (h : Twin md ops ops2 n o o2) (listed : Array Bool) : Region.ready md ops2 listed = Region.ready md ops listed := by
  unfold Region.ready
  rw [h.size, h.size2]
  congr 1
  funext i
  by_cases e : i = n
  · subst e; rw [h.last, h.last2]; simp [h.after]
  · rw [h.at e]
theorem first_free (listed : Array Bool) : ∀ k : Nat, (∀ i, i < k → listed.getD i true = true) ∨ ∃ m, m < k ∧ listed.getD m true = false ∧ ∀ i, i < m → listed.getD i true = true
  | 0 => .inl fun i hi => absurd hi (by omega)
  | k + 1 => by
    rcases first_free listed k with h | ⟨m, h1, h2, h3⟩
    · cases hk : listed.getD k true
      · exact .inr ⟨k, by omega, hk, h⟩
      · exact .inl fun i hi => if e : i = k then by rw [e]; exact hk else h i (by omega)
    · exact .inr ⟨m, by omega, h2, h3⟩
theorem getD_tf {l : Array Bool} {i : Nat} (hi : i < l.size) : l.getD i false = l.getD i true := by simp [Array.getD, hi]
/-- As long as the last is not done something may be done. -/
theorem Twin.some_ready (h : Twin md ops ops2 n o o2) (listed : Array Bool) (hs : listed.size = n + 1) (hn : listed.getD n true = false) : Region.ready md ops listed ≠ [] := by
  rcases first_free listed (n + 1) with k | ⟨m, h1, h2, h3⟩
  · rw [k n (by omega)] at hn; cases hn
  · obtain ⟨om, hom⟩ : ∃ om, ops[m]? = some om := ⟨_, Array.getElem?_eq_getElem (by rw [h.size]; exact h1)⟩
    have : m ∈ Region.ready md ops listed := by
      unfold Region.ready
      rw [List.mem_filter]
      refine ⟨by rw [h.size]; simpa using h1, ?_⟩
      rw [h2, hom]
      simp only [Bool.not_false, Bool.true_and, Option.map_some, Option.getD_some]
      rw [Array.all_eq_true_iff_forall_mem]
      intro e he
      cases hb : Region.binds md e
      · rfl
      · have hl := h.low m om hom e he hb
        rw [getD_tf (by omega), h3 e.on hl]; rfl
    intro e
    rw [e] at this
    cases this
/-- who is done has waited -/
def Closed (md : Region.Mode) (ops : Array Oper) (listed : Array Bool) : Prop := ∀ (i : Nat) (oi : Oper), ops[i]? = some oi → listed.getD i false = true → ∀ e ∈ oi.after, Region.binds md e = true → listed.getD e.on false = true
theorem set_getD (l : Array Bool) (n i : Nat) (hn : n < l.size) : (l.setIfInBounds n true).getD i false = if i = n then true else l.getD i false := by
  by_cases h : i = n
  · subst h; simp [Array.getD, hn]
  · rw [if_neg h]
    have hne : ¬ n = i := fun k => h k.symm
    simp only [Array.getD, Array.size_setIfInBounds]
    split
    · simp only [Array.getInternal_eq_getElem]
      rw [Array.getElem_setIfInBounds, if_neg hne]
    · rfl
theorem ready_after {md : Region.Mode} {ops : Array Oper} {listed : Array Bool} {i : Nat} {oi : Oper} (hi : i ∈ Region.ready md ops listed) (ho : ops[i]? = some oi) : ∀ e ∈ oi.after, Region.binds md e = true → listed.getD e.on false = true := by
  unfold Region.ready at hi
  rw [List.mem_filter] at hi
  obtain ⟨_, hi⟩ := hi
  rw [ho] at hi
  simp only [Option.map_some, Option.getD_some, Bool.and_eq_true] at hi
  intro e he hb
  have := Array.all_eq_true_iff_forall_mem.1 hi.2 e he
  rw [hb] at this
  simpa using this
theorem Closed.step {md : Region.Mode} {ops : Array Oper} {listed : Array Bool} (h : Closed md ops listed) {i : Nat} (hi : i ∈ Region.ready md ops listed) (hs : i < listed.size) : Closed md ops (listed.setIfInBounds i true) := by
  intro j oj hj hl e he hb
  rw [set_getD _ _ _ hs] at hl ⊢
  split
  · rfl
  · split at hl
    · rename_i hji
      subst hji
      exact ready_after hi hj e he hb
    · exact h j oj hj hl e he hb
/-- Where the last may be done all others are, and behind it nothing is left. -/
theorem Twin.none_left (h : Twin md ops ops2 n o o2) (listed : Array Bool) (hs : listed.size = n + 1) (hc : Closed md ops listed) (hn : n ∈ Region.ready md ops listed) : Region.ready md ops (listed.setIfInBounds n true) = [] := by
  have hall : ∀ k i, i + k = n → 0 < k → listed.getD i false = true := by
    intro k
    induction k using Nat.strongRecOn with
    | ind k ih =>
      intro i hik hk
      obtain ⟨j, oj, e, h1, h2, h3, h4, h5, h6⟩ := h.all i (by omega)
      rw [← h6]
      by_cases hjn : j = n
      · subst hjn; exact ready_after hn h3 e h4 h5
      · exact hc j oj h3 (ih (n - j) (by omega) j (by omega) (by omega)) e h4 h5
  unfold Region.ready
  rw [List.filter_eq_nil_iff]
  intro i hi
  have hi' : i < n + 1 := by rw [← h.size]; simpa using hi
  have hl2 : (listed.setIfInBounds n true).getD i true = true := by
    rw [← getD_tf (by simpa using (by omega : i < listed.size)), set_getD _ _ _ (by omega)]
    split
    · rfl
    · exact hall (n - i) i (by omega) (by omega)
  rw [hl2]
  simp

theorem wpAny_of_quiet_last {Q2 : Act → Prop} {Q : Exit → Act → World → Prop} (h : Twin md ops ops2 n o o2) (hQ : ∀ a w, C w → Q2 a → o.wp P a w (fun a' w' => Q .normal a' w') Q) :
    ∀ (fuel : Nat) (listed : Array Bool) (a : Act) (w : World), C w → listed.size = n + 1 → Closed md ops listed → listed.getD n true = false → wpAnyQ P md ops2 C Q2 fuel listed a → wpAny P md ops Q fuel listed a w
  | 0, listed, a, w, _, hs, _, hn, hh => by
    have := hh.1
    rw [h.ready] at this
    exact absurd this (h.some_ready listed hs hn)
  | fuel + 1, listed, a, w, hC, hs, hcl, hn, hh => by
    refine ⟨fun k => absurd k (h.some_ready listed hs hn), fun i hi => ?_⟩
    have hq := hh.2 i (by rw [h.ready]; exact hi)
    by_cases e : i = n
    · subst e
      have hnl := h.none_left listed hs hcl hi
      have hK : wpAnyQ P md ops2 C Q2 fuel (listed.setIfInBounds i true) a := by
        unfold qOp at hq
        rw [h.last2] at hq
        simp only [Region.wanted, h.g2, if_true] at hq
        obtain ⟨v, _, hv⟩ := hq
        rw [h.d2] at hv
        exact hv
      have hQ2 : Q2 a := by
        cases fuel with
        | zero => exact hK.2
        | succ f => exact hK.1 (by rw [h.ready]; exact hnl)
      unfold wpOp
      rw [h.last]
      simp only [Region.wanted, h.g1, if_true]
      refine .inl (Oper.wp_mono (fun a' w' hq' => ?_) (hQ a w hC hQ2))
      cases fuel with
      | zero => exact ⟨hnl, hq'⟩
      | succ f => exact ⟨fun _ => hq', fun j hj => by rw [hnl] at hj; cases hj⟩
    · have hq' : qOp P ops C i (wpAnyQ P md ops2 C Q2 fuel (listed.setIfInBounds i true)) a := by
        unfold qOp at hq ⊢
        rw [h.at e] at hq
        cases ho : ops[i]? with
        | none => rw [ho] at hq; exact hq
        | some oi =>
          rw [ho] at hq
          simp only [Region.wanted, h.gd i oi ho] at hq ⊢
          exact hq
      refine wpOp_of_qOp hC (fun a' w' hC' hK => ?_) hq'
      refine wpAny_of_quiet_last h hQ fuel _ a' w' hC' (by simpa using hs) (hcl.step hi (by
        unfold Region.ready at hi
        have := (List.mem_filter.1 hi).1
        rw [hs, ← h.size]; simpa using this)) ?_ hK
      have hne : ¬ i = n := e
      simp only [Array.getD, Array.size_setIfInBounds] at hn ⊢
      split
      · rename_i hlt
        rw [dif_pos hlt] at hn
        simp only [Array.getInternal_eq_getElem] at hn ⊢
        rw [Array.getElem_setIfInBounds, if_neg hne]
        exact hn
      · rename_i hlt
        rw [dif_neg hlt] at hn
        exact hn
end

/-- A region written out: the walk is of l2, which has something quiet in its last one's place. -/
theorem wp_region_quiet_last {P : Program} {id : Nat} {Q : Exit → Act → World → Prop} {a : Act} {w : World} {l l2 : List Oper} {n : Nat} {o o2 : Oper} (hm : P.follows .mixedOrders = true) (hB : Region.lexB .any l2.toArray = true)
    (h : Twin .any l.toArray l2.toArray n o o2)
    (hw : wpQuiet P l2.toArray (fun w' => ∃ p : Regrown, w' = grow (redrawn w p.d) p.os) (fun a' => ∀ w', (∃ p : Regrown, w' = grow (redrawn w p.d) p.os) → o.wp P a' w' (fun a'' w'' => Q .normal a'' w'') Q) l2 a) : (Code.region id l.toArray true).wp P Q a w := by
  simp only [Region.lexB, Bool.and_eq_true] at hB
  refine wp_region_any hm ?_
  refine wpAny_of_quiet_last (C := fun w' => ∃ p : Regrown, w' = grow (redrawn w p.d) p.os) (Q2 := fun a' => ∀ w', (∃ p : Regrown, w' = grow (redrawn w p.d) p.os) → o.wp P a' w' (fun a'' w'' => Q .normal a'' w'') Q) h (fun a w hC hq => hq w hC) _ _ _ _ ⟨⟨w.drawn + 1, #[]⟩, by rw [grow_empty]; rfl⟩ (by simp [h.size]) (fun i oi _ hl => absurd hl (by simp [Array.getD])) ?_ ?_
  · have : n < l.toArray.size := by rw [h.size]; omega
    simp [Array.getD] <;> simpa using this
  · have := wpAnyQ_lex (P := P) (C := fun w' => ∃ p : Regrown, w' = grow (redrawn w p.d) p.os) (md := .any) hB.1 l2 0 (Array.replicate l2.toArray.size false) a (by simp) (by simpa using hB.2) hw
    have e1 : l.toArray.size = l2.length := by rw [h.size, ← h.size2]; simp
    rw [e1]
    simpa using this

/-- Does the last wait for all, and each for such ahead of it alone? -/
def lastB (l : List Oper) : Bool :=
  match l.getLast? with
  | none => false
  | some _ => (l.all fun x => x.guard.isNone) && ((List.range (l.length - 1)).all fun i => (List.range l.length).any fun j => decide (i < j) && (match l[j]? with | none => false | some x => x.after.any fun e => Region.binds .any e && e.on == i)) &&
    ((List.range l.length).all fun i => match l[i]? with
      | none => true
      | some x => x.after.all fun e => !Region.binds .any e || decide (e.on < i))
/-- Something quiet in an operation's place. -/
def still (o : Oper) : Oper := ⟨none, .move (.const (.bool true)), 0, o.pos, o.after, none⟩
theorem twin_of {l : List Oper} {o : Oper} (hl : l.getLast? = some o) (hb : lastB l = true) : Twin .any l.toArray (l.dropLast ++ [still o]).toArray (l.length - 1) o (still o) := by
  unfold lastB at hb
  rw [hl] at hb
  simp only [Bool.and_eq_true] at hb
  obtain ⟨⟨h2, h3⟩, h4⟩ := hb
  have h1 : ∀ x ∈ l, x.guard = none := fun x hx => by simpa using List.all_eq_true.1 h2 x hx
  obtain ⟨init, rfl⟩ : ∃ init, l = init ++ [o] := List.getLast?_eq_some_iff.1 hl
  have e : (init ++ [o]).length - 1 = init.length := by simp
  rw [e] at h3 ⊢
  refine ⟨by simp, by simp, fun i hi => ?_, by simp, by simp, rfl, h1 o (by simp), rfl, rfl, fun i oi hoi => h1 oi (by simpa using Array.mem_of_getElem? hoi), fun i hi => ?_, fun i oi hoi ed hed hbd => ?_⟩
  · simp [List.getElem?_append, hi]
  · have := List.all_eq_true.1 h3 i (by simpa using hi)
    obtain ⟨j, hj, hx⟩ := List.any_eq_true.1 this
    simp only [Bool.and_eq_true, decide_eq_true_eq] at hx
    obtain ⟨hij, hx⟩ := hx
    cases ho : (init ++ [o])[j]? with
    | none => rw [ho] at hx; cases hx
    | some x =>
      rw [ho] at hx
      obtain ⟨ed, hm, hx⟩ := Array.any_eq_true'.1 hx
      simp only [Bool.and_eq_true, beq_iff_eq] at hx
      have hjl : j < (init ++ [o]).length := by simpa using hj
      exact ⟨j, x, ed, hij, by simp at hjl; omega, by simpa using ho, hm, hx.1, hx.2⟩
  · have hi : i < (init ++ [o]).length := by
      rcases Nat.lt_or_ge i (init ++ [o]).length with k | k
      · exact k
      · rw [Array.getElem?_eq_none (by simpa using k)] at hoi; cases hoi
    have := List.all_eq_true.1 h4 i (by simpa using hi)
    rw [show (init ++ [o])[i]? = some oi by simpa using hoi] at this
    have := Array.all_eq_true_iff_forall_mem.1 this ed hed
    rw [hbd] at this
    simpa using this

/-- what was shown of a region's orders holds in a round, too -/
theorem upon_round {P : Program} {o : Oper} {a : Act} {K : Act → World → Prop} {Q : Exit → Act → World → Prop} {lr n : Nat} : ∀ {r : Result Next}, o.upon P a K Q r → o.uponIn (Fence.wide.inRound lr) n P a K Q r
  | .ok (.value v) w', h => h
  | .ok .skip w', h => h
  | .ok (.defer d) w', h => h
  | .ok (.enter f args) w', h => ⟨(fun h => by cases h), callsIn_wide.2 h⟩
  | .ok (.row row args) w', h => ⟨(fun h => by cases h), fun c cs _ => let ⟨v, w'', r, s⟩ := h c cs; ⟨v, w'', r, stepsIn_wide.2 s⟩⟩
  | .halt (.panic v) w', h => h
theorem wpAny_round {P : Program} {md : Region.Mode} {ops : Array Oper} {Q : Exit → Act → World → Prop} {lr n : Nat} (hnd : ∀ (i : Nat) o c, ops[i]? = some o → o.op ≠ .defer c) (hQ : ¬ LetsOut Q) :
    ∀ (fuel : Nat) (listed : Array Bool) (a : Act) (w : World), wpAny P md ops Q fuel listed a w → wpAnyIn (Fence.wide.inRound lr) n P md ops Q fuel listed a w
  | 0, _, _, _, h => h
  | fuel + 1, listed, a, w, h => by
    refine ⟨h.1, fun i hi => ?_⟩
    have hh := h.2 i hi
    unfold wpOp at hh
    unfold wpOpIn
    cases ho : ops[i]? with
    | none =>
      rw [ho] at hh
      exact wpAny_round hnd hQ fuel _ _ _ hh
    | some o =>
      rw [ho] at hh
      simp only at hh ⊢
      split
      · rename_i hw
        rw [if_pos hw] at hh
        rcases hh with hh | hh
        · refine ⟨fun _ _ => trivial, ?_⟩
          have e : (o.semAt (Fence.wide.inRound lr).round a.eval) = execOp a.eval o := Oper.semAt_eq _ _ _ (fun c => hnd i o c ho)
          rw [e]
          exact upon_round (Oper.wp_mono (fun a' w' h' => wpAny_round hnd hQ fuel _ _ _ h') hh)
        · exact absurd hh.2 hQ
      · rename_i hw
        rw [if_neg hw] at hh
        exact ⟨fun _ _ => trivial, wpAny_round hnd hQ fuel _ _ _ hh⟩
def noDefer (l : List Oper) : Bool := l.all fun o => match o.op with | .defer _ => false | _ => true
theorem noDefer_of {l : List Oper} (h : noDefer l = true) : ∀ (i : Nat) o c, l.toArray[i]? = some o → o.op ≠ .defer c := fun i o c ho e => by
  have := List.all_eq_true.1 h o (by simpa using Array.mem_of_getElem? ho)
  rw [e] at this
  cases this
theorem wpIn_region_last {P : Program} {id lr n : Nat} {Q : Exit → Act → World → Prop} {a : Act} {w : World} {l : List Oper} {o : Oper} (hl : l.getLast? = some o) (hm : P.follows .mixedOrders = true) (hB : Region.lexB .any (l.dropLast ++ [still o]).toArray = true) (hb : lastB l = true) (hd : noDefer l = true) (hQ : ¬ LetsOut Q)
    (hw : wpQuiet P (l.dropLast ++ [still o]).toArray (fun w' => ∃ p : Regrown, w' = grow (redrawn w p.d) p.os) (fun a' => ∀ w', (∃ p : Regrown, w' = grow (redrawn w p.d) p.os) → o.wp P a' w' (fun a'' w'' => Q .normal a'' w'') Q) (l.dropLast ++ [still o]) a) : (Code.region id l.toArray true).wpIn (Fence.wide.inRound lr) n P Q a w := by
  refine wpIn_region_any hm (wpAny_round (noDefer_of hd) hQ _ _ _ _ ?_)
  have h := twin_of hl hb
  simp only [Region.lexB, Bool.and_eq_true] at hB
  refine wpAny_of_quiet_last (C := fun w' => ∃ p : Regrown, w' = grow (redrawn w p.d) p.os) (Q2 := fun a' => ∀ w', (∃ p : Regrown, w' = grow (redrawn w p.d) p.os) → o.wp P a' w' (fun a'' w'' => Q .normal a'' w'') Q) h (fun a w hC hq => hq w hC) _ _ _ _ ⟨⟨w.drawn + 1, #[]⟩, by rw [grow_empty]; rfl⟩ (by simp [h.size]) (fun i oi _ hl => absurd hl (by simp [Array.getD])) ?_ ?_
  · have : l.length - 1 < l.toArray.size := by rw [h.size]; omega
    simp [Array.getD] <;> simpa using this
  · have := wpAnyQ_lex (P := P) (C := fun w' => ∃ p : Regrown, w' = grow (redrawn w p.d) p.os) (md := .any) hB.1 (l.dropLast ++ [still o]) 0 (Array.replicate (l.dropLast ++ [still o]).toArray.size false) a (by simp) (by simpa using hB.2) hw
    have e1 : l.toArray.size = (l.dropLast ++ [still o]).length := by rw [h.size, ← h.size2]; simp
    rw [e1]
    simpa using this

theorem wp_region_quiet_store {P : Program} {id : Nat} {Q : Exit → Act → World → Prop} {a : Act} {w : World} {l : List Oper} {o : Oper} (hl : l.getLast? = some o) (hm : P.follows .mixedOrders = true) (hB : Region.lexB .any (l.dropLast ++ [still o]).toArray = true) (hb : lastB l = true)
    (hw : wpQuiet P (l.dropLast ++ [still o]).toArray (fun w' => ∃ p : Regrown, w' = grow (redrawn w p.d) p.os) (fun a' => ∀ w', (∃ p : Regrown, w' = grow (redrawn w p.d) p.os) → o.wp P a' w' (fun a'' w'' => Q .normal a'' w'') Q) (l.dropLast ++ [still o]) a) : (Code.region id l.toArray true).wp P Q a w :=
  wp_region_quiet_last hm hB (twin_of hl hb) hw
end Go.Proofs.Ytobmnkoohgkiiaa
