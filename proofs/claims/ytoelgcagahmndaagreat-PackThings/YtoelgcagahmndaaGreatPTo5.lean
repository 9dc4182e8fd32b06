import Derived.OrdersHeld
import Derived.Deep.RegionHeld
import Derived.Test.YtoelgcagahmndaaGreatPTo3
import Derived.Test.YtoelgcagahmndaaGreatPBackV
import Derived.Deep.RegionHeld3
import Derived.Maps.AppendAt
/- A region that draws its order, whose last operation waits for all others: the others by a walk under S, which the last one need not keep. -/
namespace Go.Proofs.YtoelgcagahmndaaGreat
namespace RL


section
variable {P : Program} {md : Region.Mode} {ops ops2 : Array Oper} {n : Nat} {o o2 : Oper}

/-- What the two regions share. -/
structure Twin (md : Region.Mode) (ops ops2 : Array Oper) (n : Nat) (o o2 : Oper) : Prop where
  size : ops.size = n + 1
  size2 : ops2.size = n + 1
  same : ∀ i, i < n → ops2[i]? = ops[i]?
  last : ops[n]? = some o
  last2 : ops2[n]? = some o2
  after : o2.after = o.after
  g1 : o.guard = none
  g2 : o2.guard = none
  d2 : o2.dst = none
  gd : ∀ (i : Nat) (oi : Oper), ops[i]? = some oi → oi.guard = none
  all : ∀ i, i < n → ∃ (j : Nat) (oj : Oper) (e : _), i < j ∧ j ≤ n ∧ ops[j]? = some oj ∧ e ∈ oj.after ∧ Region.binds md e = true ∧ e.on = i
  low : ∀ i oi, ops[i]? = some oi → ∀ e ∈ oi.after, Region.binds md e = true → e.on < i
theorem Twin.at {i : Nat} (h : Twin md ops ops2 n o o2) (hi : i ≠ n) : ops2[i]? = ops[i]? := by
  rcases Nat.lt_or_ge i n with k | k
  · exact h.same i k
  · rw [Array.getElem?_eq_none (by rw [h.size2]; omega), Array.getElem?_eq_none (by rw [h.size]; omega)]
theorem Twin.ready (h : Twin md ops ops2 n o o2) (listed : Array Bool) : Region.ready md ops2 listed = Region.ready md ops listed := by
  unfold Region.ready
  rw [h.size, h.size2]
  congr 1
  funext i
  by_cases e : i = n
  · subst e; rw [h.last, h.last2]; simp [h.after]
  · rw [h.at e]
theorem first_free (listed : Array Bool) : ∀ k : Nat, (∀ i, i < k → listed.getD i true = true) ∨ ∃ m, m < k ∧ listed.getD m true = false ∧ ∀ i, i < m → listed.getD i true = true
  | 0 => .inl fun i hi => absurd hi (by omega)
  | k + 1 => by
    rcases first_free listed k with h | ⟨m, h1, h2, h3⟩
    · cases hk : listed.getD k true
      · exact .inr ⟨k, by omega, hk, h⟩
      · exact .inl fun i hi => if e : i = k then by rw [e]; exact hk else h i (by omega)
    · exact .inr ⟨m, by omega, h2, h3⟩
theorem getD_tf {l : Array Bool} {i : Nat} (hi : i < l.size) : l.getD i false = l.getD i true := by simp [Array.getD, hi]
/-- As long as the last is not done something may be done. -/
theorem Twin.some_ready (h : Twin md ops ops2 n o o2) (listed : Array Bool) (hs : listed.size = n + 1) (hn : listed.getD n true = false) : Region.ready md ops listed ≠ [] := by
  rcases first_free listed (n + 1) with k | ⟨m, h1, h2, h3⟩
  · rw [k n (by omega)] at hn; cases hn
  · obtain ⟨om, hom⟩ : ∃ om, ops[m]? = some om := ⟨_, Array.getElem?_eq_getElem (by rw [h.size]; exact h1)⟩
    have : m ∈ Region.ready md ops listed := by
      unfold Region.ready
      rw [List.mem_filter]
      refine ⟨by rw [h.size]; simpa using h1, ?_⟩
      rw [h2, hom]
      simp only [Bool.not_false, Bool.true_and, Option.map_some, Option.getD_some]
      rw [Array.all_eq_true_iff_forall_mem]
      intro e he
      cases hb : Region.binds md e
      · rfl
      · have hl := h.low m om hom e he hb
        rw [getD_tf (by omega), h3 e.on hl]; rfl
    intro e
    rw [e] at this
    cases this
/-- who is done has waited -/
def Closed (md : Region.Mode) (ops : Array Oper) (listed : Array Bool) : Prop := ∀ (i : Nat) (oi : Oper), ops[i]? = some oi → listed.getD i false = true → ∀ e ∈ oi.after, Region.binds md e = true → listed.getD e.on false = true
theorem set_getD (l : Array Bool) (n i : Nat) (hn : n < l.size) : (l.setIfInBounds n true).getD i false = if i = n then true else l.getD i false := by
  by_cases h : i = n
  · subst h; simp [Array.getD, hn]
  · rw [if_neg h]
    have hne : ¬ n = i := fun k => h k.symm
    simp only [Array.getD, Array.size_setIfInBounds]
    split
    · simp only [Array.getInternal_eq_getElem]
      rw [Array.getElem_setIfInBounds, if_neg hne]
    · rfl
theorem ready_after {md : Region.Mode} {ops : Array Oper} {listed : Array Bool} {i : Nat} {oi : Oper} (hi : i ∈ Region.ready md ops listed) (ho : ops[i]? = some oi) : ∀ e ∈ oi.after, Region.binds md e = true → listed.getD e.on false = true := by
  unfold Region.ready at hi
  rw [List.mem_filter] at hi
  obtain ⟨_, hi⟩ := hi
  rw [ho] at hi
  simp only [Option.map_some, Option.getD_some, Bool.and_eq_true] at hi
  intro e he hb
  have := Array.all_eq_true_iff_forall_mem.1 hi.2 e he
  rw [hb] at this
  simpa using this
theorem Closed.step {md : Region.Mode} {ops : Array Oper} {listed : Array Bool} (h : Closed md ops listed) {i : Nat} (hi : i ∈ Region.ready md ops listed) (hs : i < listed.size) : Closed md ops (listed.setIfInBounds i true) := by
  intro j oj hj hl e he hb
  rw [set_getD _ _ _ hs] at hl ⊢
  split
  · rfl
  · split at hl
    · rename_i hji
      subst hji
      exact ready_after hi hj e he hb
    · exact h j oj hj hl e he hb
/-- Where the last may be done all others are, and behind it nothing is left. -/
theorem Twin.none_left (h : Twin md ops ops2 n o o2) (listed : Array Bool) (hs : listed.size = n + 1) (hc : Closed md ops listed) (hn : n ∈ Region.ready md ops listed) : Region.ready md ops (listed.setIfInBounds n true) = [] := by
  have hall : ∀ k i, i + k = n → 0 < k → listed.getD i false = true := by
    intro k
    induction k using Nat.strongRecOn with
    | ind k ih =>
      intro i hik hk
      obtain ⟨j, oj, e, h1, h2, h3, h4, h5, h6⟩ := h.all i (by omega)
      rw [← h6]
      by_cases hjn : j = n
      · subst hjn; exact ready_after hn h3 e h4 h5
      · exact hc j oj h3 (ih (n - j) (by omega) j (by omega) (by omega)) e h4 h5
  unfold Region.ready
  rw [List.filter_eq_nil_iff]
  intro i hi
  have hi' : i < n + 1 := by rw [← h.size]; simpa using hi
  have hl2 : (listed.setIfInBounds n true).getD i true = true := by
    rw [← getD_tf (by simpa using (by omega : i < listed.size)), set_getD _ _ _ (by omega)]
    split
    · rfl
    · exact hall (n - i) i (by omega) (by omega)
  rw [hl2]
  simp


/-- what stands behind all but the last: the last one is run -/
def endQ (P : Program) (o : Oper) (Q : Exit → Act → World → Prop) : Exit → Act → World → Prop
  | .normal, a, w => o.wp P a w (fun a' w' => Q .normal a' w') Q
  | e, a, w => Q e a w
theorem wp_endQ {o oi : Oper} {a : Act} {w : World} {K K' : Act → World → Prop} {Q : Exit → Act → World → Prop} (h : ∀ a w, K a w → K' a w) (hh : oi.wp P a w K (endQ P o Q)) : oi.wp P a w K' Q := by
  unfold Oper.wp at *
  generalize (execOp a.eval oi).run P w = r at *
  cases r with
  | ok n w' =>
    cases n <;> simp only [Oper.upon] at hh ⊢ <;>
      first
        | exact h _ _ hh
        | exact Calls.mono hh (fun e w'' he => by cases e <;> first | exact h _ _ he | exact he)
        | exact Rows.mono hh (fun _ _ he => h _ _ he)
  | halt x w' => cases x <;> simp only [Oper.upon] at hh ⊢ <;> exact hh

theorem wpAny_last {Q : Exit → Act → World → Prop} (h : Twin md ops ops2 n o o2) (hs2 : ∀ a w, o2.asks P a w → False) (hst : ∀ a w K, o2.wp P a w K (endQ P o Q) → K a w) :
    ∀ (fuel : Nat) (listed : Array Bool) (a : Act) (w : World), listed.size = n + 1 → Closed md ops listed → listed.getD n true = false → wpAny P md ops2 (endQ P o Q) fuel listed a w → wpAny P md ops Q fuel listed a w
  | 0, listed, a, w, hs, _, hn, hh => by
    have := hh.1
    rw [h.ready] at this
    exact absurd this (h.some_ready listed hs hn)
  | fuel + 1, listed, a, w, hs, hcl, hn, hh => by
    refine ⟨fun k => absurd k (h.some_ready listed hs hn), fun i hi => ?_⟩
    have hq := hh.2 i (by rw [h.ready]; exact hi)
    by_cases e : i = n
    · subst e
      have hnl := h.none_left listed hs hcl hi
      have hK : wpAny P md ops2 (endQ P o Q) fuel (listed.setIfInBounds i true) a w := by
        unfold wpOp at hq
        rw [h.last2] at hq
        simp only [Region.wanted, h.g2, if_true] at hq
        rcases hq with hq | hq
        · exact hst _ _ _ hq
        · exact (hs2 _ _ hq.1).elim
      have hQ2 : endQ P o Q .normal a w := by
        cases fuel with
        | zero => exact hK.2
        | succ f => exact hK.1 (by rw [h.ready]; exact hnl)
      unfold wpOp
      rw [h.last]
      simp only [Region.wanted, h.g1, if_true]
      refine .inl (Oper.wp_mono (fun a' w' hq' => ?_) hQ2)
      cases fuel with
      | zero => exact ⟨hnl, hq'⟩
      | succ f => exact ⟨fun _ => hq', fun j hj => by rw [hnl] at hj; cases hj⟩
    · unfold wpOp at hq ⊢
      rw [h.at e] at hq
      have hnext : ∀ a w, wpAny P md ops2 (endQ P o Q) fuel (listed.setIfInBounds i true) a w → wpAny P md ops Q fuel (listed.setIfInBounds i true) a w := fun a' w' hK => by
        refine wpAny_last h hs2 hst fuel _ a' w' (by simpa using hs) (hcl.step hi (by
          unfold Region.ready at hi
          have := (List.mem_filter.1 hi).1
          rw [hs, ← h.size]; simpa using this)) ?_ hK
        have hne : ¬ i = n := e
        simp only [Array.getD, Array.size_setIfInBounds] at hn ⊢
        split
        · rename_i hlt
          rw [dif_pos hlt] at hn
          simp only [Array.getInternal_eq_getElem] at hn ⊢
          rw [Array.getElem_setIfInBounds, if_neg hne]
          exact hn
        · rename_i hlt
          rw [dif_neg hlt] at hn
          exact hn
      cases ho : ops[i]? with
      | none => rw [ho] at hq; exact hnext _ _ hq
      | some oi =>
        rw [ho] at hq
        simp only [Region.wanted, h.gd i oi ho, if_true] at hq ⊢
        rcases hq with hq | ⟨hq1, hq2⟩
        · exact .inl (wp_endQ hnext hq)
        · exact .inr ⟨hq1, hq2⟩
end

/-- Does the last wait for all, and each for such ahead of it alone? -/
def lastB (l : List Oper) : Bool :=
  match l.getLast? with
  | none => false
  | some _ => (l.all fun x => x.guard.isNone) && ((List.range (l.length - 1)).all fun i => (List.range l.length).any fun j => decide (i < j) && (match l[j]? with | none => false | some x => x.after.any fun e => Region.binds .any e && e.on == i)) &&
    ((List.range l.length).all fun i => match l[i]? with
      | none => true
      | some x => x.after.all fun e => !Region.binds .any e || decide (e.on < i))
/-- Something quiet in an operation's place. -/
def still (o : Oper) : Oper := ⟨none, .move (.const (.bool true)), 0, o.pos, o.after, none⟩
theorem twin_of {l : List Oper} {o : Oper} (hl : l.getLast? = some o) (hb : lastB l = true) : Twin .any l.toArray (l.dropLast ++ [still o]).toArray (l.length - 1) o (still o) := by
  unfold lastB at hb
  rw [hl] at hb
  simp only [Bool.and_eq_true] at hb
  obtain ⟨⟨h2, h3⟩, h4⟩ := hb
  have h1 : ∀ x ∈ l, x.guard = none := fun x hx => by simpa using List.all_eq_true.1 h2 x hx
  obtain ⟨init, rfl⟩ : ∃ init, l = init ++ [o] := List.getLast?_eq_some_iff.1 hl
  have e : (init ++ [o]).length - 1 = init.length := by simp
  rw [e] at h3 ⊢
  refine ⟨by simp, by simp, fun i hi => ?_, by simp, by simp, rfl, h1 o (by simp), rfl, rfl, fun i oi hoi => h1 oi (by simpa using Array.mem_of_getElem? hoi), fun i hi => ?_, fun i oi hoi ed hed hbd => ?_⟩
  · simp [List.getElem?_append, hi]
  · have := List.all_eq_true.1 h3 i (by simpa using hi)
    obtain ⟨j, hj, hx⟩ := List.any_eq_true.1 this
    simp only [Bool.and_eq_true, decide_eq_true_eq] at hx
    obtain ⟨hij, hx⟩ := hx
    cases ho : (init ++ [o])[j]? with
    | none => rw [ho] at hx; cases hx
    | some x =>
      rw [ho] at hx
      obtain ⟨ed, hm, hx⟩ := Array.any_eq_true'.1 hx
      simp only [Bool.and_eq_true, beq_iff_eq] at hx
      have hjl : j < (init ++ [o]).length := by simpa using hj
      exact ⟨j, x, ed, hij, by simp at hjl; omega, by simpa using ho, hm, hx.1, hx.2⟩
  · have hi : i < (init ++ [o]).length := by
      rcases Nat.lt_or_ge i (init ++ [o]).length with k | k
      · exact k
      · rw [Array.getElem?_eq_none (by simpa using k)] at hoi; cases hoi
    have := List.all_eq_true.1 h4 i (by simpa using hi)
    rw [show (init ++ [o])[i]? = some oi by simpa using hoi] at this
    have := Array.all_eq_true_iff_forall_mem.1 this ed hed
    rw [hbd] at this
    simpa using this

/-- what was shown of a region's orders holds in a round, too -/

theorem still_wp {P : Program} {o : Oper} {a : Act} {w : World} {K : Act → World → Prop} {Q : Exit → Act → World → Prop} (h : (still o).wp P a w K Q) : K a w := h
/-- A region written out: all but the last under S; behind them the last one. -/
theorem wp_region_held_last {P : Program} {id : Nat} {Q : Exit → Act → World → Prop} {S : World → Prop} {a : Act} {w : World} {l : List Oper} {o : Oper} (hl : l.getLast? = some o) (hm : P.follows .mixedOrders = true) (hb : lastB l = true) (hS : S w.drew)
    (h : S w.drew → wpAnyH P .any (l.dropLast ++ [still o]).toArray (endQ P o Q) S (l.dropLast ++ [still o]).toArray.size (Array.replicate (l.dropLast ++ [still o]).toArray.size false) a w.drew) : (Code.region id l.toArray true).wp P Q a w := by
  have t := twin_of hl hb
  refine wp_region_any hm ?_
  have e1 : (l.dropLast ++ [still o]).toArray.size = l.toArray.size := t.size2.trans t.size.symm
  have := wpAny_of_held _ _ _ _ (h hS)
  rw [e1] at this
  refine wpAny_last t (fun a w hk => ?_) (fun a w K hk => still_wp hk) _ _ _ _ (by simp [t.size]) (fun i oi _ hl => absurd hl (by simp [Array.getD])) ?_ this
  · have h0 : noRoomEvent ∈ (#[] : Array Event) := hk.1
    simp at h0
  · have : l.length - 1 < l.toArray.size := by rw [t.size]; omega
    simp [Array.getD] <;> simpa using this
end RL
end Go.Proofs.YtoelgcagahmndaaGreat

/- The law's took of a step: lists (written by tkl_gen.py). -/
namespace Go.Proofs.YtoelgcagahmndaaGreat
namespace Wm
open Go.RowKit Go.Deep

set_option maxRecDepth 100000 in
set_option maxHeartbeats 4000000 in
theorem took_ints (r : Nat) (s : K.RS) (wh : Int) (le mo : Int) (x3 x4 x5 x6 x7 x8 x9 x10 : Value) (w : World) (h : Rr w r s) (h1 : -9223372036854775808 ≤ wh) (h2 : wh ≤ 9223372036854775807) (hk : ((pk wh : Nat) : Int) = 5) :
    Calls Tryz.prog 33 #[.pointer (some ⟨r, 0, none⟩), .agg #[.int .i64 wh, .int .i64 le, .int .i64 mo, x3, x4, x5, x6, x7, x8, x9, x10]] w (TkE r (takeR (listR (min mo 16777216) (numR le 9223372036854775807)) s) ({ td0 with L := lvI (min mo 16777216) le 9223372036854775807 s }) w) := by
  have hrw := h.lt
  have HH := hide h
  have HB : Hid (Bk w ((w.alloc (.cells #[.int .i64 wh, .int .i64 le, .int .i64 mo, x3, x4, x5, x6, x7, x8, x9, x10] 74)).alloc (.cells z7 77)) w.heap.size (w.heap.size + 1) #[.int .i64 wh, .int .i64 le, .int .i64 mo, x3, x4, x5, x6, x7, x8, x9, x10]) := ⟨Nat.le_refl _, by omega, (Keep.alloc (fun _ => False) _ _).blk (heap_alloc_new w _) fun f => f, by have := heap_alloc_new (w.alloc (.cells #[.int .i64 wh, .int .i64 le, .int .i64 mo, x3, x4, x5, x6, x7, x8, x9, x10] 74)) (.cells z7 77); simpa using this⟩
  have HK : Hid (Below w.heap.size w ((w.alloc (.cells #[.int .i64 wh, .int .i64 le, .int .i64 mo, x3, x4, x5, x6, x7, x8, x9, x10] 74)).alloc (.cells z7 77))) := ((Below.refl _ _).alloc (Nat.le_refl _) _).alloc (by simp) _
  have HR := hide (h.below HK.out)
  have HKr := hide (Keep.ofBelow (S := fun k => k = r) HK.out (Nat.le_refl _))
  obtain ⟨s1, hs1⟩ : ∃ s1, takeR (listR (min mo 16777216) (numR le 9223372036854775807)) s = s1 := ⟨_, rfl⟩
  rw [hs1]
  have HS1 := hide hs1
  clear h hs1
  go_enter Tryz.func33, Tryz.ntmps33
  go_upto_region 1 with fail
  change Code.wp _ _ _ _ ((w.alloc (.cells #[.int .i64 wh, .int .i64 le, .int .i64 mo, x3, x4, x5, x6, x7, x8, x9, x10] 74)).alloc (.cells z7 77))
  generalize (w.alloc (.cells #[.int .i64 wh, .int .i64 le, .int .i64 mo, x3, x4, x5, x6, x7, x8, x9, x10] 74)).alloc (.cells z7 77) = W at *
  generalize hg : w.heap.size = g at *
  have HG := hide hg
  clear hg
  obtain ⟨y0, _⟩ := cells11 HB.out.st
  go_wp2_with fail
  refine (pick_any wh h1 h2 _).mono ?_
  rintro e w1 ⟨rfl, rfl⟩
  rw [hk]
  clear y0
  go_upto_region 13 with fail
  have HS : Hid (∀ W' : World, W'.heap[g]? = some (.cells #[.int .i64 wh, .int .i64 le, .int .i64 mo, x3, x4, x5, x6, x7, x8, x9, x10] 74 (0, 0)) → (fun W' : World => W'.cell? ⟨g, 1, none⟩ = some (.int .i64 le) ∧ W'.cell? ⟨g, 2, none⟩ = some (.int .i64 mo)) W') := fun W' k => ⟨(cells11 k).2.1, (cells11 k).2.2.1⟩
  have HXd : Hid (Bk w w1.drew g (g + 1) #[.int .i64 wh, .int .i64 le, .int .i64 mo, x3, x4, x5, x6, x7, x8, x9, x10]) := ⟨HB.out.a, HB.out.b, HB.out.st, HB.out.td⟩
  have HRd := hide (HR.out.below (Below.refl _ _).drew)
  have HKd := hide (HKr.out.more (Keep.drew _ _))
  refine RL.wp_region_held_last (S := fun W' : World => W'.cell? ⟨g, 1, none⟩ = some (.int .i64 le) ∧ W'.cell? ⟨g, 2, none⟩ = some (.int .i64 mo)) rfl (by kernel_rfl) (by kernel_rfl) (HS.out _ HXd.out.st) (fun hHeld => ?_)
  change wpAnyH _ _ _ _ _ 10 (Array.replicate 10 false) _ _
  simp only [List.dropLast, List.getLast, List.cons_append, List.nil_append, RL.still]
  refine wpAnyH_take (i := 0) (oi := _) (v := ?_) rfl (by kernel_rfl) (by kernel_rfl) (by kernel_rfl) (fun _ _ _ h => h) (Or.inl ⟨by rfl, ?_⟩) (by assumption) ?_
  rotate_left
  · (intro w hSw; (try dsimp only at hSw); go_simp)
    all_goals with_reducible rfl
  go_simp
  refine wpAnyH_take (i := 1) (oi := _) (v := ?_) rfl (by kernel_rfl) (by kernel_rfl) (by kernel_rfl) (fun _ _ _ h => h) (Or.inl ⟨by rfl, ?_⟩) (by assumption) ?_
  rotate_left
  · (intro w hSw; (try dsimp only at hSw); go_simp)
    all_goals with_reducible rfl
  go_simp
  refine wpAnyH_take (i := 3) (oi := _) (v := ?_) rfl (by kernel_rfl) (by kernel_rfl) (by kernel_rfl) (fun _ _ _ h => h) (Or.inl ⟨by rfl, ?_⟩) (by assumption) ?_
  rotate_left
  · (intro w hSw; (try dsimp only at hSw); go_simp)
    all_goals with_reducible rfl
  go_simp
  refine wpAnyH_take (i := 4) (oi := _) (v := ?_) rfl (by kernel_rfl) (by kernel_rfl) (by kernel_rfl) (fun _ _ _ h => h) (Or.inl ⟨by rfl, ?_⟩) (by assumption) ?_
  rotate_left
  · (intro w hSw; (try dsimp only at hSw); go_simp)
    all_goals with_reducible rfl
  go_simp
  refine wpAnyH_take (i := 6) (oi := _) (v := ?_) rfl (by kernel_rfl) (by kernel_rfl) (by kernel_rfl) (fun _ _ _ h => h) (Or.inl ⟨by rfl, ?_⟩) (by assumption) ?_
  rotate_left
  · (intro w hSw; (try dsimp only at hSw); go_simp)
    all_goals with_reducible rfl
  go_simp
  refine wpAnyH_ready (rs := [2]) (by kernel_rfl) (by simp) ?_
  refine AllReadyH.cons (o := _) rfl (fun K hK => ?_) AllReadyH.nil
  rw [if_pos (by rfl)]
  go_simp
  go_at_call 39
  refine (Numbers_any le 9223372036854775807 _).mono ?_
  rintro e w8 ⟨l8, m8, rfl, hl8, hm8, hgl, hgm, hb8⟩
  have HL8 := hide hl8
  have HM8 := hide hm8
  have HG8 := hide (And.intro hgl hgm)
  have HB8 : Hid (Below w1.drew.heap.size w1.drew w8) := hb8
  clear hl8 hm8 hgl hgm hb8
  go_simp
  refine hK.out _ _ (HS.out _ (HXd.out.new HB8.out).st) (fun hHeld => ?_)
  clear hK K
  try simp only [Act.put, List.setIfInBounds_toArray, List.set_cons_zero, List.set_cons_succ]
  refine wpAnyH_ready (rs := [5]) (by kernel_rfl) (by simp) ?_
  refine AllReadyH.cons (o := _) rfl (fun K hK => ?_) AllReadyH.nil
  rw [if_pos (by rfl)]
  go_simp
  go_at_call 79
  refine (ListsI _ _ _ _ mo _).mono ?_
  rintro e w9 ⟨m9, o9, rfl, hm, ho, hgm, hgo, hb⟩
  have HMm9 := hide hm
  have HOo9 := hide ho
  have HGm9 := hide (And.intro (Nat.le_trans HB8.out.size hgm) (Nat.le_trans HB8.out.size hgo))
  have HC9 := hide hb
  have HB9 : Hid (Below w1.drew.heap.size w1.drew w9) := HB8.out.trans (hb.mono HB8.out.size)
  clear hm ho hgm hgo hb
  go_simp
  refine hK.out _ _ (HS.out _ (HXd.out.new HB9.out).st) (fun hHeld => ?_)
  clear hK K
  try simp only [Act.put, List.setIfInBounds_toArray, List.set_cons_zero, List.set_cons_succ]
  refine wpAnyH_ready (rs := [7]) (by kernel_rfl) (by simp) ?_
  refine AllReadyH.cons (o := _) rfl (fun K hK => ?_) AllReadyH.nil
  rw [if_pos (by rfl)]
  go_simp
  go_at_call 93
  refine (take_ints r l8 m8 m9 o9 le 9223372036854775807 (min mo 16777216) (by omega) s _ (HRd.out.below HB9.out) _ _ _ _ (keepCell HL8.out HC9.out) (keepCell HM8.out HC9.out) HMm9.out HOo9.out (Nat.lt_of_lt_of_le HRd.out.lt HG8.out.1) (Nat.lt_of_lt_of_le HRd.out.lt HG8.out.2) (Nat.lt_of_lt_of_le HRd.out.lt HGm9.out.1) (Nat.lt_of_lt_of_le HRd.out.lt HGm9.out.2)).mono ?_
  rintro e w10 ⟨a9, n9, c9, rfl, he9, hr9, hk9⟩
  rw [HS1.out] at hr9
  have HR9 := hide hr9
  have HE9 := hide he9
  have HK9 := hide (HKd.out.more ((Keep.ofBelow HB9.out (Nat.le_refl _)).more hk9))
  have HBk := hide ((HXd.out.new HB9.out).keep hk9 (by have := HG.out; omega))
  obtain ⟨z0, z1, z2, z3, z4, z5, z6⟩ := HBk.out.cells
  have f0 := HBk.out.froz 0
  have f1 := HBk.out.froz 1
  have f2 := HBk.out.froz 2
  have f3 := HBk.out.froz 3
  have f4 := HBk.out.froz 4
  have f5 := HBk.out.froz 5
  have f6 := HBk.out.froz 6
  clear hr9 hk9 he9
  go_simp
  refine hK.out _ _ (HS.out _ HBk.out.st) (fun hHeld => ?_)
  clear hK K
  try simp only [Act.put, List.setIfInBounds_toArray, List.set_cons_zero, List.set_cons_succ]
  refine wpAnyH_take (i := 8) (oi := _) (v := ?_) rfl (by kernel_rfl) (by kernel_rfl) (by kernel_rfl) (fun _ _ _ h => h) (Or.inl ⟨by rfl, ?_⟩) (by assumption) ?_
  rotate_left
  · (intro w hSw; (try dsimp only at hSw); go_simp)
    all_goals with_reducible rfl
  go_simp
  refine wpAnyH_take (i := 9) (oi := _) (v := ?_) rfl (by kernel_rfl) (by kernel_rfl) (by kernel_rfl) (fun _ _ _ h => h) (Or.inl ⟨by rfl, ?_⟩) (by assumption) ?_
  rotate_left
  · (intro w hSw; (try dsimp only at hSw); go_simp)
    all_goals with_reducible rfl
  go_simp
  refine wpAnyH_done (by kernel_rfl) ?_ _
  simp only [RL.endQ]
  have HE := hide (HBk.out.done (t := { td0 with L := lvI (min mo 16777216) le 9223372036854775807 s }) HR9.out (by have := HG.out; omega) HK9.out (cT := 0) (cL := c9) (cD := 0) (els0 _) HE9.out (rows0 _))
  unfold Oper.wp
  go_simp
  go_wp2_with fail
  exact bodyPost_ret (res7 rfl _ _ (g + 1) (.int .i64 0) (.int .u64 0) (.bool false) (.string ⟨#[]⟩) (.slice none 0 0) (.slice a9 n9 c9) (.slice none 0 0) rfl (put7_blk HBk.out.td _ _ _ _ _ _ _)) rfl HE.out
set_option maxRecDepth 100000 in
set_option maxHeartbeats 4000000 in
theorem took_texts (r : Nat) (s : K.RS) (wh : Int) (mo nn : Int) (x1 x4 x5 x6 x7 x8 x9 x10 : Value) (w : World) (h : Rr w r s) (h1 : -9223372036854775808 ≤ wh) (h2 : wh ≤ 9223372036854775807) (hk : ((pk wh : Nat) : Int) = 6) :
    Calls Tryz.prog 33 #[.pointer (some ⟨r, 0, none⟩), .agg #[.int .i64 wh, x1, .int .i64 mo, .int .i64 nn, x4, x5, x6, x7, x8, x9, x10]] w (TkE r (takeR (listR (min mo 16777216) (rowR nn)) s) ({ td0 with T := lvS (min mo 16777216) nn s }) w) := by
  have hrw := h.lt
  have HH := hide h
  have HB : Hid (Bk w ((w.alloc (.cells #[.int .i64 wh, x1, .int .i64 mo, .int .i64 nn, x4, x5, x6, x7, x8, x9, x10] 74)).alloc (.cells z7 77)) w.heap.size (w.heap.size + 1) #[.int .i64 wh, x1, .int .i64 mo, .int .i64 nn, x4, x5, x6, x7, x8, x9, x10]) := ⟨Nat.le_refl _, by omega, (Keep.alloc (fun _ => False) _ _).blk (heap_alloc_new w _) fun f => f, by have := heap_alloc_new (w.alloc (.cells #[.int .i64 wh, x1, .int .i64 mo, .int .i64 nn, x4, x5, x6, x7, x8, x9, x10] 74)) (.cells z7 77); simpa using this⟩
  have HK : Hid (Below w.heap.size w ((w.alloc (.cells #[.int .i64 wh, x1, .int .i64 mo, .int .i64 nn, x4, x5, x6, x7, x8, x9, x10] 74)).alloc (.cells z7 77))) := ((Below.refl _ _).alloc (Nat.le_refl _) _).alloc (by simp) _
  have HR := hide (h.below HK.out)
  have HKr := hide (Keep.ofBelow (S := fun k => k = r) HK.out (Nat.le_refl _))
  obtain ⟨s1, hs1⟩ : ∃ s1, takeR (listR (min mo 16777216) (rowR nn)) s = s1 := ⟨_, rfl⟩
  rw [hs1]
  have HS1 := hide hs1
  clear h hs1
  go_enter Tryz.func33, Tryz.ntmps33
  go_upto_region 1 with fail
  change Code.wp _ _ _ _ ((w.alloc (.cells #[.int .i64 wh, x1, .int .i64 mo, .int .i64 nn, x4, x5, x6, x7, x8, x9, x10] 74)).alloc (.cells z7 77))
  generalize (w.alloc (.cells #[.int .i64 wh, x1, .int .i64 mo, .int .i64 nn, x4, x5, x6, x7, x8, x9, x10] 74)).alloc (.cells z7 77) = W at *
  generalize hg : w.heap.size = g at *
  have HG := hide hg
  clear hg
  obtain ⟨y0, _⟩ := cells11 HB.out.st
  go_wp2_with fail
  refine (pick_any wh h1 h2 _).mono ?_
  rintro e w1 ⟨rfl, rfl⟩
  rw [hk]
  clear y0
  go_upto_region 15 with fail
  have HS : Hid (∀ W' : World, W'.heap[g]? = some (.cells #[.int .i64 wh, x1, .int .i64 mo, .int .i64 nn, x4, x5, x6, x7, x8, x9, x10] 74 (0, 0)) → (fun W' : World => W'.cell? ⟨g, 2, none⟩ = some (.int .i64 mo) ∧ W'.cell? ⟨g, 3, none⟩ = some (.int .i64 nn)) W') := fun W' k => ⟨(cells11 k).2.2.1, (cells11 k).2.2.2.1⟩
  have HXd : Hid (Bk w w1.drew g (g + 1) #[.int .i64 wh, x1, .int .i64 mo, .int .i64 nn, x4, x5, x6, x7, x8, x9, x10]) := ⟨HB.out.a, HB.out.b, HB.out.st, HB.out.td⟩
  have HRd := hide (HR.out.below (Below.refl _ _).drew)
  have HKd := hide (HKr.out.more (Keep.drew _ _))
  refine RL.wp_region_held_last (S := fun W' : World => W'.cell? ⟨g, 2, none⟩ = some (.int .i64 mo) ∧ W'.cell? ⟨g, 3, none⟩ = some (.int .i64 nn)) rfl (by kernel_rfl) (by kernel_rfl) (HS.out _ HXd.out.st) (fun hHeld => ?_)
  change wpAnyH _ _ _ _ _ 10 (Array.replicate 10 false) _ _
  simp only [List.dropLast, List.getLast, List.cons_append, List.nil_append, RL.still]
  refine wpAnyH_take (i := 0) (oi := _) (v := ?_) rfl (by kernel_rfl) (by kernel_rfl) (by kernel_rfl) (fun _ _ _ h => h) (Or.inl ⟨by rfl, ?_⟩) (by assumption) ?_
  rotate_left
  · (intro w hSw; (try dsimp only at hSw); go_simp)
    all_goals with_reducible rfl
  go_simp
  refine wpAnyH_take (i := 1) (oi := _) (v := ?_) rfl (by kernel_rfl) (by kernel_rfl) (by kernel_rfl) (fun _ _ _ h => h) (Or.inl ⟨by rfl, ?_⟩) (by assumption) ?_
  rotate_left
  · (intro w hSw; (try dsimp only at hSw); go_simp)
    all_goals with_reducible rfl
  go_simp
  refine wpAnyH_take (i := 3) (oi := _) (v := ?_) rfl (by kernel_rfl) (by kernel_rfl) (by kernel_rfl) (fun _ _ _ h => h) (Or.inl ⟨by rfl, ?_⟩) (by assumption) ?_
  rotate_left
  · (intro w hSw; (try dsimp only at hSw); go_simp)
    all_goals with_reducible rfl
  go_simp
  refine wpAnyH_take (i := 4) (oi := _) (v := ?_) rfl (by kernel_rfl) (by kernel_rfl) (by kernel_rfl) (fun _ _ _ h => h) (Or.inl ⟨by rfl, ?_⟩) (by assumption) ?_
  rotate_left
  · (intro w hSw; (try dsimp only at hSw); go_simp)
    all_goals with_reducible rfl
  go_simp
  refine wpAnyH_take (i := 6) (oi := _) (v := ?_) rfl (by kernel_rfl) (by kernel_rfl) (by kernel_rfl) (fun _ _ _ h => h) (Or.inl ⟨by rfl, ?_⟩) (by assumption) ?_
  rotate_left
  · (intro w hSw; (try dsimp only at hSw); go_simp)
    all_goals with_reducible rfl
  go_simp
  refine wpAnyH_ready (rs := [2]) (by kernel_rfl) (by simp) ?_
  refine AllReadyH.cons (o := _) rfl (fun K hK => ?_) AllReadyH.nil
  rw [if_pos (by rfl)]
  go_simp
  go_at_call 43
  refine (Texts_any nn _).mono ?_
  rintro e w8 ⟨m8, rfl, hm8, hgm, hb8⟩
  have HM8 := hide hm8
  have HG8 := hide hgm
  have HB8 : Hid (Below w1.drew.heap.size w1.drew w8) := hb8
  clear hm8 hgm hb8
  go_simp
  refine hK.out _ _ (HS.out _ (HXd.out.new HB8.out).st) (fun hHeld => ?_)
  clear hK K
  try simp only [Act.put, List.setIfInBounds_toArray, List.set_cons_zero, List.set_cons_succ]
  refine wpAnyH_ready (rs := [5]) (by kernel_rfl) (by simp) ?_
  refine AllReadyH.cons (o := _) rfl (fun K hK => ?_) AllReadyH.nil
  rw [if_pos (by rfl)]
  go_simp
  go_at_call 42
  refine (ListsS _ _ _ _ mo _).mono ?_
  rintro e w9 ⟨m9, o9, rfl, hm, ho, hgm, hgo, hb⟩
  have HMm9 := hide hm
  have HOo9 := hide ho
  have HGm9 := hide (And.intro (Nat.le_trans HB8.out.size hgm) (Nat.le_trans HB8.out.size hgo))
  have HC9 := hide hb
  have HB9 : Hid (Below w1.drew.heap.size w1.drew w9) := HB8.out.trans (hb.mono HB8.out.size)
  clear hm ho hgm hgo hb
  go_simp
  refine hK.out _ _ (HS.out _ (HXd.out.new HB9.out).st) (fun hHeld => ?_)
  clear hK K
  try simp only [Act.put, List.setIfInBounds_toArray, List.set_cons_zero, List.set_cons_succ]
  refine wpAnyH_ready (rs := [7]) (by kernel_rfl) (by simp) ?_
  refine AllReadyH.cons (o := _) rfl (fun K hK => ?_) AllReadyH.nil
  rw [if_pos (by rfl)]
  go_simp
  go_at_call 94
  refine (take_texts r m8 m9 o9 nn (min mo 16777216) (by omega) s _ (HRd.out.below HB9.out) _ _ _ _ (keepCell HM8.out HC9.out) HMm9.out HOo9.out (Nat.lt_of_lt_of_le HRd.out.lt HG8.out) (Nat.lt_of_lt_of_le HRd.out.lt HGm9.out.1) (Nat.lt_of_lt_of_le HRd.out.lt HGm9.out.2)).mono ?_
  rintro e w10 ⟨a9, n9, c9, rfl, he9, hr9, hk9⟩
  rw [HS1.out] at hr9
  have HR9 := hide hr9
  have HE9 := hide he9
  have HK9 := hide (HKd.out.more ((Keep.ofBelow HB9.out (Nat.le_refl _)).more hk9))
  have HBk := hide ((HXd.out.new HB9.out).keep hk9 (by have := HG.out; omega))
  obtain ⟨z0, z1, z2, z3, z4, z5, z6⟩ := HBk.out.cells
  have f0 := HBk.out.froz 0
  have f1 := HBk.out.froz 1
  have f2 := HBk.out.froz 2
  have f3 := HBk.out.froz 3
  have f4 := HBk.out.froz 4
  have f5 := HBk.out.froz 5
  have f6 := HBk.out.froz 6
  clear hr9 hk9 he9
  go_simp
  refine hK.out _ _ (HS.out _ HBk.out.st) (fun hHeld => ?_)
  clear hK K
  try simp only [Act.put, List.setIfInBounds_toArray, List.set_cons_zero, List.set_cons_succ]
  refine wpAnyH_take (i := 8) (oi := _) (v := ?_) rfl (by kernel_rfl) (by kernel_rfl) (by kernel_rfl) (fun _ _ _ h => h) (Or.inl ⟨by rfl, ?_⟩) (by assumption) ?_
  rotate_left
  · (intro w hSw; (try dsimp only at hSw); go_simp)
    all_goals with_reducible rfl
  go_simp
  refine wpAnyH_take (i := 9) (oi := _) (v := ?_) rfl (by kernel_rfl) (by kernel_rfl) (by kernel_rfl) (fun _ _ _ h => h) (Or.inl ⟨by rfl, ?_⟩) (by assumption) ?_
  rotate_left
  · (intro w hSw; (try dsimp only at hSw); go_simp)
    all_goals with_reducible rfl
  go_simp
  refine wpAnyH_done (by kernel_rfl) ?_ _
  simp only [RL.endQ]
  have HE := hide (HBk.out.done (t := { td0 with T := lvS (min mo 16777216) nn s }) HR9.out (by have := HG.out; omega) HK9.out (cT := c9) (cL := 0) (cD := 0) HE9.out (els0 _) (rows0 _))
  unfold Oper.wp
  go_simp
  go_wp2_with fail
  exact bodyPost_ret (res7 rfl _ _ (g + 1) (.int .i64 0) (.int .u64 0) (.bool false) (.string ⟨#[]⟩) (.slice a9 n9 c9) (.slice none 0 0) (.slice none 0 0) rfl (put7_blk HBk.out.td _ _ _ _ _ _ _)) rfl HE.out
set_option maxRecDepth 100000 in
set_option maxHeartbeats 4000000 in
theorem took_rows (r : Nat) (s : K.RS) (wh : Int) (le mo nn : Int) (x4 x5 x6 x7 x8 x9 x10 : Value) (w : World) (h : Rr w r s) (h1 : -9223372036854775808 ≤ wh) (h2 : wh ≤ 9223372036854775807) (hk : ((pk wh : Nat) : Int) = 7) :
    Calls Tryz.prog 33 #[.pointer (some ⟨r, 0, none⟩), .agg #[.int .i64 wh, .int .i64 le, .int .i64 mo, .int .i64 nn, x4, x5, x6, x7, x8, x9, x10]] w (TkE r (takeR (listR (min mo 16777216) (listR (min le 16777216) (numR 0 nn))) s) ({ td0 with D := lvD (min mo 16777216) (min le 16777216) nn s }) w) := by
  have hrw := h.lt
  have HH := hide h
  have HB : Hid (Bk w ((w.alloc (.cells #[.int .i64 wh, .int .i64 le, .int .i64 mo, .int .i64 nn, x4, x5, x6, x7, x8, x9, x10] 74)).alloc (.cells z7 77)) w.heap.size (w.heap.size + 1) #[.int .i64 wh, .int .i64 le, .int .i64 mo, .int .i64 nn, x4, x5, x6, x7, x8, x9, x10]) := ⟨Nat.le_refl _, by omega, (Keep.alloc (fun _ => False) _ _).blk (heap_alloc_new w _) fun f => f, by have := heap_alloc_new (w.alloc (.cells #[.int .i64 wh, .int .i64 le, .int .i64 mo, .int .i64 nn, x4, x5, x6, x7, x8, x9, x10] 74)) (.cells z7 77); simpa using this⟩
  have HK : Hid (Below w.heap.size w ((w.alloc (.cells #[.int .i64 wh, .int .i64 le, .int .i64 mo, .int .i64 nn, x4, x5, x6, x7, x8, x9, x10] 74)).alloc (.cells z7 77))) := ((Below.refl _ _).alloc (Nat.le_refl _) _).alloc (by simp) _
  have HR := hide (h.below HK.out)
  have HKr := hide (Keep.ofBelow (S := fun k => k = r) HK.out (Nat.le_refl _))
  obtain ⟨s1, hs1⟩ : ∃ s1, takeR (listR (min mo 16777216) (listR (min le 16777216) (numR 0 nn))) s = s1 := ⟨_, rfl⟩
  rw [hs1]
  have HS1 := hide hs1
  clear h hs1
  go_enter Tryz.func33, Tryz.ntmps33
  go_upto_region 1 with fail
  change Code.wp _ _ _ _ ((w.alloc (.cells #[.int .i64 wh, .int .i64 le, .int .i64 mo, .int .i64 nn, x4, x5, x6, x7, x8, x9, x10] 74)).alloc (.cells z7 77))
  generalize (w.alloc (.cells #[.int .i64 wh, .int .i64 le, .int .i64 mo, .int .i64 nn, x4, x5, x6, x7, x8, x9, x10] 74)).alloc (.cells z7 77) = W at *
  generalize hg : w.heap.size = g at *
  have HG := hide hg
  clear hg
  obtain ⟨y0, _⟩ := cells11 HB.out.st
  go_wp2_with fail
  refine (pick_any wh h1 h2 _).mono ?_
  rintro e w1 ⟨rfl, rfl⟩
  rw [hk]
  clear y0
  go_upto_region 17 with fail
  have HS : Hid (∀ W' : World, W'.heap[g]? = some (.cells #[.int .i64 wh, .int .i64 le, .int .i64 mo, .int .i64 nn, x4, x5, x6, x7, x8, x9, x10] 74 (0, 0)) → (fun W' : World => W'.cell? ⟨g, 1, none⟩ = some (.int .i64 le) ∧ W'.cell? ⟨g, 2, none⟩ = some (.int .i64 mo) ∧ W'.cell? ⟨g, 3, none⟩ = some (.int .i64 nn)) W') := fun W' k => ⟨(cells11 k).2.1, (cells11 k).2.2.1, (cells11 k).2.2.2.1⟩
  have HXd : Hid (Bk w w1.drew g (g + 1) #[.int .i64 wh, .int .i64 le, .int .i64 mo, .int .i64 nn, x4, x5, x6, x7, x8, x9, x10]) := ⟨HB.out.a, HB.out.b, HB.out.st, HB.out.td⟩
  have HRd := hide (HR.out.below (Below.refl _ _).drew)
  have HKd := hide (HKr.out.more (Keep.drew _ _))
  refine RL.wp_region_held_last (S := fun W' : World => W'.cell? ⟨g, 1, none⟩ = some (.int .i64 le) ∧ W'.cell? ⟨g, 2, none⟩ = some (.int .i64 mo) ∧ W'.cell? ⟨g, 3, none⟩ = some (.int .i64 nn)) rfl (by kernel_rfl) (by kernel_rfl) (HS.out _ HXd.out.st) (fun hHeld => ?_)
  change wpAnyH _ _ _ _ _ 13 (Array.replicate 13 false) _ _
  simp only [List.dropLast, List.getLast, List.cons_append, List.nil_append, RL.still]
  refine wpAnyH_take (i := 0) (oi := _) (v := ?_) rfl (by kernel_rfl) (by kernel_rfl) (by kernel_rfl) (fun _ _ _ h => h) (Or.inl ⟨by rfl, ?_⟩) (by assumption) ?_
  rotate_left
  · (intro w hSw; (try dsimp only at hSw); go_simp)
    all_goals with_reducible rfl
  go_simp
  refine wpAnyH_take (i := 1) (oi := _) (v := ?_) rfl (by kernel_rfl) (by kernel_rfl) (by kernel_rfl) (fun _ _ _ h => h) (Or.inl ⟨by rfl, ?_⟩) (by assumption) ?_
  rotate_left
  · (intro w hSw; (try dsimp only at hSw); go_simp)
    all_goals with_reducible rfl
  go_simp
  refine wpAnyH_take (i := 3) (oi := _) (v := ?_) rfl (by kernel_rfl) (by kernel_rfl) (by kernel_rfl) (fun _ _ _ h => h) (Or.inl ⟨by rfl, ?_⟩) (by assumption) ?_
  rotate_left
  · (intro w hSw; (try dsimp only at hSw); go_simp)
    all_goals with_reducible rfl
  go_simp
  refine wpAnyH_take (i := 4) (oi := _) (v := ?_) rfl (by kernel_rfl) (by kernel_rfl) (by kernel_rfl) (fun _ _ _ h => h) (Or.inl ⟨by rfl, ?_⟩) (by assumption) ?_
  rotate_left
  · (intro w hSw; (try dsimp only at hSw); go_simp)
    all_goals with_reducible rfl
  go_simp
  refine wpAnyH_take (i := 6) (oi := _) (v := ?_) rfl (by kernel_rfl) (by kernel_rfl) (by kernel_rfl) (fun _ _ _ h => h) (Or.inl ⟨by rfl, ?_⟩) (by assumption) ?_
  rotate_left
  · (intro w hSw; (try dsimp only at hSw); go_simp)
    all_goals with_reducible rfl
  go_simp
  refine wpAnyH_take (i := 7) (oi := _) (v := ?_) rfl (by kernel_rfl) (by kernel_rfl) (by kernel_rfl) (fun _ _ _ h => h) (Or.inl ⟨by rfl, ?_⟩) (by assumption) ?_
  rotate_left
  · (intro w hSw; (try dsimp only at hSw); go_simp)
    all_goals with_reducible rfl
  go_simp
  refine wpAnyH_take (i := 9) (oi := _) (v := ?_) rfl (by kernel_rfl) (by kernel_rfl) (by kernel_rfl) (fun _ _ _ h => h) (Or.inl ⟨by rfl, ?_⟩) (by assumption) ?_
  rotate_left
  · (intro w hSw; (try dsimp only at hSw); go_simp)
    all_goals with_reducible rfl
  go_simp
  refine wpAnyH_ready (rs := [2]) (by kernel_rfl) (by simp) ?_
  refine AllReadyH.cons (o := _) rfl (fun K hK => ?_) AllReadyH.nil
  rw [if_pos (by rfl)]
  go_simp
  go_at_call 39
  refine (Numbers_any 0 nn _).mono ?_
  rintro e w8 ⟨l8, m8, rfl, hl8, hm8, hgl, hgm, hb8⟩
  have HL8 := hide hl8
  have HM8 := hide hm8
  have HG8 := hide (And.intro hgl hgm)
  have HB8 : Hid (Below w1.drew.heap.size w1.drew w8) := hb8
  clear hl8 hm8 hgl hgm hb8
  go_simp
  refine hK.out _ _ (HS.out _ (HXd.out.new HB8.out).st) (fun hHeld => ?_)
  clear hK K
  try simp only [Act.put, List.setIfInBounds_toArray, List.set_cons_zero, List.set_cons_succ]
  refine wpAnyH_ready (rs := [5]) (by kernel_rfl) (by simp) ?_
  refine AllReadyH.cons (o := _) rfl (fun K hK => ?_) AllReadyH.nil
  rw [if_pos (by rfl)]
  go_simp
  go_at_call 79
  refine (ListsI _ _ _ _ le _).mono ?_
  rintro e w9 ⟨m9, o9, rfl, hm, ho, hgm, hgo, hb⟩
  have HMm9 := hide hm
  have HOo9 := hide ho
  have HGm9 := hide (And.intro (Nat.le_trans HB8.out.size hgm) (Nat.le_trans HB8.out.size hgo))
  have HC9 := hide hb
  have HB9 : Hid (Below w1.drew.heap.size w1.drew w9) := HB8.out.trans (hb.mono HB8.out.size)
  clear hm ho hgm hgo hb
  go_simp
  refine hK.out _ _ (HS.out _ (HXd.out.new HB9.out).st) (fun hHeld => ?_)
  clear hK K
  try simp only [Act.put, List.setIfInBounds_toArray, List.set_cons_zero, List.set_cons_succ]
  refine wpAnyH_ready (rs := [8]) (by kernel_rfl) (by simp) ?_
  refine AllReadyH.cons (o := _) rfl (fun K hK => ?_) AllReadyH.nil
  rw [if_pos (by rfl)]
  go_simp
  go_at_call 82
  refine (ListsLi _ _ _ _ mo _).mono ?_
  rintro e w10 ⟨m10, o10, rfl, hm, ho, hgm, hgo, hb⟩
  have HMm10 := hide hm
  have HOo10 := hide ho
  have HGm10 := hide (And.intro (Nat.le_trans HB9.out.size hgm) (Nat.le_trans HB9.out.size hgo))
  have HC10 := hide hb
  have HB10 : Hid (Below w1.drew.heap.size w1.drew w10) := HB9.out.trans (hb.mono HB9.out.size)
  clear hm ho hgm hgo hb
  go_simp
  refine hK.out _ _ (HS.out _ (HXd.out.new HB10.out).st) (fun hHeld => ?_)
  clear hK K
  try simp only [Act.put, List.setIfInBounds_toArray, List.set_cons_zero, List.set_cons_succ]
  refine wpAnyH_ready (rs := [10]) (by kernel_rfl) (by simp) ?_
  refine AllReadyH.cons (o := _) rfl (fun K hK => ?_) AllReadyH.nil
  rw [if_pos (by rfl)]
  go_simp
  go_at_call 95
  refine (take_rows r l8 m8 m9 o9 m10 o10 nn (min le 16777216) (min mo 16777216) (by omega) (by omega) s _ (HRd.out.below HB10.out) _ _ _ _ _ _ (keepCell (keepCell HL8.out HC9.out) HC10.out) (keepCell (keepCell HM8.out HC9.out) HC10.out) (keepCell HMm9.out HC10.out) HMm10.out (keepBlk HOo9.out HC10.out) HOo10.out (Nat.lt_of_lt_of_le HRd.out.lt HG8.out.1) (Nat.lt_of_lt_of_le HRd.out.lt HG8.out.2) (Nat.lt_of_lt_of_le HRd.out.lt HGm9.out.1) (Nat.lt_of_lt_of_le HRd.out.lt HGm9.out.2) (Nat.lt_of_lt_of_le HRd.out.lt HGm10.out.1) (Nat.lt_of_lt_of_le HRd.out.lt HGm10.out.2)).mono ?_
  rintro e w11 ⟨a9, n9, c9, rfl, he9, hr9, hk9⟩
  rw [HS1.out] at hr9
  have HR9 := hide hr9
  have HE9 := hide he9
  have HK9 := hide (HKd.out.more ((Keep.ofBelow HB10.out (Nat.le_refl _)).more hk9))
  have HBk := hide ((HXd.out.new HB10.out).keep hk9 (by have := HG.out; omega))
  obtain ⟨z0, z1, z2, z3, z4, z5, z6⟩ := HBk.out.cells
  have f0 := HBk.out.froz 0
  have f1 := HBk.out.froz 1
  have f2 := HBk.out.froz 2
  have f3 := HBk.out.froz 3
  have f4 := HBk.out.froz 4
  have f5 := HBk.out.froz 5
  have f6 := HBk.out.froz 6
  clear hr9 hk9 he9
  go_simp
  refine hK.out _ _ (HS.out _ HBk.out.st) (fun hHeld => ?_)
  clear hK K
  try simp only [Act.put, List.setIfInBounds_toArray, List.set_cons_zero, List.set_cons_succ]
  refine wpAnyH_take (i := 11) (oi := _) (v := ?_) rfl (by kernel_rfl) (by kernel_rfl) (by kernel_rfl) (fun _ _ _ h => h) (Or.inl ⟨by rfl, ?_⟩) (by assumption) ?_
  rotate_left
  · (intro w hSw; (try dsimp only at hSw); go_simp)
    all_goals with_reducible rfl
  go_simp
  refine wpAnyH_take (i := 12) (oi := _) (v := ?_) rfl (by kernel_rfl) (by kernel_rfl) (by kernel_rfl) (fun _ _ _ h => h) (Or.inl ⟨by rfl, ?_⟩) (by assumption) ?_
  rotate_left
  · (intro w hSw; (try dsimp only at hSw); go_simp)
    all_goals with_reducible rfl
  go_simp
  refine wpAnyH_done (by kernel_rfl) ?_ _
  simp only [RL.endQ]
  have HE := hide (HBk.out.done (t := { td0 with D := lvD (min mo 16777216) (min le 16777216) nn s }) HR9.out (by have := HG.out; omega) HK9.out (cT := 0) (cL := 0) (cD := c9) (els0 _) (els0 _) HE9.out)
  unfold Oper.wp
  go_simp
  go_wp2_with fail
  exact bodyPost_ret (res7 rfl _ _ (g + 1) (.int .i64 0) (.int .u64 0) (.bool false) (.string ⟨#[]⟩) (.slice none 0 0) (.slice none 0 0) (.slice a9 n9 c9) rfl (put7_blk HBk.out.td _ _ _ _ _ _ _)) rfl HE.out
end Wm
end Go.Proofs.YtoelgcagahmndaaGreat

/- The law's took of a step: a list of words (written by tkw_gen.py). -/
namespace Go.Proofs.YtoelgcagahmndaaGreat
namespace Wm
open Go.RowKit Go.Deep

/-- a word as a number -/
def sg (x : Nat) : Int := if x < 9223372036854775808 then (x : Int) else (x : Int) - 18446744073709551616
theorem sg_wrap {x : Nat} (h : x < 18446744073709551616) : IntKind.i64.wrap (x : Int) = sg x := by
  rw [IntKind.wrap_i64]; unfold sg; split <;> omega
theorem step_append_run {ops : Array Oper} {o : Oper} {a : Act} {w : World} {K : Act → World → Prop} {Q : Exit → Act → World → Prop} {E : Prop}
    (hg : o.guard = none) (d x : Operand) (t : TypeId) (hop : o.op = Op.call { callee := Callee.builtin Builtin.append, args := #[d, x], argTypes := #[t, t] })
    (v u : Value) (hd : a.eval d = v) (hx : a.eval x = u) {v' : Value} {w' : World} (hr : (Builtin.append_ #[t, t] o.type #[v, u]).run Tryz.prog w = .ok v' w') (hK : K (a.put o.dst v') w') :
    if Region.wanted o (yielded ops a.tmps) = true then Oper.wp Tryz.prog o a w K Q else E := by
  have hw : Region.wanted o (yielded ops a.tmps) = true := by simp [Region.wanted, hg]
  rw [if_pos hw]
  unfold Oper.wp
  simp [execOp, hop, resolve, invoke, builtin, hd, hx, hr, Result.andThen]
  exact hK
theorem info_int : (Tryz.prog.info? 3).map (fun i => (i.zero, i.size, i.bytes)) = some (some (.int .i64 0), 1, 8) := by kernel_rfl
/-- a number more behind a row of the call's own -/
theorem append_num {w : World} {b : Nat} {v : Value} {n : Nat} {xs : List Value} (h : w.ownsRow b 3 1 v n xs) (hb : b ≤ w.heap.size) (hl : n ≤ 16777216) {B : Nat} {y : Int} (hB : w.cell? ⟨B, 0, none⟩ = some (.int .i64 y)) (ty : TypeId) :
    ∃ a c w', (Builtin.append_ #[70, 70] ty #[v, .slice (some ⟨B, 0, none⟩) 1 1]).run Tryz.prog w = .ok (.slice a (n + 1) c) w' ∧ w'.ownsRow b 3 1 (.slice a (n + 1) c) (n + 1) (xs ++ [.int .i64 y]) ∧ w.grownBy w' v.ownBlock := by
  obtain ⟨i0, hi, hz0, hz1, hz2⟩ := info_parts info_int
  obtain ⟨v', w', h1, h2, h3, _⟩ := run_append_own_at (P := Tryz.prog) w b 70 ty 3 i0 (.int .i64 0) 1 8 Tryz.underlying70 hi hz0 hz1 hz2 rfl (by decide) v n xs h ⟨B, 0, none⟩ 1 1 [.int .i64 y] rfl (fun j u hu => by
      cases j with
      | zero =>
        have : u = .int .i64 y := by simpa using hu.symm
        subst this
        simpa [Addr.add] using hB
      | succ j => simp at hu) (fun u hu => by rw [List.mem_singleton.1 hu]; rfl) (by unfold maxLen; omega) (by omega) hb
  obtain ⟨a, c, e⟩ := ownsRow_shape h2
  subst e
  exact ⟨a, c, w', h1, h2, h3⟩
theorem Bk.done2 {w W W' : World} {r g g1 : Nat} {cs : Array Value} {s' : K.RS} {t : Td} (h : Bk w W g g1 cs) (hr : Rr W r s') (hrw : r < w.heap.size) (hk : Keep (fun k => k = r) w W) (k7 : Keep (fun k => k = g1) W W') {aT nT cT aL nL cL aD nD cD} (hT : Els (NR W) W aT nT (sv t.T)) (hL : Els (NR W) W aL nL (iv t.L)) (hD : RowsAt (NR W) W aD nD t.D) :
    TkE r s' t w (.returned (.agg #[.int .i64 t.N, .int .u64 (t.W : Nat), .bool t.F, .string t.S, .slice aT nT cT, .slice aL nL cL, .slice aD nD cD])) W' := by
  have hS : ∀ k, k = g1 → k < W.heap.size → IsR W k := fun k e _ => by rw [e]; exact ⟨_, _, _, h.td, by decide⟩
  have hb := h.b
  exact ⟨_, rfl, ⟨_, _, _, _, _, _, _, _, _, rfl, els_nr hT k7 hS, els_nr hL k7 hS, rows_nr hD k7 hS⟩, hr.stay k7 fun k hk e => by have : k = g1 := e; omega, hk.trans k7 fun i e => .inr (by have : i = g1 := e; omega)⟩
theorem keep_row (w : World) (g : Nat) (cs : Array Value) : Keep (fun k => k = g) w (w.setRow g cs) := ⟨rfl, rfl, rfl, by simp [World.setRow], fun i _ hi => setRow_other w g i _ hi⟩
def t7 (v : Value) : Array Value := #[.int .i64 0, .int .u64 0, .bool false, .string ⟨#[]⟩, .slice none 0 0, v, .slice none 0 0]
theorem size7 (v : Value) : z7.size = (t7 v).size := rfl
theorem one7 (a : Option Addr) (n c : Nat) : (t7 (.slice a n c)).all (·.oneCell') = true := by simp [t7, Value.oneCell']
theorem info7 (v : Value) : (Tryz.prog.info? 77).map (·.size) = some (t7 v).size := by rw [info_told]; rfl
theorem row_off {w : World} {b : Nat} {v : Value} {n : Nat} {l : List Value} (h : w.ownsRow b 3 1 v n l) {A : Nat} {cs : Array Value} {t : TypeId} (hA : w.heap[A]? = some (.cells cs t (0, 0))) (ht : t ≠ 3) : v.ownBlock ≠ some A := by
  intro e
  rcases h.2 with ⟨rfl, _⟩ | ⟨g, cap, cur, rfl, _, hg, _⟩
  · cases e
  · have e' : g = A := by simpa [Value.ownBlock] using e
    subst e'
    rw [hg] at hA
    injection hA with hA
    injection hA with _ hA _
    exact ht hA.symm
theorem wordV_lt {s : K.RS} (h : ∀ d ∈ s.data, d < 256) : wordV s < 18446744073709551616 := by
  unfold wordV
  have := wval_lt (l := (rest s).take 8) (fun i => by
    rw [List.getD_eq_getElem?_getD]
    cases e : ((rest s).take 8)[i]? with
    | none => simp
    | some d => exact h d (List.mem_of_mem_drop (List.mem_of_mem_take (List.mem_of_getElem? e)))) 8
  have e : (256 : Nat) ^ 8 = 18446744073709551616 := by decide
  omega
theorem kp_word : Kp wordR := fun s => by
  unfold wordR
  split
  · rfl
  · exact kp_fail _ _
theorem lvW_lt {w : World} {q : Nat} {s : K.RS} (h : Rr w q s) (mo : Int) : ∀ x ∈ lvW mo s, x < 18446744073709551616 := by
  obtain ⟨a, c, _, hr, _⟩ := h.ex
  have hd := hr.2.2.1
  intro x hx
  unfold lvW okR listVal at hx
  split at hx
  · split at hx
    · unfold valsOf at hx
      obtain ⟨i, _, rfl⟩ := List.mem_map.1 hx
      exact wordV_lt (by rw [kp_all kp_word]; exact hd)
    · cases hx
  · cases hx
theorem lvW_len (mo : Int) (s : K.RS) : (lvW mo s).length ≤ s.data.length := by
  unfold lvW okR listVal
  split
  · split
    · rename_i n z hp
      have := (cnt_ok hp).2.2
      have := rest_le s
      rw [valsOf_len]
      omega
    · exact Nat.zero_le _
  · exact Nat.zero_le _
theorem cell_1 (w : World) (v : Value) (t : TypeId) : (w.alloc (.cells #[v] t)).cell? ⟨w.heap.size, 0, none⟩ = some v := by rw [World.cell?_alloc_mark]; rfl
/-- the loop's state -/
structure Lp (W wr : World) (G : Nat) (a : Option Addr) (k c : Nat) (l : List Int) : Prop where
  td : wr.heap[G]? = some (.cells (t7 (.slice a k c)) 77 (0, 0))
  row : wr.ownsRow W.heap.size 3 1 (.slice a k c) k (iv l)
  bl : Below W.heap.size W wr
theorem Lp.step {W wr w4 : World} {G : Nat} {a a4 : Option Addr} {k c c4 : Nat} {l : List Int} {y : Int} {o : Obj} (h : Lp W wr G a k c l) (hG : W.heap.size ≤ G) (hr : w4.ownsRow W.heap.size 3 1 (.slice a4 (k + 1) c4) (k + 1) (iv l ++ [.int .i64 y])) (hg : (wr.drew.alloc o).grownBy w4 (Value.slice a k c).ownBlock) :
    Lp W (w4.setCell ⟨G, 5, none⟩ (.slice a4 (k + 1) c4)) G a4 (k + 1) c4 (l ++ [y]) ∧ w4.heap[G]? = some (.cells (t7 (.slice a k c)) 77 (0, 0)) := by
  have hal : (wr.drew.alloc o).heap[G]? = some (.cells (t7 (.slice a k c)) 77 (0, 0)) := (Keep.alloc (fun _ => False) wr.drew o).blk h.td fun f => f
  have h4 : w4.heap[G]? = some (.cells (t7 (.slice a k c)) 77 (0, 0)) := by
    rw [hg.block G (Array.getElem?_eq_some_iff.1 hal).1 (fun e => row_off h.row h.td (by decide) e.symm)]
    exact hal
  have hb4 : Below W.heap.size W w4 := ((h.bl.drew).alloc h.bl.size o).grown hg (by have := h.bl.size; simp; omega) (fun j e => (h.row.lt j e).1)
  refine ⟨⟨?_, ?_, ?_⟩, h4⟩
  · rw [set_blk h4 5]
    rfl
  · have hk := keep_cell w4 G 5 (.slice a4 (k + 1) c4)
    refine ⟨by rw [show iv (l ++ [y]) = iv l ++ [.int .i64 y] by simp [iv]]; exact hr.1, ?_⟩
    rw [show iv (l ++ [y]) = iv l ++ [.int .i64 y] by simp [iv]]
    rcases hr.2 with h' | ⟨g, cap, cur, e1, e2, e3, e4⟩
    · exact .inl h'
    · refine .inr ⟨g, cap, cur, e1, e2, hk.blk e3 (fun e => ?_), e4⟩
      exact row_off hr h4 (by decide) (by rw [e1]; show some g = some G; rw [e])
  · exact hb4.trans ((keep_cell w4 G 5 (.slice a4 (k + 1) c4)).below hb4.size fun i e => by rw [e]; exact hG)
set_option maxRecDepth 100000 in
set_option maxHeartbeats 4000000 in
theorem took_words (r : Nat) (s : K.RS) (wh : Int) (mo : Int) (x1 x3 x4 x5 x6 x7 x8 x9 x10 : Value) (w : World) (h : Rr w r s) (h1 : -9223372036854775808 ≤ wh) (h2 : wh ≤ 9223372036854775807) (hk : ((pk wh : Nat) : Int) = 8) :
    Calls Tryz.prog 33 #[.pointer (some ⟨r, 0, none⟩), .agg #[.int .i64 wh, x1, .int .i64 mo, x3, x4, x5, x6, x7, x8, x9, x10]] w (TkE r (takeR (listR (min mo 16777216) wordR) s) ({ td0 with L := (lvW (min mo 16777216) s).map sg }) w) := by
  have hrw := h.lt
  have HH := hide h
  have HB : Hid (Bk w ((w.alloc (.cells #[.int .i64 wh, x1, .int .i64 mo, x3, x4, x5, x6, x7, x8, x9, x10] 74)).alloc (.cells z7 77)) w.heap.size (w.heap.size + 1) #[.int .i64 wh, x1, .int .i64 mo, x3, x4, x5, x6, x7, x8, x9, x10]) := ⟨Nat.le_refl _, by omega, (Keep.alloc (fun _ => False) _ _).blk (heap_alloc_new w _) fun f => f, by have := heap_alloc_new (w.alloc (.cells #[.int .i64 wh, x1, .int .i64 mo, x3, x4, x5, x6, x7, x8, x9, x10] 74)) (.cells z7 77); simpa using this⟩
  have HK : Hid (Below w.heap.size w ((w.alloc (.cells #[.int .i64 wh, x1, .int .i64 mo, x3, x4, x5, x6, x7, x8, x9, x10] 74)).alloc (.cells z7 77))) := ((Below.refl _ _).alloc (Nat.le_refl _) _).alloc (by simp) _
  have HR := hide (h.below HK.out)
  have HWl : Hid (∀ x ∈ lvW (min mo 16777216) s, x < 18446744073709551616) := lvW_lt h _
  have hWn : (lvW (min mo 16777216) s).length ≤ 16777216 := Nat.le_trans (lvW_len _ s) h.top
  obtain ⟨lw, hlw⟩ : ∃ lw, lvW (min mo 16777216) s = lw := ⟨_, rfl⟩
  rw [hlw] at HWl hWn ⊢
  have HLW := hide hlw
  clear hlw
  have HKr := hide (Keep.ofBelow (S := fun k => k = r) HK.out (Nat.le_refl _))
  obtain ⟨s1, hs1⟩ : ∃ s1, takeR (listR (min mo 16777216) wordR) s = s1 := ⟨_, rfl⟩
  rw [hs1]
  have HS1 := hide hs1
  clear h hs1
  go_enter Tryz.func33, Tryz.ntmps33
  go_upto_region 1 with fail
  change Code.wp _ _ _ _ ((w.alloc (.cells #[.int .i64 wh, x1, .int .i64 mo, x3, x4, x5, x6, x7, x8, x9, x10] 74)).alloc (.cells z7 77))
  generalize (w.alloc (.cells #[.int .i64 wh, x1, .int .i64 mo, x3, x4, x5, x6, x7, x8, x9, x10] 74)).alloc (.cells z7 77) = W at *
  generalize hg : w.heap.size = g at *
  have HG := hide hg
  clear hg
  obtain ⟨y0, _⟩ := cells11 HB.out.st
  go_wp2_with fail
  refine (pick_any wh h1 h2 _).mono ?_
  rintro e w1 ⟨rfl, rfl⟩
  rw [hk]
  clear y0
  go_upto_region 19 with fail
  have HS : Hid (∀ W' : World, W'.heap[g]? = some (.cells #[.int .i64 wh, x1, .int .i64 mo, x3, x4, x5, x6, x7, x8, x9, x10] 74 (0, 0)) → (fun W' : World => W'.cell? ⟨g, 2, none⟩ = some (.int .i64 mo)) W') := fun W' k => (cells11 k).2.2.1
  have HXd : Hid (Bk w w1.drew g (g + 1) #[.int .i64 wh, x1, .int .i64 mo, x3, x4, x5, x6, x7, x8, x9, x10]) := ⟨HB.out.a, HB.out.b, HB.out.st, HB.out.td⟩
  have HRd := hide (HR.out.below (Below.refl _ _).drew)
  have HKd := hide (HKr.out.more (Keep.drew _ _))
  go_region_held3 (fun W' : World => W'.cell? ⟨g, 2, none⟩ = some (.int .i64 mo)) (first | (exact HS.out _ HXd.out.st) | (exact HS.out _ HBk.out.st) | (exact HS.out _ (HXd.out.new HB9.out).st) | (exact HS.out _ (HXd.out.new HB8.out).st) | (exact HS.out _ HB.out.st) | go_keep) (first
    | (go_at_call 96; refine (take_words r m9 o9 (min mo 16777216) (by omega) s _ (HRd.out.below HB9.out) _ _ _ _ HMm9.out HOo9.out (Nat.lt_of_lt_of_le HRd.out.lt HGm9.out.1) (Nat.lt_of_lt_of_le HRd.out.lt HGm9.out.2)).mono ?_; rintro e w10 ⟨a9, n9, c9, rfl, he9, hr9, hk9⟩; rw [HS1.out] at hr9; rw [HLW.out] at he9; have HR9 := hide hr9; have HE9 := hide he9; have HK9 := hide (HKd.out.more ((Keep.ofBelow HB9.out (Nat.le_refl _)).more hk9)); have HBk := hide ((HXd.out.new HB9.out).keep hk9 (by have := HG.out; omega)); clear hr9 hk9 he9)
    | (go_at_call 84; refine (ListsW _ _ _ _ mo _).mono ?_; rintro e w9 ⟨m9, o9, rfl, hm, ho, hgm, hgo, hb⟩; have HMm9 := hide hm; have HOo9 := hide ho; have HGm9 := hide (And.intro (Nat.le_trans HB8.out.size hgm) (Nat.le_trans HB8.out.size hgo)); have HC9 := hide hb; have HB9 : Hid (Below w1.drew.heap.size w1.drew w9) := HB8.out.trans (hb.mono HB8.out.size); clear hm ho hgm hgo hb)
    | (go_at_call 73; refine (Words_any _).mono ?_; rintro e w8 ⟨rfl, hb8⟩; have HB8 : Hid (Below w1.drew.heap.size w1.drew w8) := hb8; clear hb8))
  have HL0 : Hid (Lp w10 (w10.alloc (.cells z7 77)) w10.heap.size none 0 0 []) := ⟨heap_alloc_new w10 _, World.ownsRow_nil _ _ _ _, (Below.refl _ _).alloc (Nat.le_refl _) _⟩
  have hn9 := HE9.out.1
  rw [show (uw lw).length = lw.length by simp [uw]] at hn9
  have HN9 := hide hn9
  have hn9' : n9 ≤ 16777216 := by omega
  clear hn9
  go_wp2_with fail
  go_loopw [7] (fun iv wr => ∃ (k : Nat) (a : Option Addr) (c : Nat), iv = .int .i64 (k : Nat) ∧ k ≤ n9 ∧ Hid (Lp w10 wr w10.heap.size a k c ((lw.take k).map sg))) (fun iv _ => n9 - (intOf iv).toNat)
  case atStart => exact ⟨0, none, 0, rfl, Nat.zero_le _, HL0.out⟩
  case round => as_aux_lemma =>
    clear HL0
    obtain ⟨k, a, c, rfl, hkn, HD⟩ := hrel
    by_cases hlt : k < n9
    · have hlt' : (k : Int) < (n9 : Int) := by omega
      obtain ⟨x, hx⟩ : ∃ x, lw[k]? = some x := ⟨_, List.getElem?_eq_getElem (by have := HN9.out; omega)⟩
      have hxl := HWl.out x (List.mem_of_getElem? hx)
      have huw : (uw lw)[k]? = some (.int .u64 (x : Nat)) := by unfold uw; rw [List.getElem?_map, hx]; rfl
      obtain ⟨b, off, eA, HC⟩ : ∃ b off, a9 = some ⟨b, off, none⟩ ∧ Hid (∀ W', Below w10.heap.size w10 W' → W'.cell? ⟨b, off + k, none⟩ = some (.int .u64 (x : Nat))) := by
        rcases HE9.out.2.2 with h0 | ⟨b, off, e, hd, hc⟩
        · omega
        · exact ⟨b, off, e, fun W' hb => keepCell (hc k _ huw) hb⟩
      subst eA
      have HTk : Hid ((lw.take (k + 1)).map sg = (lw.take k).map sg ++ [sg x]) := by show _ = _; rw [List.take_add_one, hx]; simp
      have hsg := sg_wrap hxl
      clear hx huw
      generalize hy : sg x = y at *
      clear hy
      have hnal : (wr.drew.alloc (.cells #[.int .i64 y] 3)).ownsRow w10.heap.size 3 1 (.slice a k c) k (iv ((lw.take k).map sg)) := ownsRow_keepB HD.out.row (((Below.refl wr.heap.size wr).drew).alloc (by simp) _)
      obtain ⟨a4, c4, w4, hap, ho4, hg4⟩ := append_num (y := y) (B := wr.heap.size) hnal (by have := HD.out.bl.size; simp; omega) (by omega) (by have := cell_1 wr.drew (.int .i64 y) 3; exact this) 70
      obtain ⟨hlp, ht4⟩ := HD.out.step (Nat.le_refl _) ho4 hg4
      have HAP := hide hap
      have HLP := hide hlp
      have HT4 := hide ht4
      have hb4 : Below w10.heap.size w10 w4 := ((HD.out.bl.drew).alloc HD.out.bl.size _).grown hg4 (by have := HD.out.bl.size; simp; omega) (fun j e => (HD.out.row.lt j e).1)
      have HS3 : Hid ((fun W' : World => W'.cell? ⟨w10.heap.size, 5, none⟩ = some (.slice a k c) ∧ W'.cell? ⟨b, off + k, none⟩ = some (.int .u64 (x : Nat))) wr.drew) := ⟨by show wr.cell? _ = _; rw [cell_of_row _ _ _ _ _ _ HD.out.td]; rfl, HC.out _ HD.out.bl.drew⟩
      have HS4 : Hid ((fun W' : World => W'.cell? ⟨w10.heap.size, 5, none⟩ = some (.slice a k c) ∧ W'.cell? ⟨b, off + k, none⟩ = some (.int .u64 (x : Nat))) (wr.drew.alloc (.cells #[.int .i64 y] 3))) := ⟨by rw [cell_of_row _ _ _ _ _ _ ((Keep.alloc (fun _ => False) wr.drew _).blk HD.out.td fun f => f)]; rfl, HC.out _ ((HD.out.bl.drew).alloc HD.out.bl.size _)⟩
      have HS5 : Hid ((fun W' : World => W'.cell? ⟨w10.heap.size, 5, none⟩ = some (.slice a k c) ∧ W'.cell? ⟨b, off + k, none⟩ = some (.int .u64 (x : Nat))) w4) := ⟨by rw [cell_of_row _ _ _ _ _ _ ht4]; rfl, HC.out _ hb4⟩
      clear hap ho4 hg4 hlp ht4 hb4 hnal
      go_upto_region 24 with fail
      refine RL.wp_region_held_last (S := fun W' : World => W'.cell? ⟨w10.heap.size, 5, none⟩ = some (.slice a k c) ∧ W'.cell? ⟨b, off + k, none⟩ = some (.int .u64 (x : Nat))) rfl (by kernel_rfl) (by kernel_rfl) HS3.out (fun hHeld => ?_)
      change wpAnyH _ _ _ _ _ 11 (Array.replicate 11 false) _ _
      simp only [List.dropLast, List.getLast, List.cons_append, List.nil_append, RL.still]
      refine wpAnyH_take (i := 0) (oi := _) (v := ?_) rfl (by kernel_rfl) (by kernel_rfl) (by kernel_rfl) (fun _ _ _ h => h) (Or.inl ⟨by rfl, ?_⟩) (by assumption) ?_
      rotate_left
      · (intro w hSw; (try dsimp only at hSw); go_simp)
        all_goals with_reducible rfl
      go_simp
      refine wpAnyH_take (i := 1) (oi := _) (v := ?_) rfl (by kernel_rfl) (by kernel_rfl) (by kernel_rfl) (fun _ _ _ h => h) (Or.inl ⟨by rfl, ?_⟩) (by assumption) ?_
      rotate_left
      · (intro w hSw; (try dsimp only at hSw); go_simp)
        all_goals with_reducible rfl
      go_simp
      refine wpAnyH_take (i := 2) (oi := _) (v := ?_) rfl (by kernel_rfl) (by kernel_rfl) (by kernel_rfl) (fun _ _ _ h => h) (Or.inl ⟨by rfl, ?_⟩) (by assumption) ?_
      rotate_left
      · (intro w hSw; (try dsimp only at hSw); go_simp)
        all_goals with_reducible rfl
      go_simp
      refine wpAnyH_take (i := 3) (oi := _) (v := ?_) rfl (by kernel_rfl) (by kernel_rfl) (by kernel_rfl) (fun _ _ _ h => h) (Or.inl ⟨by rfl, ?_⟩) (by assumption) ?_
      rotate_left
      · (intro w hSw; (try dsimp only at hSw); go_simp)
        all_goals with_reducible rfl
      go_simp
      refine wpAnyH_take (i := 4) (oi := _) (v := ?_) rfl (by kernel_rfl) (by kernel_rfl) (by kernel_rfl) (fun _ _ _ h => h) (Or.inl ⟨by rfl, ?_⟩) (by assumption) ?_
      rotate_left
      · (intro w hSw; (try dsimp only at hSw); go_simp)
        all_goals with_reducible rfl
      go_simp
      refine wpAnyH_take (i := 5) (oi := _) (v := ?_) rfl (by kernel_rfl) (by kernel_rfl) (by kernel_rfl) (fun _ _ _ h => h) (Or.inl ⟨by rfl, ?_⟩) (by assumption) ?_
      rotate_left
      · (intro w hSw; (try dsimp only at hSw); go_simp)
        all_goals with_reducible rfl
      go_simp
      refine wpAnyH_take (i := 6) (oi := _) (v := ?_) rfl (by kernel_rfl) (by kernel_rfl) (by kernel_rfl) (fun _ _ _ h => h) (Or.inl ⟨by rfl, ?_⟩) (by assumption) ?_
      rotate_left
      · (intro w hSw; (try dsimp only at hSw); go_simp)
        all_goals with_reducible rfl
      go_simp
      refine wpAnyH_ready (rs := [7]) (by kernel_rfl) (by simp) ?_
      refine AllReadyH.cons (o := _) rfl (fun K hK => ?_) AllReadyH.nil
      rw [if_pos (by rfl)]
      unfold Oper.wp
      go_simp
      refine hK.out _ _ HS4.out (fun hHeld => ?_)
      clear hK K
      try simp only [Act.put, List.setIfInBounds_toArray, List.set_cons_zero, List.set_cons_succ]
      refine wpAnyH_ready (rs := [8]) (by kernel_rfl) (by simp) ?_
      refine AllReadyH.cons (o := _) rfl (fun K hK => ?_) AllReadyH.nil
      refine step_append_run (by rfl) _ _ 70 (by rfl) _ _ (by rfl) (by rfl) HAP.out ?_
      refine hK.out _ _ HS5.out (fun hHeld => ?_)
      clear hK K
      go_simp
      refine wpAnyH_take (i := 9) (oi := _) (v := ?_) rfl (by kernel_rfl) (by kernel_rfl) (by kernel_rfl) (fun _ _ _ h => h) (Or.inl ⟨by rfl, ?_⟩) (by assumption) ?_
      rotate_left
      · (intro w hSw; (try dsimp only at hSw); go_simp)
        all_goals with_reducible rfl
      go_simp
      refine wpAnyH_take (i := 10) (oi := _) (v := ?_) rfl (by kernel_rfl) (by kernel_rfl) (by kernel_rfl) (fun _ _ _ h => h) (Or.inl ⟨by rfl, ?_⟩) (by assumption) ?_
      rotate_left
      · (intro w hSw; (try dsimp only at hSw); go_simp)
        all_goals with_reducible rfl
      go_simp
      refine wpAnyH_done (by kernel_rfl) ?_ _
      simp only [RL.endQ]
      have hfz := frozen_of_row w4 w10.heap.size 5 _ _ HT4.out
      have hc5 := HS5.out.1
      unfold Oper.wp
      go_simp
      go_wp2_with fail
      go_roundw
      · exact ⟨k + 1, a4, c4, rfl, by omega, by rw [HTk.out]; exact HLP.out⟩
      · show n9 - ((k : Int) + 1).toNat < n9 - (k : Int).toNat
        omega
    · obtain rfl : k = n9 := by omega
      have hge : ¬ ((k : Int) < (k : Int)) := by omega
      have HE0 : Hid (lw.take k = lw) := by show _ = _; rw [List.take_of_length_le (by have := HN9.out; omega)]
      rw [HE0.out] at HD
      have HBk2 := hide (HBk.out.new HD.out.bl)
      have HR2 := hide (HR9.out.below HD.out.bl)
      have HK2 := hide (HK9.out.more (Keep.ofBelow HD.out.bl (Nat.le_refl _)))
      obtain ⟨aL, cL, eL, hEL⟩ := row_nr HD.out.row (by decide) (by omega)
      injection eL with eL1 _ eL2
      subst eL1 eL2
      have HEL := hide hEL
      have HTD : Hid (wr.heap[w10.heap.size]? = some (.cells (t7 (.slice a k c)) 77 (0, 0))) := HD.out.td
      have HTG := hide HBk2.out.td
      clear hEL HD
      have HE := hide (HBk2.out.done2 (t := { td0 with L := lw.map sg }) HR2.out (by have := HG.out; omega) HK2.out (keep_row wr (g + 1) (t7 (.slice a k c))) (cT := 0) (cL := c) (cD := 0) (els0 _) HEL.out (rows0 _))
      go_upto_region 25 with fail
      have HF := hide (setRow_heap wr (g + 1) _ (t7 (.slice a k c)) _ _ HTG.out)
      have HI7 := hide (info7 (.slice a k c))
      have HZ7 := hide (size7 (.slice a k c))
      have HO7 := hide (one7 a k c)
      generalize hG2 : w10.heap.size = G2 at *
      clear hG2
      generalize hT7 : t7 (.slice a k c) = T7 at *
      have HT7 := hide hT7
      clear hT7
      go_wp2_with (first
        | (refine wpList_load_row rfl 77 _ rfl G2 rfl 77 T7 (0, 0) _ HTD.out Tryz.underlying77 rfl HI7.out ?_)
        | (refine wpList_store_row rfl 77 _ _ rfl (g + 1) T7 rfl rfl 77 _ HTG.out HI7.out HZ7.out HO7.out ?_))
      rw [← HT7.out] at HF
      exact bodyPost_ret (res7 rfl _ _ (g + 1) (.int .i64 0) (.int .u64 0) (.bool false) (.string ⟨#[]⟩) (.slice none 0 0) (.slice a k c) (.slice none 0 0) rfl (by rw [← HT7.out]; exact HF.out)) rfl HE.out
end Wm
end Go.Proofs.YtoelgcagahmndaaGreat
