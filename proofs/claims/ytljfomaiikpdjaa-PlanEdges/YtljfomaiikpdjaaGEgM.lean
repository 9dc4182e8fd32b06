/- PlanEdges: the mathematics of an edge more. -/
import Derived.Test.YtljfomaiikpdjaaGBdM
namespace Go.Proofs.Ytljfomaiikpdjaa
namespace Gr

/-- a number put into a list that rises, ahead of the first that is greater -/
def ins (t : Int) : List Int → List Int
  | [] => [t]
  | x :: z => if t < x then t :: x :: z else x :: ins t z
theorem mem_ins {t e : Int} {z : List Int} : e ∈ ins t z ↔ e = t ∨ e ∈ z := by
  induction z with
  | nil => simp [ins]
  | cons x z ih =>
    unfold ins
    split
    · simp
    · simp only [List.mem_cons, ih]
      constructor
      · rintro (h | h | h)
        · exact .inr (.inl h)
        · exact .inl h
        · exact .inr (.inr h)
      · rintro (h | h | h)
        · exact .inr (.inl h)
        · exact .inl h
        · exact .inr (.inr h)
theorem ins_len (t : Int) (z : List Int) : (ins t z).length = z.length + 1 := by
  induction z with
  | nil => rfl
  | cons x z ih =>
    unfold ins
    split
    · simp
    · simp [ih]
theorem lOk_ins {t own cnt : Int} {z : List Int} : ∀ {ah : Int}, lOk ah z own cnt = true → ah < t → t < cnt → t ≠ own → t ∉ z → lOk ah (ins t z) own cnt = true := by
  induction z with
  | nil =>
    intro ah _ h1 h2 h3 _
    simp [ins, lOk, h3]
    omega
  | cons x z ih =>
    intro ah h h1 h2 h3 h4
    unfold lOk at h
    simp only [Bool.and_eq_true, Bool.not_eq_true', Bool.or_eq_false_iff, decide_eq_false_iff_not] at h
    obtain ⟨⟨⟨a1, a2⟩, a3⟩, a4⟩ := h
    simp only [List.mem_cons, not_or] at h4
    unfold ins
    split
    · rename_i hx
      simp only [lOk, Bool.and_eq_true, Bool.not_eq_true', Bool.or_eq_false_iff, decide_eq_false_iff_not]
      exact ⟨⟨⟨by omega, by omega⟩, h3⟩, ⟨⟨by omega, by omega⟩, a3⟩, a4⟩
    · rename_i hx
      have := ih (ah := x) a4 (by have := h4.1; omega) h2 h3 h4.2
      simp only [lOk, Bool.and_eq_true, Bool.not_eq_true', Bool.or_eq_false_iff, decide_eq_false_iff_not]
      exact ⟨⟨⟨by omega, by omega⟩, a3⟩, this⟩

/-- a node with an edge more -/
def Plus (af : Bool) (t : Int) (x y : No) : Prop := x.q.nm = y.q.nm ∧ y.nl = (if af then x.nl else ins t x.nl) ∧ y.al = (if af then ins t x.al else x.al)
/-- a plan with an edge more, from fr to t -/
def Pluss (af : Bool) (t fr : Nat) (xs ys : List No) : Prop := xs.length = ys.length ∧ ∀ (k : Nat) (x y : No), xs[k]? = some x → ys[k]? = some y → fOk y.q = true ∧ (k ≠ fr → Sim x y) ∧ (k = fr → Plus af t x y)

theorem Plus.eOk {af : Bool} {t : Int} {x y : No} (h : Plus af t x y) {own cnt : Int} (hx : eOk x own cnt = true) (h0 : 0 ≤ t) (h1 : t < cnt) (h2 : t ≠ own) (h3 : t ∉ x.nl) (h4 : t ∉ x.al) : Gr.eOk y own cnt = true := by
  obtain ⟨_, e1, e2⟩ := h
  unfold Gr.eOk at hx ⊢
  simp only [Bool.and_eq_true, Bool.not_eq_true', List.any_eq_false, List.contains_iff_mem] at hx ⊢
  obtain ⟨⟨b1, b2⟩, b3⟩ := hx
  rw [e1, e2]
  cases af
  · refine ⟨⟨lOk_ins b1 (by omega) h1 h2 h3, b2⟩, fun e he hm => ?_⟩
    rcases mem_ins.1 hm with rfl | hm
    · exact h4 he
    · exact b3 e he hm
  · refine ⟨⟨b1, lOk_ins b2 (by omega) h1 h2 h4⟩, fun e he hm => ?_⟩
    rcases mem_ins.1 he with rfl | he
    · exact h3 hm
    · exact b3 e he hm

theorem edges_cons (x : No) (xs : List No) : edges (x :: xs) = x.nl.length + x.al.length + edges xs := by
  unfold edges; simp
theorem Plus.len {af : Bool} {t : Int} {x y : No} (h : Plus af t x y) : y.nl.length + y.al.length = x.nl.length + x.al.length + 1 := by
  obtain ⟨_, e1, e2⟩ := h
  rw [e1, e2]
  cases af
  · simp [ins_len]; omega
  · simp [ins_len]; omega
theorem Pluss.edges {af : Bool} {t fr : Nat} {xs ys : List No} (h : Pluss af t fr xs ys) (hf : fr < xs.length) : edges ys = edges xs + 1 := by
  induction xs generalizing ys fr with
  | nil => simp at hf
  | cons x xs ih =>
    cases ys with
    | nil => have := h.1; simp at this
    | cons y ys =>
      have h0 := h.2 0 x y rfl rfl
      have hl : xs.length = ys.length := by have := h.1; simpa using this
      rw [edges_cons, edges_cons]
      cases fr with
      | zero =>
        have hp := (h0.2.2 rfl).len
        have : Gr.edges ys = Gr.edges xs := Sims.edges ⟨hl, fun k a b ha hb => (h.2 (k + 1) a b (by simpa using ha) (by simpa using hb)).2.1 (by omega)⟩
        omega
      | succ fr =>
        have hs := h0.2.1 (by omega)
        have := ih (ys := ys) (fr := fr) ⟨hl, fun k a b ha hb => ⟨(h.2 (k + 1) a b (by simpa using ha) (by simpa using hb)).1, fun hk => (h.2 (k + 1) a b (by simpa using ha) (by simpa using hb)).2.1 (by omega), fun hk => (h.2 (k + 1) a b (by simpa using ha) (by simpa using hb)).2.2 (by omega)⟩⟩ (by simpa using hf)
        rw [← hs.2.1, ← hs.2.2]
        omega
theorem Pluss.eg {af : Bool} {t fr : Nat} {xs ys : List No} (h : Pluss af t fr xs ys) (hf : fr < xs.length) (i e : Nat) : e ∈ eg ys i ↔ e ∈ eg xs i ∨ (i = fr ∧ e = t) := by
  rcases Nat.lt_or_ge i xs.length with hi | hi
  · have hx : xs[i]? = some (xs[i]'hi) := List.getElem?_eq_getElem hi
    have hy : ys[i]? = some (ys[i]'(by have := h.1; omega)) := List.getElem?_eq_getElem _
    have hr := h.2 i _ _ hx hy
    rw [eg_at hx, eg_at hy]
    by_cases c : i = fr
    · obtain ⟨_, e1, e2⟩ := hr.2.2 c
      rw [e1, e2]
      have hm : ∀ z : List Int, e ∈ (ins t z).map Int.toNat ↔ e = t ∨ e ∈ z.map Int.toNat := fun z => by
        simp only [List.mem_map]
        constructor
        · rintro ⟨a, ha, rfl⟩
          rcases mem_ins.1 ha with rfl | ha
          · exact .inl rfl
          · exact .inr ⟨a, ha, rfl⟩
        · rintro (rfl | ⟨a, ha, rfl⟩)
          · exact ⟨_, mem_ins.2 (.inl rfl), rfl⟩
          · exact ⟨_, mem_ins.2 (.inr ha), rfl⟩
      cases af
      · simp only [Bool.false_eq_true, if_false, List.mem_append, hm, c, true_and]
        constructor
        · rintro ((h | h) | h)
          · exact .inr h
          · exact .inl (.inl h)
          · exact .inl (.inr h)
        · rintro ((h | h) | h)
          · exact .inl (.inr h)
          · exact .inr h
          · exact .inl (.inl h)
      · simp only [if_true, List.mem_append, hm, c, true_and]
        constructor
        · rintro (h | h | h)
          · exact .inl (.inl h)
          · exact .inr h
          · exact .inl (.inr h)
        · rintro ((h | h) | h)
          · exact .inl h
          · exact .inr (.inr h)
          · exact .inr (.inl h)
    · obtain ⟨_, e1, e2⟩ := hr.2.1 c
      rw [← e1, ← e2]
      constructor
      · exact .inl
      · rintro (g | ⟨g, _⟩)
        · exact g
        · exact absurd g c
  · rw [eg_out hi, eg_out (by have := h.1; omega)]
    constructor
    · intro g; cases g
    · rintro (g | ⟨g, _⟩)
      · cases g
      · omega
/-- nodes with which nothing is wrong, of the same names -/
theorem cN_like {n : Nat} : ∀ {xs ys : List No} {i : Nat} {seen : List ByteArray}, xs.length = ys.length → (cN n i seen xs).2 = 0 → (∀ k x y, xs[k]? = some x → ys[k]? = some y → x.q.nm = y.q.nm ∧ fOk y.q = true ∧ eOk y ((i + k : Nat) : Int) n = true) → cN n i seen ys = (0, 0) := by
  intro xs
  induction xs with
  | nil =>
    intro ys i seen h _ _
    have : ys = [] := List.eq_nil_of_length_eq_zero (by simpa using h.symm)
    subst this
    rfl
  | cons x xs ih =>
    intro ys i seen h hx hf
    cases ys with
    | nil => simp at h
    | cons y ys =>
      unfold cN at hx
      split at hx
      · cases hx
      · rename_i c1
        split at hx
        · cases hx
        · split at hx
          · cases hx
          · obtain ⟨f1, f2, f3⟩ := hf 0 x y rfl rfl
            have e1 : (!isNm y.q.nm || seen.any (fun t => decide (t = y.q.nm))) = false := by rw [← f1]; exact Bool.eq_false_iff.2 c1
            have f3 : eOk y i n = true := f3
            show (if (!isNm y.q.nm || seen.any (fun t => decide (t = y.q.nm))) = true then _ else if (!fOk y.q) = true then _ else if (!Gr.eOk y i n) = true then _ else _) = _
            rw [e1, f2, f3]
            have hx' : (cN n (i + 1) (y.q.nm :: seen) xs).2 = 0 := by rw [← f1]; exact hx
            exact ih (by simpa using h) hx' fun k a b ha hb => by
              have := hf (k + 1) a b (by simpa using ha) (by simpa using hb)
              rw [show i + 1 + k = i + (k + 1) by omega]
              exact this

/-! A graph with an edge more. -/
theorem more_waits {E F : Nat → List Nat} {fr t : Nat} (hF : ∀ i e, e ∈ F i ↔ e ∈ E i ∨ (i = fr ∧ e = t)) {a b : Nat} (h : Waits E a b) : Waits F a b := by
  obtain ⟨k, hk⟩ := h
  induction k generalizing a with
  | zero => exact .edge ((hF a b).2 (.inl hk))
  | succ k ih =>
    obtain ⟨x, hx, hk⟩ := hk
    exact .step ((hF a x).2 (.inl hx)) (ih hk)
theorem less_waits {E F : Nat → List Nat} {fr t : Nat} (hF : ∀ i e, e ∈ F i ↔ e ∈ E i ∨ (i = fr ∧ e = t)) {a b : Nat} (h : Waits F a b) : Waits E a b ∨ (a = fr ∨ Waits E a fr) ∧ (b = t ∨ Waits E t b) := by
  obtain ⟨k, hk⟩ := h
  induction k generalizing a with
  | zero =>
    rcases (hF a b).1 hk with g | ⟨rfl, rfl⟩
    · exact .inl (.edge g)
    · exact .inr ⟨.inl rfl, .inl rfl⟩
  | succ k ih =>
    obtain ⟨x, hx, hk⟩ := hk
    have r := ih hk
    rcases (hF a x).1 hx with g | ⟨rfl, rfl⟩
    · rcases r with r | ⟨r | r, s⟩
      · exact .inl (.step g r)
      · exact .inr ⟨.inr (.edge (r ▸ g)), s⟩
      · exact .inr ⟨.inr (.step g r), s⟩
    · rcases r with r | ⟨_, s⟩
      · exact .inr ⟨.inl rfl, .inr r⟩
      · exact .inr ⟨.inl rfl, s⟩

/-- what Check tells of a plan that may be, with an edge more -/
theorem chk_edge {nm : ByteArray} {dl : Int} {xs ys : List No} {af : Bool} {t fr : Nat} {x : No} (h : (chk nm dl xs).2 = 0) (hp : Pluss af t fr xs ys) (hx : xs[fr]? = some x) (ht : t < xs.length) (hne : fr ≠ t) (h3 : (t : Int) ∉ x.nl) (h4 : (t : Int) ∉ x.al) :
    (chk nm dl ys = (0, 102)) ∨ (Val ys ∧ edges ys ≤ 256 ∧ ((¬ Waits (eg xs) t fr ∧ chk nm dl ys = (0, 0)) ∨ (Waits (eg xs) t fr ∧ ∃ m, chk nm dl ys = (m + 1, 106) ∧ m < ys.length ∧ Waits (eg ys) m fr ∧ Waits (eg ys) fr m))) := by
  obtain ⟨c1, c2, _, _, c5⟩ := chk_ok h
  have hf : fr < xs.length := (List.getElem?_eq_some_iff.1 hx).1
  have he := hp.edges hf
  have hN : cN ys.length 0 [] ys = (0, 0) := by
    rw [← hp.1]
    refine cN_like hp.1 c2 fun k a b ha hb => ?_
    obtain ⟨r1, r2, r3⟩ := hp.2 k a b ha hb
    have o := (cN_ok c2 k a ha).2.2
    by_cases hk : k = fr
    · have q := r3 hk
      have hax : a = x := by rw [hk, hx] at ha; exact (Option.some.inj ha).symm
      subst hax
      exact ⟨q.1, r1, q.eOk o (by omega) (by omega) (by omega) h3 h4⟩
    · have q := r2 hk
      exact ⟨q.1, r1, by rw [q.eOk]; exact o⟩
  unfold cW at c1
  have g1 : (!isNm nm) = false := by
    cases g : (!isNm nm)
    · rfl
    · rw [g] at c1; simp at c1
  rw [g1] at c1
  have g2 : (!wI dl 1 1099511627776) = false := by
    cases g : (!wI dl 1 1099511627776)
    · rfl
    · rw [g] at c1; simp at c1
  rw [g2] at c1
  have g3 : (!wI (xs.length : Int) 1 64) = false := by
    cases g : (!wI (xs.length : Int) 1 64)
    · rfl
    · rw [g] at c1; simp at c1
  by_cases hs : 256 < Gr.edges ys
  · left
    have hW : cW nm dl ys = 102 := by
      unfold cW
      rw [g1, g2, ← hp.1, g3, decide_eq_true hs]
      rfl
    unfold chk
    rw [hW]
    rfl
  · right
    have hW : cW nm dl ys = 0 := by
      unfold cW
      rw [g1, g2, ← hp.1, g3, decide_eq_false hs]
      rfl
    have hv : Val ys := cN_val (cW_len hW).2 (by rw [hN])
    refine ⟨hv, by omega, ?_⟩
    have hF := hp.eg hf
    have hA := cyc_none c5
    have hC := cyc_is ys
    have hchk : chk nm dl ys = if cyc ys ≠ 0 then (cyc ys, 106) else (0, 0) := by
      unfold chk
      rw [hW, hN]
      rfl
    rw [hchk]
    have hon : ∀ m, Waits (eg ys) m m → (m = fr ∨ Waits (eg xs) m fr) ∧ (m = t ∨ Waits (eg xs) t m) := fun m hm => by
      rcases less_waits hF hm with g | g
      · exact absurd g (hA m)
      · exact g
    by_cases hw : Waits (eg xs) t fr
    · right
      refine ⟨hw, ?_⟩
      have hfr : Waits (eg ys) fr fr := .step ((hF fr t).2 (.inr ⟨rfl, rfl⟩)) (more_waits hF hw)
      rcases hC with ⟨_, g⟩ | ⟨m, g1, g2, _⟩
      · exact absurd hfr (g fr)
      · refine ⟨m, by rw [g1, if_pos (by simp)], waits_lt g2, ?_, ?_⟩
        · rcases (hon m g2).1 with rfl | g
          · exact g2
          · exact more_waits hF g
        · rcases (hon m g2).2 with rfl | g
          · exact .edge ((hF fr m).2 (.inr ⟨rfl, rfl⟩))
          · exact .step ((hF fr t).2 (.inr ⟨rfl, rfl⟩)) (more_waits hF g)
    · left
      refine ⟨hw, ?_⟩
      rcases hC with ⟨g, _⟩ | ⟨m, _, g2, _⟩
      · rw [g]; rfl
      · obtain ⟨p1, p2⟩ := hon m g2
        rcases p1 with rfl | p1 <;> rcases p2 with rfl | p2
        · exact absurd rfl hne
        · exact absurd p2 hw
        · exact absurd p1 hw
        · exact absurd (p2.trans p1) hw
end Gr
end Go.Proofs.Ytljfomaiikpdjaa
