/- How Check turns with numbers of nodes; plans that are alike in all else. -/
import Derived.Test.YtpblmleodcaamaaGCyM
namespace Go.Proofs.Ytpblmleodcaamaa
namespace Gr

/-- nodes alike in their names and edges -/
def Sim (x y : No) : Prop := x.q.nm = y.q.nm ∧ x.nl = y.nl ∧ x.al = y.al
def Sims (xs ys : List No) : Prop := xs.length = ys.length ∧ ∀ (k : Nat) (x y : No), xs[k]? = some x → ys[k]? = some y → Sim x y
theorem Sims.tail {x y : No} {xs ys : List No} (h : Sims (x :: xs) (y :: ys)) : Sim x y ∧ Sims xs ys := by
  refine ⟨h.2 0 x y rfl rfl, by have := h.1; simpa using this, fun k a b ha hb => h.2 (k + 1) a b (by simpa using ha) (by simpa using hb)⟩
theorem Sim.eOk {x y : No} (h : Sim x y) (own cnt : Int) : eOk y own cnt = eOk x own cnt := by
  unfold Gr.eOk
  rw [h.2.1, h.2.2]
theorem Sims.edges {xs ys : List No} (h : Sims xs ys) : edges ys = edges xs := by
  induction xs generalizing ys with
  | nil =>
    have : ys = [] := List.eq_nil_of_length_eq_zero (by have := h.1; simpa using this.symm)
    rw [this]
  | cons x xs ih =>
    cases ys with
    | nil => have := h.1; simp at this
    | cons y ys =>
      obtain ⟨h1, h2⟩ := h.tail
      have := ih h2
      unfold Gr.edges at this ⊢
      simp only [List.map_cons, List.sum_cons]
      rw [this, h1.2.1, h1.2.2]
theorem Sims.eg {xs ys : List No} (h : Sims xs ys) : eg ys = eg xs := by
  funext i
  unfold Gr.eg
  rcases Nat.lt_or_ge i xs.length with hi | hi
  · have hx : xs[i]? = some (xs[i]'hi) := List.getElem?_eq_getElem hi
    have hy : ys[i]? = some (ys[i]'(by have := h.1; omega)) := List.getElem?_eq_getElem _
    have := h.2 i _ _ hx hy
    rw [hx, hy]
    simp only
    rw [this.2.1, this.2.2]
  · rw [List.getElem?_eq_none hi, List.getElem?_eq_none (by have := h.1; omega)]
theorem Sims.cyc {xs ys : List No} (h : Sims xs ys) : cyc ys = cyc xs := by
  unfold Gr.cyc
  rw [h.eg]
theorem Sims.cW {xs ys : List No} (h : Sims xs ys) (nm : ByteArray) (dl : Int) : cW nm dl ys = cW nm dl xs := by
  unfold Gr.cW
  rw [h.edges, h.1]
/-- nothing is wrong with the nodes: then a node whose numbers may not be is told, the first one -/
theorem cN_turn {n : Nat} : ∀ {xs ys : List No} {i a : Nat} {seen : List ByteArray}, Sims xs ys → (cN n i seen xs).2 = 0 → (∀ k y, ys[k]? = some y → k ≠ a → fOk y.q = true) →
    (∀ y, ys[a]? = some y → fOk y.q = true → cN n i seen ys = (0, 0)) ∧ (∀ y, ys[a]? = some y → fOk y.q = false → cN n i seen ys = (i + a + 1, 104)) ∧ (ys.length ≤ a → cN n i seen ys = (0, 0)) := by
  intro xs
  induction xs with
  | nil =>
    intro ys i a seen h _ _
    have : ys = [] := List.eq_nil_of_length_eq_zero (by have := h.1; simpa using this.symm)
    subst this
    exact ⟨(fun y hy => by simp at hy), (fun y hy => by simp at hy), fun _ => rfl⟩
  | cons x xs ih =>
    intro ys i a seen h hx hf
    cases ys with
    | nil => have := h.1; simp at this
    | cons y ys =>
      obtain ⟨h1, h2⟩ := h.tail
      unfold cN at hx
      split at hx
      · cases hx
      · rename_i c1
        split at hx
        · cases hx
        · split at hx
          · cases hx
          · rename_i c3
            have e1 : (!isNm y.q.nm || seen.any (fun t => decide (t = y.q.nm))) = false := by rw [← h1.1]; exact Bool.eq_false_iff.2 c1
            have e3 : (!Gr.eOk y i n) = false := by rw [h1.eOk]; simpa using c3
            have hx' : (cN n (i + 1) (y.q.nm :: seen) xs).2 = 0 := by rw [← h1.1]; exact hx
            have step : ∀ b, fOk y.q = b → cN n i seen (y :: ys) = if b then cN n (i + 1) (y.q.nm :: seen) ys else (i + 1, 104) := fun b hb => by
              show (if (!isNm y.q.nm || seen.any (fun t => decide (t = y.q.nm))) = true then _ else if (!fOk y.q) = true then _ else if (!Gr.eOk y i n) = true then _ else _) = _
              rw [e1, e3, hb]
              cases b <;> rfl
            cases a with
            | zero =>
              have r := ih (a := ys.length) h2 hx' fun k z hz hk => hf (k + 1) z (by simpa using hz) (by omega)
              refine ⟨fun z hz ht => ?_, fun z hz ht => ?_, fun hl => by simp at hl⟩
              · obtain rfl : y = z := by simpa using hz
                rw [step true ht]
                exact r.2.2 (Nat.le_refl _)
              · obtain rfl : y = z := by simpa using hz
                rw [step false ht]
                rfl
            | succ a =>
              have r := ih (a := a) h2 hx' fun k z hz hk => hf (k + 1) z (by simpa using hz) (by omega)
              have hy := hf 0 y rfl (by omega)
              rw [step true hy]
              refine ⟨fun z hz ht => r.1 z (by simpa using hz) ht, fun z hz ht => ?_, fun hl => r.2.2 (by simp at hl; omega)⟩
              have := r.2.1 z (by simpa using hz) ht
              rw [show i + (a + 1) + 1 = i + 1 + a + 1 by omega]
              exact this
/-- a plan that may be, with other numbers in one node -/
theorem chk_turn {nm : ByteArray} {dl : Int} {xs ys : List No} {a : Nat} {y : No} (h : (chk nm dl xs).2 = 0) (hs : Sims xs ys) (hy : ys[a]? = some y) (hf : ∀ k y, ys[k]? = some y → k ≠ a → fOk y.q = true) :
    chk nm dl ys = if fOk y.q then (0, 0) else (a + 1, 104) := by
  obtain ⟨h1, h2, _, _, h5⟩ := chk_ok h
  have hN := cN_turn (n := xs.length) (i := 0) (seen := []) (a := a) hs h2 hf
  unfold chk
  rw [hs.cW, h1, hs.cyc, h5, ← hs.1]
  cases hb : fOk y.q
  · rw [hN.2.1 y hy hb]
    simp
  · rw [hN.1 y hy hb]
    simp
/-- a plan that may be, with another deadline -/
theorem chk_deadline {nm : ByteArray} {dl dl' : Int} {xs : List No} (h : (chk nm dl xs).2 = 0) : chk nm dl' xs = if wI dl' 1 1099511627776 then (0, 0) else (0, 101) := by
  obtain ⟨h1, h2, _, _, h5⟩ := chk_ok h
  have hn := cN_zero h2
  unfold Gr.cW at h1
  have a1 : isNm nm = true := by
    cases hb : isNm nm
    · rw [hb] at h1; cases h1
    · rfl
  have a3 : (!wI (xs.length : Int) 1 64 || decide (256 < edges xs)) = false := by
    cases hb : (!wI (xs.length : Int) 1 64 || decide (256 < edges xs))
    · rfl
    · rw [a1, hb] at h1
      simp only [Bool.not_true] at h1
      split at h1
      · contradiction
      · split at h1 <;> simp_all
  have hw : Gr.cW nm dl' xs = if wI dl' 1 1099511627776 then 0 else 101 := by
    unfold Gr.cW
    rw [a1, a3]
    cases wI dl' 1 1099511627776 <;> rfl
  unfold chk
  rw [hw, hn, h5]
  cases wI dl' 1 1099511627776 <;> simp
end Gr
end Go.Proofs.Ytpblmleodcaamaa
