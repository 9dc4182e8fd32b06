/- Package source: what holds of a draft that was read. -/
import Derived.Test.YtfijncgmdddcnaaGreatDoorULay
namespace Go.Proofs.YtfijncgmdddcnaaGreatDoor
namespace U

/-- what holds of a draft -/
def DOk (d : Dr) : Prop := d.nds.length = d.places.length ∧ d.nm.length ≤ 40 ∧ (∀ x ∈ d.nds, NOk x) ∧ ∀ m ∈ d.ms, MOk d.nds.length m
theorem dok_new : DOk Dr.new := ⟨rfl, by simp [Dr.new], by simp [Dr.new], by simp [Dr.new]⟩
theorem nmL_len {l : List UInt8} (h : nmL l = true) : 1 ≤ l.length ∧ l.length ≤ 40 := by
  unfold nmL at h
  simp only [Bool.and_eq_true, decide_eq_true_eq] at h
  exact h.1
theorem tkNum_wrong {kw : List UInt8} {s : Ln} (h : (tkNum kw s).2.2 = false) : s.2 = false := by
  unfold tkNum at h
  simp only [Bool.or_eq_false_iff] at h
  exact h.1.1
theorem tkOpt_wrong {kw : List UInt8} {z : Int} {s : Ln} (h : (tkOpt kw z s).2.2 = false) : s.2 = false := by
  unfold tkOpt at h
  split at h
  · exact tkNum_wrong h
  · exact h
theorem tkName_ok {s : Ln} (h : (tkName s).2.2 = false) : nmL (tkName s).1 = true := by
  unfold tkName at h ⊢
  simp only [Bool.or_eq_false_iff] at h
  simpa using h.2
theorem fits_wrong {s : Ln} (h : fits s = true) : s.2 = false := by
  unfold fits at h
  simp only [Bool.and_eq_true, Bool.not_eq_true'] at h
  exact h.1
theorem rdNode_ok {ws : List (List UInt8)} (h : fits (rdNode ws).2 = true) : nmL (rdNode ws).1.nm = true ∧ (rdNode ws).1.nl = [] ∧ (rdNode ws).1.al = [] := by
  refine ⟨?_, rfl, rfl⟩
  have h0 := fits_wrong h
  unfold rdNode at h0 ⊢
  simp only at h0 ⊢
  have h1 := tkOpt_wrong h0
  have h2 : (tkOpt kwBack 1 (tkOpt kwBeat 0 (tkNum kwClose (tkNum kwBudget (tkNum kwLane (tkName (ws, false)).2).2).2).2).2).2.2 = false := by
    split at h1
    · exact tkNum_wrong h1
    · exact h1
  exact tkName_ok (tkNum_wrong (tkNum_wrong (tkNum_wrong (tkOpt_wrong (tkOpt_wrong h2)))))
theorem mok_mono {n k : Nat} {m : Mn} (h : MOk n m) (hk : n ≤ k) : MOk k m := ⟨h.1, h.2.1, h.2.2.1, by have := h.2.2.2.1; omega, h.2.2.2.2⟩
theorem doLine_ok {d d' : Dr} {pl : Nat} {f : List UInt8} {ws : List (List UInt8)} (hd : DOk d) (hl : ws.length ≤ 1000000) (h : doLine d pl f ws = some d') : DOk d' := by
  obtain ⟨h1, h2, h3, h4⟩ := hd
  have men : ∀ k, (k = 0 ∨ k = 1) → addMen k d pl ws = some d' → DOk d' := by
    intro k hk h
    unfold addMen at h
    by_cases c : d.nds ≠ [] ∧ (if k = 0 then d.hn else d.ha) = false ∧ ws ≠ [] ∧ ws.all nmL = true
    · rw [if_pos c] at h
      injection h with h
      subst h
      refine ⟨h1, h2, h3, fun m hm => ?_⟩
      rcases List.mem_append.1 hm with hm | hm
      · exact h4 m hm
      · obtain rfl := List.mem_singleton.1 hm
        have hn : d.nds.length ≠ 0 := fun e => c.1 (List.eq_nil_of_length_eq_zero e)
        refine ⟨c.2.2.1, hl, fun x hx => ?_, by simp only; omega, hk⟩
        have := nmL_len (List.all_eq_true.1 c.2.2.2 x hx)
        omega
    · rw [if_neg c] at h
      cases h
  unfold doLine at h
  split at h
  · unfold begin_ at h
    simp only at h
    split at h
    · rename_i c
      injection h with h
      subst h
      refine ⟨h1, ?_, h3, h4⟩
      exact (nmL_len (tkName_ok (tkNum_wrong (fits_wrong c.1)))).2
    · cases h
  · split at h
    · unfold addNode at h
      split at h
      · rename_i c
        injection h with h
        subst h
        obtain ⟨a1, a2, a3⟩ := rdNode_ok c.1
        refine ⟨by simp [h1], h2, fun x hx => ?_, fun m hm => mok_mono (h4 m hm) (by simp)⟩
        rcases List.mem_append.1 hx with hx | hx
        · exact h3 x hx
        · obtain rfl := List.mem_singleton.1 hx
          exact ⟨by have := nmL_len a1; omega, a2, a3⟩
      · cases h
    · split at h
      · exact men 0 (.inl rfl) h
      · split at h
        · exact men 1 (.inr rfl) h
        · cases h
theorem readL_ok : ∀ (ls : List (List UInt8)) (p : Nat) (d d' : Dr), DOk d → (∀ l ∈ ls, l.length ≤ 65536) → readL p ls d = .inr d' → DOk d' ∧ d'.nds.length ≤ d.nds.length + ls.length ∧ d'.ms.length ≤ d.ms.length + ls.length
  | [], p, d, d', hd, _, h => by
    rw [readL] at h
    injection h with h
    subst h
    exact ⟨hd, by simp, by simp⟩
  | l :: ls, p, d, d', hd, hl, h => by
    rw [readL] at h
    have hlen : (wordsOf l).length ≤ 65537 := by have := wordsOf_len l; have := hl l (by simp); omega
    cases hw : wordsOf l with
    | nil =>
      rw [hw, step] at h
      have := readL_ok ls (p + 1) d d' hd (fun x hx => hl x (by simp [hx])) h
      refine ⟨this.1, ?_, ?_⟩ <;> simp only [List.length_cons] <;> omega
    | cons f r =>
      rw [hw, step] at h
      rw [hw] at hlen
      simp only [List.length_cons] at hlen
      cases hs : doLine d p f r with
      | none => rw [hs] at h; cases h
      | some d2 =>
        rw [hs] at h
        have h2 := doLine_ok hd (by omega) hs
        have h3 := doLine_len hs
        have := readL_ok ls (p + 1) d2 d' h2 (fun x hx => hl x (by simp [hx])) h
        refine ⟨this.1, ?_, ?_⟩ <;> simp only [List.length_cons] <;> omega
theorem layE_len : ∀ (ms : List Mn) (nds nds' : List Pn), layE ms nds = .inr nds' → nds'.map (·.nm) = nds.map (·.nm)
  | [], nds, nds', h => by rw [layE] at h; injection h with h; rw [h]
  | m :: ms, nds, nds', h => by
    rw [layE] at h
    cases he : edg nds m.names with
    | none => rw [he] at h; cases h
    | some l =>
      rw [he] at h
      have := layE_len ms _ nds' h
      rw [this]
      unfold setEdge
      have hh : ∀ (xs : List Pn) (k : Nat), (xs.modify k fun x => if m.kind = 0 then { x with nl := l } else { x with al := l }).map (·.nm) = xs.map (·.nm) := by
        intro xs
        induction xs with
        | nil => intro k; simp
        | cons x xs ih =>
          intro k
          cases k with
          | zero => simp only [List.modify_zero_cons, List.map_cons]; split <;> rfl
          | succ k => simp only [List.modify_succ_cons, List.map_cons, ih k]
      exact hh nds m.node
end U
end Go.Proofs.YtfijncgmdddcnaaGreatDoor
