/- What the laws want of a run: mathematics. -/
import Derived.Test.YtiackejbpcjmeaaRBas
import Derived.Test.YtiackejbpcjmeaaGChk
namespace Go.Proofs.Ytiackejbpcjmeaa
namespace Rn
open Go.RowKit Gr

theorem stopped_iff {s : Int} : stopped s = true ↔ s = 4 ∨ s = 5 := by unfold stopped; simp
theorem May.five {xs : List Nx} {R : Rs} (h : May xs R) : 1 ≤ R.stt ∧ R.stt ≤ 5 := by
  rcases h.2 with ⟨h, _⟩ | ⟨h, _⟩ | ⟨h, _⟩ | ⟨h, _⟩
  · omega
  · omega
  · omega
  · have := stopped_iff.1 h; omega
theorem May.two {xs : List Nx} {R : Rs} (h : May xs R) : (R.stt = 2) ↔ allDone R.ps = true := by
  rcases h.2 with ⟨h, g, _⟩ | ⟨h, g⟩ | ⟨h, _, g, _⟩ | ⟨h, _, g⟩
  · refine ⟨fun e => by omega, fun e => ?_⟩
    rw [allDone_set e] at g; cases g
  · exact ⟨fun _ => g, fun _ => h⟩
  · refine ⟨fun e => by omega, fun e => ?_⟩
    rw [e] at g; cases g
  · refine ⟨fun e => ?_, fun e => ?_⟩
    · have := stopped_iff.1 h; omega
    · rw [e] at g; cases g
theorem May.one {xs : List Nx} {R : Rs} (h : May xs R) : (R.stt = 1) ↔ allSet R.ps = false := by
  rcases h.2 with ⟨h, g, _⟩ | ⟨h, g⟩ | ⟨h, g, _, _⟩ | ⟨h, g, _⟩
  · exact ⟨fun _ => g, fun _ => h⟩
  · refine ⟨fun e => by omega, fun e => ?_⟩
    rw [allDone_set g] at e; cases e
  · refine ⟨fun e => by omega, fun e => ?_⟩
    rw [e] at g; cases g
  · refine ⟨fun e => ?_, fun e => ?_⟩
    · have := stopped_iff.1 h; omega
    · rw [e] at g; cases g
theorem nxs_at {xs : List No} {i : Nat} {x : No} (h : xs[i]? = some x) : (xs.map nx)[i]? = some (nx x) := by simp [h]
/-- a step that is refused leaves the run -/
theorem lease_same {R : Rs} {i : Int} (h : (leaseR R i).1.2 ≠ 0) : (leaseR R i).2 = R := by
  unfold leaseR at h ⊢
  split
  · rfl
  · rename_i c; rw [if_neg c] at h; exact absurd rfl h
theorem finish_same {xs : List Nx} {R : Rs} {i : Int} {res : List Nat} (h : (finishR xs R i res).1.2 ≠ 0) : (finishR xs R i res).2 = R := by
  unfold finishR at h ⊢
  split
  · rfl
  · rename_i c
    rw [if_neg c] at h
    split
    · rfl
    · rename_i c2; rw [if_neg c2] at h; exact absurd rfl h
theorem miss_same {xs : List Nx} {R : Rs} {i : Int} (h : (missR xs R i).1.2 ≠ 0) : (missR xs R i).2 = R := by
  unfold missR at h ⊢
  split
  · rfl
  · rename_i c
    rw [if_neg c] at h
    split
    · rename_i c2; rw [if_pos c2] at h; exact absurd rfl h
    · rename_i c2; rw [if_neg c2] at h; exact absurd rfl h
theorem wake_same {xs : List Nx} {R : Rs} {i : Int} (h : (wakeR xs R i).1.2 ≠ 0) : (wakeR xs R i).2 = R := by
  unfold wakeR at h ⊢
  split
  · rfl
  · rename_i c; rw [if_neg c] at h; exact absurd rfl h
theorem stop_same {R : Rs} {i : Int} (h : (stopR R i).1.2 ≠ 0) : (stopR R i).2 = R := by
  unfold stopR at h ⊢
  split
  · rfl
  · rename_i c
    rw [if_neg c] at h
    split
    · rfl
    · rename_i c2; rw [if_neg c2] at h; exact absurd rfl h
theorem do_same {xs : List Nx} {R : Rs} {k i : Int} {res : List Nat} (h : (doR xs R k i res).1.2.2 ≠ 0) : (doR xs R k i res).2 = R := by
  unfold doR at h ⊢
  split
  · rename_i c; rw [if_pos c] at h; exact lease_same h
  · rename_i c; rw [if_neg c] at h
    split
    · rename_i c; rw [if_pos c] at h; exact finish_same h
    · rename_i c; rw [if_neg c] at h
      split
      · rename_i c; rw [if_pos c] at h; exact miss_same h
      · rename_i c; rw [if_neg c] at h
        split
        · rename_i c; rw [if_pos c] at h; exact wake_same h
        · rename_i c; rw [if_neg c] at h
          split
          · rename_i c; rw [if_pos c] at h; exact stop_same h
          · rfl
/-- behind the end every step is refused -/
theorem ref_ended {xs : List Nx} {R : Rs} (h : May xs R) (h1 : R.stt ≠ 1) {i : Int} {l : List Int} (hl : ∀ s ∈ l, setS s = false) : refI R i l ≠ 0 := fun c => by
  obtain ⟨a, b⟩ := refI_zero c
  exact h1 (h.live a (hl _ b)).1
theorem do_ended {xs : List Nx} {R : Rs} (h : May xs R) (h1 : R.stt ≠ 1) {k i : Int} {res : List Nat} (hk : 1 ≤ k ∧ k ≤ 5) : (doR xs R k i res).1.2.2 ≠ 0 := by
  have r2 := ref_ended h h1 (i := i) (l := [2]) (by decide)
  have r3 := ref_ended h h1 (i := i) (l := [3]) (by decide)
  have r4 := ref_ended h h1 (i := i) (l := [4]) (by decide)
  unfold doR
  split
  · unfold leaseR; rw [if_pos r2]; exact r2
  · split
    · unfold finishR
      split
      · show (1 : Int) ≠ 0; decide
      · exact r3
    · split
      · unfold missR; rw [if_pos r3]; exact r3
      · split
        · unfold wakeR; rw [if_pos r4]; exact r4
        · split
          · unfold stopR
            split
            · show (1 : Int) ≠ 0; decide
            · show (131 : Int) ≠ 0; decide
          · omega
theorem do_ended_same {xs : List Nx} {R : Rs} (h : May xs R) (h1 : R.stt ≠ 1) {k i : Int} {res : List Nat} : (doR xs R k i res).2 = R := by
  by_cases hk : 1 ≤ k ∧ k ≤ 5
  · exact do_same (do_ended h h1 hk)
  · unfold doR
    rw [if_neg (by omega), if_neg (by omega), if_neg (by omega), if_neg (by omega), if_neg (by omega)]
/-- the bytes of results -/
def RsB (ps : List Pt) : Prop := ∀ p ∈ ps, ∀ d ∈ p.rs, d < 256
theorem mem_withS : ∀ {ps : List Pt} {ss : List Int} {p : Pt}, p ∈ withS ps ss → ∃ q ∈ ps, p.rs = q.rs
  | [], _, p, h => by simp [withS] at h
  | _ :: _, [], p, h => by simp [withS] at h
  | q :: ps, s :: ss, p, h => by
    rcases List.mem_cons.1 (show p ∈ _ :: withS ps ss from h) with rfl | h
    · exact ⟨q, List.mem_cons_self .., rfl⟩
    · obtain ⟨r, hr, e⟩ := mem_withS h
      exact ⟨r, List.mem_cons_of_mem _ hr, e⟩
theorem mem_mod {ps : List Pt} {t : Nat} {f : Pt → Pt} {p : Pt} (h : p ∈ ps.modify t f) : ∃ q ∈ ps, p = q ∨ p = f q := by
  obtain ⟨i, hi⟩ := List.getElem?_of_mem h
  rw [List.getElem?_modify] at hi
  cases c : ps[i]? with
  | none => rw [c] at hi; simp at hi
  | some q =>
    rw [c] at hi
    refine ⟨q, List.mem_of_getElem? c, ?_⟩
    by_cases e : t = i
    · simp [e] at hi; exact .inr hi.symm
    · simp [e] at hi; exact .inl hi.symm
theorem RsB.mod {ps : List Pt} (h : RsB ps) {t : Nat} {f : Pt → Pt} (hf : ∀ q ∈ ps, ∀ d ∈ (f q).rs, d < 256) : RsB (ps.modify t f) := fun p hp d hd => by
  obtain ⟨q, hq, rfl | rfl⟩ := mem_mod hp
  · exact h _ hq d hd
  · exact hf q hq d hd
theorem RsB.settled {xs : List Nx} {R : Rs} (h : RsB R.ps) (a b : List Nat) : RsB (settled xs a b R).2.ps := fun p hp d hd => by
  obtain ⟨q, hq, e⟩ := mem_withS (show p ∈ withS _ _ from hp)
  rw [e] at hd
  exact h q hq d hd
theorem do_rsb {xs : List Nx} {R : Rs} (h : RsB R.ps) {k i : Int} {res : List Nat} (hr : ∀ d ∈ res, d < 256) : RsB (doR xs R k i res).2.ps := by
  unfold doR
  split
  · unfold leaseR
    split
    · exact h
    · exact h.mod fun q hq => h q hq
  · split
    · unfold finishR
      split
      · exact h
      · split
        · exact h
        · exact RsB.settled (xs := xs) (R := ⟨R.stt, R.ps.modify i.toNat fun p => ⟨5, p.tr, res⟩⟩) (h.mod (f := fun p => ⟨5, p.tr, res⟩) fun q hq => hr) [] []
    · split
      · unfold missR
        split
        · exact h
        · split
          · exact RsB.settled (xs := xs) (R := ⟨R.stt, putS R.ps i.toNat 6⟩) (h.mod (f := fun p => { p with st := 6 }) fun q hq => h q hq) [i.toNat] []
          · exact RsB.settled (xs := xs) (R := ⟨R.stt, putS R.ps i.toNat 4⟩) (h.mod (f := fun p => { p with st := 4 }) fun q hq => h q hq) [] []
      · split
        · unfold wakeR
          split
          · exact h
          · exact RsB.settled (xs := xs) (R := ⟨R.stt, putS R.ps i.toNat 2⟩) (h.mod (f := fun p => { p with st := 2 }) fun q hq => h q hq) [] [i.toNat]
        · split
          · unfold stopR
            split
            · exact h
            · split
              · exact h
              · intro p hp d hd
                obtain ⟨q, hq, rfl⟩ := List.mem_map.1 hp
                exact h q hq d hd
          · exact h
theorem new_rsb (xs : List Nx) : RsB (newR xs).2.ps := fun p hp d hd => by
  obtain ⟨q, hq, e⟩ := mem_withS (show p ∈ withS _ _ from hp)
  obtain ⟨_, rfl⟩ := List.mem_replicate.1 hq
  rw [e] at hd
  cases hd
/-- budgets of a plan that may be -/
theorem bu_of {nm : ByteArray} {dl : Int} {xs : List No} (h : (chk nm dl xs).2 = 0) : ∀ x ∈ xs, 1 ≤ x.q.bu ∧ x.q.bu ≤ 100 := fun x hx => by
  obtain ⟨k, hk⟩ := List.getElem?_of_mem hx
  have := (Gr.cN_ok (Gr.chk_ok h).2.1 k x hk).2.1
  unfold fOk wI at this
  simp only [Bool.and_eq_true, decide_eq_true_eq] at this
  omega
/-- what told and the steps want of a run -/
theorem May.res {xs : List No} {R : Rs} (h : May (xs.map nx) R) (hB : RsB R.ps) : ∀ p ∈ R.ps, (∀ d ∈ p.rs, d < 256) ∧ p.rs.length ≤ 1000 := fun p hp => by
  refine ⟨hB p hp, ?_⟩
  obtain ⟨k, hk⟩ := List.getElem?_of_mem hp
  have hl : R.ps.length = xs.length := by have := h.1.1; simpa using this
  have hkl := (List.getElem?_eq_some_iff.1 hk).1
  have hx : xs[k]? = some (xs[k]'(by omega)) := List.getElem?_eq_getElem _
  rcases (h.1.2 k _ p (nxs_at hx) hk).1 with c | ⟨_, c⟩
  · rw [c]; decide
  · omega
theorem May.trs {xs : List No} {R : Rs} (_hv : Val xs) (hb : ∀ x ∈ xs, 1 ≤ x.q.bu ∧ x.q.bu ≤ 100) (h : May (xs.map nx) R) : ∀ p ∈ R.ps, -1000 ≤ p.tr ∧ p.tr ≤ 1000 := fun p hp => by
  obtain ⟨k, hk⟩ := List.getElem?_of_mem hp
  have hl : R.ps.length = xs.length := by have := h.1.1; simpa using this
  have hkl := (List.getElem?_eq_some_iff.1 hk).1
  have hx : xs[k]? = some (xs[k]'(by omega)) := List.getElem?_eq_getElem _
  obtain ⟨_, h2⟩ := h.1.2 k _ p (nxs_at hx) hk
  have hb2 := hb _ (List.mem_of_getElem? hx)
  generalize xs[k]'_ = x at *
  have hbu : (nx x).bu = x.q.bu := rfl
  unfold attOk at h2
  rw [hbu] at h2
  split at h2
  · simp at h2; omega
  · split at h2
    · simp at h2; omega
    · split at h2
      · simp at h2; omega
      · split at h2
        · simp at h2; omega
        · split at h2
          · simp at h2; omega
          · cases h2
/-- a small plan's lists -/
theorem edges_mem : ∀ {xs : List No} {x : No}, x ∈ xs → x.nl.length + x.al.length ≤ edges xs := by
  intro xs x h
  induction xs with
  | nil => cases h
  | cons y l ih =>
    have e : edges (y :: l) = (y.nl.length + y.al.length) + edges l := by simp [edges]
    rcases List.mem_cons.1 h with rfl | h
    · omega
    · have := ih h; omega
end Rn
end Go.Proofs.Ytiackejbpcjmeaa
