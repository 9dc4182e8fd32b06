/- What RunRules wants of a run: mathematics. -/
import Derived.Test.YtjiclmbhloibaaaRRul
import Derived.Test.YtjiclmbhloibaaaGBe2
namespace Go.Proofs.Ytjiclmbhloibaaa
namespace Rn
open Go.RowKit Gr

theorem stopped_iff {s : Int} : stopped s = true ↔ s = 4 ∨ s = 5 := by unfold stopped; simp
theorem May.five {xs : List Nx} {R : Rs} (h : May xs R) : 1 ≤ R.stt ∧ R.stt ≤ 5 := by
  rcases h.2 with ⟨h, _⟩ | ⟨h, _⟩ | ⟨h, _⟩ | ⟨h, _⟩
  · omega
  · omega
  · omega
  · have := stopped_iff.1 h; omega
theorem May.two {xs : List Nx} {R : Rs} (h : May xs R) : (R.stt = 2) ↔ allDone R.ps = true := by
  rcases h.2 with ⟨h, g, _⟩ | ⟨h, g⟩ | ⟨h, _, g, _⟩ | ⟨h, _, g⟩
  · refine ⟨fun e => by omega, fun e => ?_⟩
    rw [allDone_set e] at g; cases g
  · exact ⟨fun _ => g, fun _ => h⟩
  · refine ⟨fun e => by omega, fun e => ?_⟩
    rw [e] at g; cases g
  · refine ⟨fun e => ?_, fun e => ?_⟩
    · have := stopped_iff.1 h; omega
    · rw [e] at g; cases g
theorem May.one {xs : List Nx} {R : Rs} (h : May xs R) : (R.stt = 1) ↔ allSet R.ps = false := by
  rcases h.2 with ⟨h, g, _⟩ | ⟨h, g⟩ | ⟨h, g, _, _⟩ | ⟨h, g, _⟩
  · exact ⟨fun _ => g, fun _ => h⟩
  · refine ⟨fun e => by omega, fun e => ?_⟩
    rw [allDone_set g] at e; cases e
  · refine ⟨fun e => by omega, fun e => ?_⟩
    rw [e] at g; cases g
  · refine ⟨fun e => ?_, fun e => ?_⟩
    · have := stopped_iff.1 h; omega
    · rw [e] at g; cases g
theorem nxs_at {xs : List No} {i : Nat} {x : No} (h : xs[i]? = some x) : (xs.map nx)[i]? = some (nx x) := by simp [h]
theorem May.nd {xs : List No} {R : Rs} (hv : Val xs) (hb : ∀ x ∈ xs, 1 ≤ x.q.bu) (h : May (xs.map nx) R) (i : Nat) (x : No) (p : Pt) (hx : xs[i]? = some x) (hp : R.ps[i]? = some p) : NdOk R.stt (sts R.ps) x p := by
  obtain ⟨_, h2⟩ := h.1.2 i (nx x) p (nxs_at hx) hp
  have e := sAt_sts hp
  have b1 := hb x (List.mem_of_getElem? hx)
  have hl : R.ps.length = xs.length := by have := h.1.1; simpa using this
  have live : R.stt = 1 → OH (xs.map nx) (sts R.ps) := fun h1 => by
    rcases h.2 with ⟨_, _, g⟩ | ⟨g, _⟩ | ⟨g, _⟩ | ⟨g, _⟩
    · exact g
    · omega
    · omega
    · have := stopped_iff.1 g; omega
  have a := attOk_st h2
  have hbu : (nx x).bu = x.q.bu := rfl
  unfold attOk at h2
  rw [hbu] at h2
  refine ⟨a, fun h1 hs => ?_, fun h1 hs => ?_, fun h3 n hn hlo => ?_, ?_, fun h6 h3 => ?_⟩
  · have := ((live h1) i (nx x) (nxs_at hx)).2.1 (by rw [e]; exact hs)
    omega
  · have o := (live h1) i (nx x) (nxs_at hx)
    rw [e] at o
    rcases outl_cases (sts R.ps) (nx x) with c | c | c
    · have := o.2.2 c; omega
    · exact c
    · have := o.1.2 c; omega
  · have oh : OH (xs.map nx) (sts R.ps) → p.st = 7 := fun O => by
      rw [← e]
      exact (O i (nx x) (nxs_at hx)).1.2 (outl_two.2 ⟨n, hn, hlo⟩)
    rcases h.2 with ⟨_, _, g⟩ | ⟨_, g⟩ | ⟨_, _, _, g⟩ | ⟨g, _⟩
    · exact oh g
    · obtain ⟨n0, n1⟩ := hv.2 x (List.mem_of_getElem? hx) n (List.mem_append.2 (.inl hn))
      have hnl : n.toNat < R.ps.length := by omega
      have hq : R.ps[n.toNat]? = some R.ps[n.toNat] := List.getElem?_eq_getElem hnl
      have e2 := sAt_sts hq
      rw [Int.toNat_of_nonneg n0] at e2
      unfold allDone at g
      rw [List.all_eq_true] at g
      have := done_not_lost (g _ (List.mem_of_getElem? hq))
      rw [e2, this] at hlo
      cases hlo
    · exact oh g
    · have := stopped_iff.1 g; omega
  · split at h2
    · simp at h2; omega
    · split at h2
      · simp at h2; omega
      · split at h2
        · simp at h2; omega
        · split at h2
          · simp at h2; omega
          · split at h2
            · simp at h2; omega
            · cases h2
  · have hs : stopped R.stt = false := by
      cases c : stopped R.stt with
      | false => rfl
      | true => have := stopped_iff.1 c; omega
    rw [hs] at h2
    simp [h6] at h2
    exact h2

/-- a step that is refused leaves the run -/
theorem lease_same {R : Rs} {i : Int} (h : (leaseR R i).1.2 ≠ 0) : (leaseR R i).2 = R := by
  unfold leaseR at h ⊢
  split
  · rfl
  · rename_i c; rw [if_neg c] at h; exact absurd rfl h
theorem finish_same {xs : List Nx} {R : Rs} {i : Int} {res : List Nat} (h : (finishR xs R i res).1.2 ≠ 0) : (finishR xs R i res).2 = R := by
  unfold finishR at h ⊢
  split
  · rfl
  · rename_i c
    rw [if_neg c] at h
    split
    · rfl
    · rename_i c2; rw [if_neg c2] at h; exact absurd rfl h
theorem miss_same {xs : List Nx} {R : Rs} {i : Int} (h : (missR xs R i).1.2 ≠ 0) : (missR xs R i).2 = R := by
  unfold missR at h ⊢
  split
  · rfl
  · rename_i c
    rw [if_neg c] at h
    split
    · rename_i c2; rw [if_pos c2] at h; exact absurd rfl h
    · rename_i c2; rw [if_neg c2] at h; exact absurd rfl h
theorem wake_same {xs : List Nx} {R : Rs} {i : Int} (h : (wakeR xs R i).1.2 ≠ 0) : (wakeR xs R i).2 = R := by
  unfold wakeR at h ⊢
  split
  · rfl
  · rename_i c; rw [if_neg c] at h; exact absurd rfl h
theorem stop_same {R : Rs} {i : Int} (h : (stopR R i).1.2 ≠ 0) : (stopR R i).2 = R := by
  unfold stopR at h ⊢
  split
  · rfl
  · rename_i c
    rw [if_neg c] at h
    split
    · rfl
    · rename_i c2; rw [if_neg c2] at h; exact absurd rfl h
theorem do_same {xs : List Nx} {R : Rs} {k i : Int} {res : List Nat} (h : (doR xs R k i res).1.2.2 ≠ 0) : (doR xs R k i res).2 = R := by
  unfold doR at h ⊢
  split
  · rename_i c; rw [if_pos c] at h; exact lease_same h
  · rename_i c; rw [if_neg c] at h
    split
    · rename_i c; rw [if_pos c] at h; exact finish_same h
    · rename_i c; rw [if_neg c] at h
      split
      · rename_i c; rw [if_pos c] at h; exact miss_same h
      · rename_i c; rw [if_neg c] at h
        split
        · rename_i c; rw [if_pos c] at h; exact wake_same h
        · rename_i c; rw [if_neg c] at h
          split
          · rename_i c; rw [if_pos c] at h; exact stop_same h
          · rfl
/-- behind the end every step is refused -/
theorem ref_ended {xs : List Nx} {R : Rs} (h : May xs R) (h1 : R.stt ≠ 1) {i : Int} {l : List Int} (hl : ∀ s ∈ l, setS s = false) : refI R i l ≠ 0 := fun c => by
  obtain ⟨a, b⟩ := refI_zero c
  exact h1 (h.live a (hl _ b)).1
theorem do_ended {xs : List Nx} {R : Rs} (h : May xs R) (h1 : R.stt ≠ 1) {k i : Int} {res : List Nat} (hk : 1 ≤ k ∧ k ≤ 5) : (doR xs R k i res).1.2.2 ≠ 0 := by
  have r2 := ref_ended h h1 (i := i) (l := [2]) (by decide)
  have r3 := ref_ended h h1 (i := i) (l := [3]) (by decide)
  have r4 := ref_ended h h1 (i := i) (l := [4]) (by decide)
  unfold doR
  split
  · unfold leaseR; rw [if_pos r2]; exact r2
  · split
    · unfold finishR
      split
      · show (1 : Int) ≠ 0; decide
      · exact r3
    · split
      · unfold missR; rw [if_pos r3]; exact r3
      · split
        · unfold wakeR; rw [if_pos r4]; exact r4
        · split
          · unfold stopR
            split
            · show (1 : Int) ≠ 0; decide
            · show (131 : Int) ≠ 0; decide
          · omega
theorem do_ended_same {xs : List Nx} {R : Rs} (h : May xs R) (h1 : R.stt ≠ 1) {k i : Int} {res : List Nat} : (doR xs R k i res).2 = R := by
  by_cases hk : 1 ≤ k ∧ k ≤ 5
  · exact do_same (do_ended h h1 hk)
  · unfold doR
    rw [if_neg (by omega), if_neg (by omega), if_neg (by omega), if_neg (by omega), if_neg (by omega)]
/-- a lease that is OK -/
theorem lease_ok {xs : List Nx} {R : Rs} (h : May xs R) {i : Int} (hc : (leaseR R i).1.2 = 0) : hasI R.ps.length i = true ∧ (∀ x, xs[i.toNat]? = some x → outl (sts R.ps) x = 1) ∧ trAt (leaseR R i).2.ps i = trAt R.ps i + 1 := by
  have hr : refI R i [2] = 0 := by
    unfold leaseR at hc
    split at hc
    · exact hc
    · rename_i c; simpa using c
  obtain ⟨a, b⟩ := refI_zero hr
  have b : sAt (sts R.ps) i = 2 := by simpa using b
  obtain ⟨p, hp, e1, e2, hii⟩ := at_of a
  refine ⟨a, fun x hx => ?_, ?_⟩
  · obtain ⟨_, _, O⟩ := h.live a (by rw [b]; rfl)
    have o := O i.toNat x hx
    rw [hii, b] at o
    rcases outl_cases (sts R.ps) x with c | c | c
    · have := o.2.2 c; omega
    · exact c
    · have := o.1.2 c; omega
  · have hip := (List.getElem?_eq_some_iff.1 hp).1
    unfold leaseR
    rw [if_neg (by simpa using hr), e2]
    unfold trAt
    simp [hp]
/-- below one that is dead all is skipped -/
theorem oh_below {xs : List No} {ss : List Int} (O : OH (xs.map nx) ss) {t : Nat} (ht : lostS (sAt ss (t : Nat)) = true) : ∀ (k a : Nat), wt (ng xs) k a t → sAt ss (a : Nat) = 7
  | 0, a, h => by
    have h : t ∈ ng xs a := h
    unfold ng at h
    split at h
    · rename_i x hx
      obtain ⟨e, he, rfl⟩ := List.mem_map.1 h
      refine (O a (nx x) (nxs_at hx)).1.2 (outl_two.2 ⟨e, he, ?_⟩)
      have : sAt ss e = sAt ss ((e.toNat : Nat) : Int) := by unfold sAt; rw [Int.toNat_natCast]
      rw [this]; exact ht
    · cases h
  | k + 1, a, ⟨y, h1, h2⟩ => by
    have ih := oh_below O ht k y h2
    unfold ng at h1
    split at h1
    · rename_i x hx
      obtain ⟨e, he, rfl⟩ := List.mem_map.1 h1
      refine (O a (nx x) (nxs_at hx)).1.2 (outl_two.2 ⟨e, he, ?_⟩)
      have : sAt ss e = sAt ss ((e.toNat : Nat) : Int) := by unfold sAt; rw [Int.toNat_natCast]
      rw [this, ih]; rfl
    · cases h1
theorem miss_dead {xs : List No} {R : Rs} (hb : ∀ x ∈ xs, 1 ≤ x.q.bu) (h : May (xs.map nx) R) {i : Int} (hc : (missR (xs.map nx) R i).1.2 = 0) (hd : (missR (xs.map nx) R i).1.1.dead ≠ []) :
    hasI R.ps.length i = true ∧ (missR (xs.map nx) R i).1.1.dead = [i.toNat] ∧ ∀ a, Waits (ng xs) a i.toNat → sAt (sts (missR (xs.map nx) R i).2.ps) (a : Nat) = 7 := by
  have hb' : ∀ x ∈ xs.map nx, 1 ≤ x.bu := fun x hx => by obtain ⟨y, hy, rfl⟩ := List.mem_map.1 hx; exact hb y hy
  have M := miss_may hb' h i
  have hr : refI R i [3] = 0 := by
    unfold missR at hc
    split at hc
    · exact hc
    · rename_i c; simpa using c
  obtain ⟨hi, hs⟩ := refI_zero hr
  obtain ⟨p, hp, e1, e2, hii⟩ := at_of hi
  have hs : sAt (sts R.ps) i = 3 := by simpa using hs
  obtain ⟨l1, _, _⟩ := h.live hi (by rw [hs]; rfl)
  have ht : trAt R.ps i = buAt (xs.map nx) i := by
    by_cases c : trAt R.ps i = buAt (xs.map nx) i
    · exact c
    · unfold missR at hd
      rw [if_neg (by simpa using hr), if_neg c] at hd
      exact absurd rfl hd
  have E : missR (xs.map nx) R i = settled (xs.map nx) [i.toNat] [] ⟨R.stt, putS R.ps i.toNat 6⟩ := by
    unfold missR
    rw [if_neg (by simpa using hr), if_pos ht]
  rw [E] at M ⊢
  refine ⟨hi, rfl, fun a ⟨k, hk⟩ => ?_⟩
  have hip := (List.getElem?_eq_some_iff.1 hp).1
  have hps : (sts (settled (xs.map nx) [i.toNat] [] ⟨R.stt, putS R.ps i.toNat 6⟩).2.ps) = (settle (xs.map nx) (sts (putS R.ps i.toNat 6))).2.2 := by
    show sts (withS _ _) = _
    refine sts_withS ?_
    exact ((settle_adv (xs.map nx) _).1).trans (sts_length _)
  have h6 : sAt (sts (settled (xs.map nx) [i.toNat] [] ⟨R.stt, putS R.ps i.toNat 6⟩).2.ps) (i.toNat : Nat) = 6 := by
    have q : sAt (sts (putS R.ps i.toNat 6)) (i.toNat : Nat) = 6 := by
      rw [sts_putS, sAt_set (by rw [sts_length]; exact hip), Int.toNat_natCast, if_pos rfl]
    rw [hps]
    rcases (settle_adv (xs.map nx) (sts (putS R.ps i.toNat 6))).2 (i.toNat : Nat) with c | ⟨c, _⟩
    · rw [c, q]
    · omega
  have O : OH (xs.map nx) (sts (settled (xs.map nx) [i.toNat] [] ⟨R.stt, putS R.ps i.toNat 6⟩).2.ps) := by
    rcases M.2 with ⟨_, _, g⟩ | ⟨_, g⟩ | ⟨_, _, _, g⟩ | ⟨g, _⟩
    · exact g
    · exfalso
      have hl2 : i.toNat < (settled (xs.map nx) [i.toNat] [] ⟨R.stt, putS R.ps i.toNat 6⟩).2.ps.length := by
        rw [M.1.1]
        have := h.1.1
        omega
      have hq : (settled (xs.map nx) [i.toNat] [] ⟨R.stt, putS R.ps i.toNat 6⟩).2.ps[i.toNat]? = some _ := List.getElem?_eq_getElem hl2
      have e3 := sAt_sts hq
      unfold allDone at g
      rw [List.all_eq_true] at g
      have g2 := g _ (List.mem_of_getElem? hq)
      rw [← e3, h6] at g2
      revert g2; decide
    · exact g
    · exfalso
      have : stopped (settled (xs.map nx) [i.toNat] [] ⟨R.stt, putS R.ps i.toNat 6⟩).2.stt = false := by
        show stopped (if _ then (if _ then 2 else 3) else R.stt) = false
        rw [l1]
        split
        · split <;> rfl
        · rfl
      rw [this] at g; cases g
  exact oh_below O (by rw [h6]; rfl) k a hk

/-- the bytes of results -/
def RsB (ps : List Pt) : Prop := ∀ p ∈ ps, ∀ d ∈ p.rs, d < 256
theorem mem_withS : ∀ {ps : List Pt} {ss : List Int} {p : Pt}, p ∈ withS ps ss → ∃ q ∈ ps, p.rs = q.rs
  | [], _, p, h => by simp [withS] at h
  | _ :: _, [], p, h => by simp [withS] at h
  | q :: ps, s :: ss, p, h => by
    rcases List.mem_cons.1 (show p ∈ _ :: withS ps ss from h) with rfl | h
    · exact ⟨q, List.mem_cons_self .., rfl⟩
    · obtain ⟨r, hr, e⟩ := mem_withS h
      exact ⟨r, List.mem_cons_of_mem _ hr, e⟩
theorem mem_mod {ps : List Pt} {t : Nat} {f : Pt → Pt} {p : Pt} (h : p ∈ ps.modify t f) : ∃ q ∈ ps, p = q ∨ p = f q := by
  obtain ⟨i, hi⟩ := List.getElem?_of_mem h
  rw [List.getElem?_modify] at hi
  cases c : ps[i]? with
  | none => rw [c] at hi; simp at hi
  | some q =>
    rw [c] at hi
    refine ⟨q, List.mem_of_getElem? c, ?_⟩
    by_cases e : t = i
    · simp [e] at hi; exact .inr hi.symm
    · simp [e] at hi; exact .inl hi.symm
theorem RsB.mod {ps : List Pt} (h : RsB ps) {t : Nat} {f : Pt → Pt} (hf : ∀ q ∈ ps, ∀ d ∈ (f q).rs, d < 256) : RsB (ps.modify t f) := fun p hp d hd => by
  obtain ⟨q, hq, rfl | rfl⟩ := mem_mod hp
  · exact h _ hq d hd
  · exact hf q hq d hd
theorem RsB.settled {xs : List Nx} {R : Rs} (h : RsB R.ps) (a b : List Nat) : RsB (settled xs a b R).2.ps := fun p hp d hd => by
  obtain ⟨q, hq, e⟩ := mem_withS (show p ∈ withS _ _ from hp)
  rw [e] at hd
  exact h q hq d hd
theorem do_rsb {xs : List Nx} {R : Rs} (h : RsB R.ps) {k i : Int} {res : List Nat} (hr : ∀ d ∈ res, d < 256) : RsB (doR xs R k i res).2.ps := by
  unfold doR
  split
  · unfold leaseR
    split
    · exact h
    · exact h.mod fun q hq => h q hq
  · split
    · unfold finishR
      split
      · exact h
      · split
        · exact h
        · exact RsB.settled (xs := xs) (R := ⟨R.stt, R.ps.modify i.toNat fun p => ⟨5, p.tr, res⟩⟩) (h.mod (f := fun p => ⟨5, p.tr, res⟩) fun q hq => hr) [] []
    · split
      · unfold missR
        split
        · exact h
        · split
          · exact RsB.settled (xs := xs) (R := ⟨R.stt, putS R.ps i.toNat 6⟩) (h.mod (f := fun p => { p with st := 6 }) fun q hq => h q hq) [i.toNat] []
          · exact RsB.settled (xs := xs) (R := ⟨R.stt, putS R.ps i.toNat 4⟩) (h.mod (f := fun p => { p with st := 4 }) fun q hq => h q hq) [] []
      · split
        · unfold wakeR
          split
          · exact h
          · exact RsB.settled (xs := xs) (R := ⟨R.stt, putS R.ps i.toNat 2⟩) (h.mod (f := fun p => { p with st := 2 }) fun q hq => h q hq) [] [i.toNat]
        · split
          · unfold stopR
            split
            · exact h
            · split
              · exact h
              · intro p hp d hd
                obtain ⟨q, hq, rfl⟩ := List.mem_map.1 hp
                exact h q hq d hd
          · exact h
theorem new_rsb (xs : List Nx) : RsB (newR xs).2.ps := fun p hp d hd => by
  obtain ⟨q, hq, e⟩ := mem_withS (show p ∈ withS _ _ from hp)
  obtain ⟨_, rfl⟩ := List.mem_replicate.1 hq
  rw [e] at hd
  cases hd
/-- budgets of a plan that may be -/
theorem bu_of {nm : ByteArray} {dl : Int} {xs : List No} (h : (chk nm dl xs).2 = 0) : ∀ x ∈ xs, 1 ≤ x.q.bu ∧ x.q.bu ≤ 100 := fun x hx => by
  obtain ⟨k, hk⟩ := List.getElem?_of_mem hx
  have := (Gr.cN_ok (Gr.chk_ok h).2.1 k x hk).2.1
  unfold fOk wI at this
  simp only [Bool.and_eq_true, decide_eq_true_eq] at this
  omega
/-- what told and the steps want of a run -/
theorem May.res {xs : List No} {R : Rs} (h : May (xs.map nx) R) (hB : RsB R.ps) : ∀ p ∈ R.ps, (∀ d ∈ p.rs, d < 256) ∧ p.rs.length ≤ 1000 := fun p hp => by
  refine ⟨hB p hp, ?_⟩
  obtain ⟨k, hk⟩ := List.getElem?_of_mem hp
  have hl : R.ps.length = xs.length := by have := h.1.1; simpa using this
  have hkl := (List.getElem?_eq_some_iff.1 hk).1
  have hx : xs[k]? = some (xs[k]'(by omega)) := List.getElem?_eq_getElem _
  rcases (h.1.2 k _ p (nxs_at hx) hk).1 with c | ⟨_, c⟩
  · rw [c]; decide
  · omega
theorem May.trs {xs : List No} {R : Rs} (hv : Val xs) (hb : ∀ x ∈ xs, 1 ≤ x.q.bu ∧ x.q.bu ≤ 100) (h : May (xs.map nx) R) : ∀ p ∈ R.ps, -1000 ≤ p.tr ∧ p.tr ≤ 1000 := fun p hp => by
  obtain ⟨k, hk⟩ := List.getElem?_of_mem hp
  have hl : R.ps.length = xs.length := by have := h.1.1; simpa using this
  have hkl := (List.getElem?_eq_some_iff.1 hk).1
  have hx : xs[k]? = some (xs[k]'(by omega)) := List.getElem?_eq_getElem _
  have c := (h.nd hv (fun x hx => (hb x hx).1) k _ p hx hk).c
  have := (hb _ (List.mem_of_getElem? hx)).2
  omega
/-- a small plan's lists -/
theorem edges_mem : ∀ {xs : List No} {x : No}, x ∈ xs → x.nl.length + x.al.length ≤ edges xs := by
  intro xs x h
  induction xs with
  | nil => cases h
  | cons y l ih =>
    have e : edges (y :: l) = (y.nl.length + y.al.length) + edges l := by simp [edges]
    rcases List.mem_cons.1 h with rfl | h
    · omega
    · have := ih h; omega
end Rn
end Go.Proofs.Ytjiclmbhloibaaa
