/- RunInputs: mathematics: what was said is what the nodes have. -/
import Derived.Test.YtcgkkhkpimjlmabRRuA
import Derived.Test.YtcgkkhkpimjlmabRByt
namespace Go.Proofs.Ytcgkkhkpimjlmab
namespace Rn
open Go.RowKit Gr

/-- the results that were said -/
def Said (R : Rs) (zs : List ByteArray) : Prop := ∀ (t : Nat) (p : Pt), R.ps[t]? = some p → p.st = 5 → zs[t]? = some (str p.rs)
/-- who is done behind a step -/
def Dn (R R' : Rs) (k i : Int) (res : List Nat) (code : Int) : Prop := ∀ (t : Nat) (p : Pt), R'.ps[t]? = some p → p.st = 5 → R.ps[t]? = some p ∨ k = 2 ∧ code = 0 ∧ (t : Int) = i ∧ p.rs = res
theorem withS_done {ps : List Pt} {ss : List Int} (A : Adv (sts ps) ss) {t : Nat} {p : Pt} (h : (withS ps ss)[t]? = some p) (h5 : p.st = 5) : ps[t]? = some p := by
  have hl : ss.length = ps.length := by rw [A.1, sts_length]
  have ht : t < ps.length := by rw [← withS_length ps ss hl]; exact (List.getElem?_eq_some_iff.1 h).1
  have h0 : ps[t]? = some ps[t] := List.getElem?_eq_getElem ht
  have hs : ss[t]? = some (ss[t]'(by omega)) := List.getElem?_eq_getElem _
  rw [withS_at h0 hs] at h
  have h := Option.some.inj h
  have a := A.2 (t : Nat)
  rw [sAt_sts h0, sAt_lt hs] at a
  rw [h0]
  generalize ps[t] = q at *
  generalize ss[t]'_ = v at *
  subst h
  simp only at h5
  subst h5
  rcases a with a | ⟨_, a⟩
  · rw [a]
  · rcases a with a | a <;> cases a
theorem settled_dn {xs : List Nx} {R : Rs} {a b : List Nat} {t : Nat} {p : Pt} (h : (settled xs a b R).2.ps[t]? = some p) (h5 : p.st = 5) : R.ps[t]? = some p := withS_done (settle_adv xs (sts R.ps)) (show (withS _ _)[t]? = _ from h) h5
theorem putS_dn {ps : List Pt} {t k : Nat} {v : Int} {p : Pt} (hv : v ≠ 5) (h : (putS ps k v)[t]? = some p) (h5 : p.st = 5) : ps[t]? = some p := by
  unfold putS at h
  rw [List.getElem?_modify] at h
  cases c : ps[t]? with
  | none => rw [c] at h; simp at h
  | some q =>
    rw [c] at h
    by_cases e : k = t
    · simp [e] at h; subst h; exact absurd h5 hv
    · simp [e] at h; rw [h]
theorem do_dn (xs : List Nx) (R : Rs) (k i : Int) (res : List Nat) : Dn R (doR xs R k i res).2 k i res (doR xs R k i res).1.2.2 := by
  intro t p hp h5
  unfold doR at hp ⊢
  split at hp
  · left
    unfold leaseR at hp
    split at hp
    · exact hp
    · simp only [List.getElem?_modify] at hp
      cases c : R.ps[t]? with
      | none => rw [c] at hp; simp at hp
      | some q =>
        rw [c] at hp
        by_cases e : i.toNat = t
        · simp [e] at hp; subst hp; simp at h5
        · simp [e] at hp; rw [hp]
  · rename_i k1
    rw [if_neg k1]
    split at hp
    · rename_i k2
      rw [if_pos k2]
      unfold finishR at hp ⊢
      split at hp
      · exact .inl hp
      · rename_i c1
        rw [if_neg c1]
        split at hp
        · exact .inl hp
        · rename_i c2
          rw [if_neg c2]
          have c2 : refI R i [3] = 0 := by simpa using c2
          obtain ⟨hi, _⟩ := refI_zero c2
          obtain ⟨q, hq, _, _, hii⟩ := at_of hi
          have h := settled_dn (a := []) (b := []) hp h5
          simp only [List.getElem?_modify] at h
          by_cases e : i.toNat = t
          · subst e
            rw [hq] at h
            simp at h
            subst h
            exact .inr ⟨k2, rfl, hii, rfl⟩
          · cases c : R.ps[t]? with
            | none => rw [c] at h; simp at h
            | some r => rw [c] at h; simp [e] at h; exact .inl (by rw [h])
    · left
      split at hp
      · unfold missR at hp
        split at hp
        · exact hp
        · split at hp
          · exact putS_dn (by decide) (settled_dn (a := [i.toNat]) (b := []) hp h5) h5
          · exact putS_dn (by decide) (settled_dn (a := []) (b := []) hp h5) h5
      · split at hp
        · unfold wakeR at hp
          split at hp
          · exact hp
          · exact putS_dn (by decide) (settled_dn (a := []) (b := [i.toNat]) hp h5) h5
        · split at hp
          · unfold stopR at hp
            split at hp
            · exact hp
            · split at hp
              · exact hp
              · simp only [List.getElem?_map] at hp
                cases c : R.ps[t]? with
                | none => rw [c] at hp; simp at hp
                | some q =>
                  rw [c] at hp
                  simp at hp
                  subst hp
                  simp only at h5
                  have e : stopS q.st = q.st := by
                    unfold stopS at h5 ⊢
                    split
                    · rfl
                    · rename_i g; rw [if_neg g] at h5; split at h5 <;> cases h5
                  rw [e]
          · exact hp
theorem do_has {xs : List Nx} {R : Rs} {i : Int} {res : List Nat} (h : (doR xs R 2 i res).1.2.2 = 0) : 0 ≤ i ∧ i < R.ps.length := by
  unfold doR at h
  rw [if_neg (by decide), if_pos rfl] at h
  unfold finishR at h
  split at h
  · cases h
  · split at h
    · rename_i c; exact absurd h c
    · rename_i c
      have c : refI R i [3] = 0 := by simpa using c
      have := (refI_zero c).1
      unfold hasI at this
      simpa using this
theorem Said.still {xs : List Nx} {R : Rs} {zs : List ByteArray} (h : Said R zs) {k i : Int} {res : List Nat} (hn : ¬ (k = 2 ∧ (doR xs R k i res).1.2.2 = 0)) : Said (doR xs R k i res).2 zs := fun t p hp h5 => by
  rcases do_dn xs R k i res t p hp h5 with g | ⟨g1, g2, _⟩
  · exact h t p g h5
  · exact absurd ⟨g1, g2⟩ hn
theorem Said.put {xs : List Nx} {R : Rs} {zs : List ByteArray} (h : Said R zs) (hl : zs.length = R.ps.length) {i : Nat} {res : List Nat} (hn : (doR xs R 2 (i : Int) res).1.2.2 = 0) : Said (doR xs R 2 (i : Int) res).2 (zs.set i (str res)) := fun t p hp h5 => by
  have hi := (do_has hn).2
  rw [List.getElem?_set]
  by_cases e : i = t
  · subst e
    rw [if_pos rfl, if_pos (by omega)]
    rcases do_dn xs R 2 (i : Int) res i p hp h5 with g | ⟨_, _, _, g⟩
    · exfalso
      -- a node that is finished was leased
      unfold doR at hn
      rw [if_neg (by decide), if_pos rfl] at hn
      unfold finishR at hn
      split at hn
      · cases hn
      · split at hn
        · rename_i c; exact absurd hn c
        · rename_i c
          have c : refI R (i : Int) [3] = 0 := by simpa using c
          have := (refI_zero c).2
          rw [sAt_sts g, h5] at this
          simp at this
    · rw [g]
  · rw [if_neg e]
    rcases do_dn xs R 2 (i : Int) res t p hp h5 with g | ⟨_, _, g, _⟩
    · exact h t p g h5
    · omega
theorem new_said (xs : List Nx) (zs : List ByteArray) : Said (newR xs).2 zs := fun t p hp h5 => by
  have := withS_done (settle_adv xs (sts (List.replicate xs.length ⟨1, 0, []⟩))) (show (withS _ _)[t]? = _ from hp) h5
  have := List.eq_of_mem_replicate (List.mem_of_getElem? this)
  subst this
  cases h5
/-- who is handed out, or may be, has all that it needs -/
theorem May.needs {xs : List Nx} {R : Rs} (h : May xs R) {i : Nat} {x : Nx} {p : Pt} (hx : xs[i]? = some x) (hp : R.ps[i]? = some p) (hs : p.st = 2 ∨ p.st = 3) : ∀ e ∈ x.nl, doneS (sAt (sts R.ps) e) = true := by
  have hi : hasI R.ps.length (i : Int) = true := by unfold hasI; have := (List.getElem?_eq_some_iff.1 hp).1; simp; omega
  obtain ⟨_, _, O⟩ := h.live hi (by rw [sAt_sts hp]; rcases hs with e | e <;> rw [e] <;> rfl)
  have o := O i x hx
  rw [sAt_sts hp] at o
  have : outl (sts R.ps) x = 1 := by
    rcases outl_cases (sts R.ps) x with c | c | c
    · have := o.2.2 c; omega
    · exact c
    · have := o.1.2 c; omega
  exact (outl_one.1 this).1
theorem done_at {ps : List Pt} {e : Int} (h : doneS (sAt (sts ps) e) = true) : ∃ p, ps[e.toNat]? = some p ∧ p.st = 5 := by
  unfold doneS sAt sts at h
  simp at h
  cases c : ps[e.toNat]? with
  | none => rw [c] at h; simp at h
  | some p => rw [c] at h; simp at h; exact ⟨p, rfl, h⟩
end Rn
end Go.Proofs.Ytcgkkhkpimjlmab
