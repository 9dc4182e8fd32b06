/- Package run: the mathematics of a run: its steps, and that it may stand behind each. -/
import Derived.Test.YtljpeochlacdnaaRMod
namespace Go.Proofs.Ytljpeochlacdnaa
namespace Rn

structure Rs where
  stt : Int
  ps : List Pt
structure Chg where
  dead : List Nat
  skip : List Nat
  rdy : List Nat
  stt : Int
def Chg.none : Chg := ⟨[], [], [], 0⟩

def sts (ps : List Pt) : List Int := ps.map Pt.st
def withS (ps : List Pt) (ss : List Int) : List Pt := List.zipWith (fun p s => { p with st := s }) ps ss
theorem sts_length (ps : List Pt) : (sts ps).length = ps.length := by simp [sts]
theorem withS_length (ps : List Pt) (ss : List Int) (h : ss.length = ps.length) : (withS ps ss).length = ps.length := by simp [withS, h]
theorem withS_at {ps : List Pt} {ss : List Int} {i : Nat} {p : Pt} {s : Int} (hp : ps[i]? = some p) (hs : ss[i]? = some s) : (withS ps ss)[i]? = some { p with st := s } := by unfold withS; rw [List.getElem?_zipWith, hp, hs]
theorem sts_at {ps : List Pt} {i : Nat} {p : Pt} (h : ps[i]? = some p) : (sts ps)[i]? = some p.st := by simp [sts, h]
theorem sAt_sts {ps : List Pt} {i : Nat} {p : Pt} (h : ps[i]? = some p) : sAt (sts ps) (i : Nat) = p.st := sAt_lt (sts_at h)
theorem sts_withS {ps : List Pt} {ss : List Int} (h : ss.length = ps.length) : sts (withS ps ss) = ss := by
  refine List.ext_getElem? fun i => ?_
  by_cases hi : i < ps.length
  · have hp : ps[i]? = some ps[i] := List.getElem?_eq_getElem hi
    have hs : ss[i]? = some (ss[i]'(by omega)) := List.getElem?_eq_getElem _
    rw [sts_at (withS_at hp hs), hs]
  · rw [List.getElem?_eq_none (by rw [sts_length, withS_length _ _ h]; omega), List.getElem?_eq_none (by omega)]
theorem withS_sts (ps : List Pt) : withS ps (sts ps) = ps := by
  refine List.ext_getElem? fun i => ?_
  cases hp : ps[i]? with
  | none =>
    have : ps.length ≤ i := by simpa using hp
    rw [List.getElem?_eq_none (by rw [withS_length _ _ (sts_length _)]; exact this)]
  | some p => rw [withS_at hp (sts_at hp)]
/-- a node's state is set -/
def putS (ps : List Pt) (t : Nat) (v : Int) : List Pt := ps.modify t (fun p => { p with st := v })
theorem putS_length (ps : List Pt) (t : Nat) (v : Int) : (putS ps t v).length = ps.length := by simp [putS]
theorem sts_putS (ps : List Pt) (t : Nat) (v : Int) : sts (putS ps t v) = (sts ps).set t v := by
  refine List.ext_getElem? fun i => ?_
  unfold sts putS
  rw [List.getElem?_map, List.getElem?_modify, List.getElem?_set, List.getElem?_map, List.length_map]
  by_cases h : t = i
  · subst h
    by_cases hl : t < ps.length
    · simp [hl]
    · simp [hl]
  · simp [h]
theorem withS_put {ps : List Pt} {ss : List Int} (h : ss.length = ps.length) (t : Nat) (v : Int) : putS (withS ps ss) t v = withS ps (ss.set t v) := by
  refine List.ext_getElem? fun i => ?_
  unfold putS
  rw [List.getElem?_modify]
  by_cases hi : i < ps.length
  · have hp : ps[i]? = some ps[i] := List.getElem?_eq_getElem hi
    have hs : ss[i]? = some (ss[i]'(by omega)) := List.getElem?_eq_getElem _
    rw [withS_at hp hs]
    by_cases e : t = i
    · subst e
      rw [withS_at (s := v) hp (by rw [List.getElem?_set]; simp; omega)]
      simp
    · rw [withS_at hp (by rw [List.getElem?_set, if_neg e]; exact hs)]
      simp [e]
  · rw [List.getElem?_eq_none (by rw [withS_length _ _ h]; omega), List.getElem?_eq_none (by rw [withS_length _ _ (by simp [h])]; omega)]
    rfl

def allSet (ps : List Pt) : Bool := ps.all fun p => setS p.st
def allDone (ps : List Pt) : Bool := ps.all fun p => doneS p.st
/-- the run settles on: who is skipped, who is ready, and how it stands then -/
def settleR (xs : List Nx) (R : Rs) : (List Nat × List Nat) × Rs :=
  let z := settle xs (sts R.ps)
  ((z.1, z.2.1), ⟨if allSet (withS R.ps z.2.2) then (if allDone (withS R.ps z.2.2) then 2 else 3) else R.stt, withS R.ps z.2.2⟩)
def hasI (n : Nat) (i : Int) : Bool := decide (0 ≤ i) && decide (i < n)
/-- why a call is not for this node -/
def refI (R : Rs) (i : Int) (l : List Int) : Int := if hasI R.ps.length i then (if l.contains (sAt (sts R.ps) i) then 0 else 131) else 130
def trAt (ps : List Pt) (i : Int) : Int := ((ps[i.toNat]?).map Pt.tr).getD 0
def leaseR (R : Rs) (i : Int) : (Int × Int) × Rs :=
  if refI R i [2] ≠ 0 then ((0, refI R i [2]), R) else ((trAt R.ps i + 1, 0), ⟨R.stt, R.ps.modify i.toNat fun p => ⟨3, p.tr + 1, p.rs⟩⟩)
def settled (xs : List Nx) (dead ready : List Nat) (R : Rs) : (Chg × Int) × Rs :=
  ((⟨dead, (settleR xs R).1.1, ready ++ (settleR xs R).1.2, (settleR xs R).2.stt⟩, 0), (settleR xs R).2)
def finishR (xs : List Nx) (R : Rs) (i : Int) (res : List Nat) : (Chg × Int) × Rs :=
  if hasI R.ps.length i && decide (64 < res.length) then ((Chg.none, 1), R)
  else if refI R i [3] ≠ 0 then ((Chg.none, refI R i [3]), R)
  else settled xs [] [] ⟨R.stt, R.ps.modify i.toNat fun p => ⟨5, p.tr, res⟩⟩
def buAt (xs : List Nx) (i : Int) : Int := ((xs[i.toNat]?).map Nx.bu).getD 0
def missR (xs : List Nx) (R : Rs) (i : Int) : (Chg × Int) × Rs :=
  if refI R i [3] ≠ 0 then ((Chg.none, refI R i [3]), R)
  else if trAt R.ps i = buAt xs i then settled xs [i.toNat] [] ⟨R.stt, putS R.ps i.toNat 6⟩
  else settled xs [] [] ⟨R.stt, putS R.ps i.toNat 4⟩
def wakeR (xs : List Nx) (R : Rs) (i : Int) : (Chg × Int) × Rs :=
  if refI R i [4] ≠ 0 then ((Chg.none, refI R i [4]), R)
  else settled xs [] [i.toNat] ⟨R.stt, putS R.ps i.toNat 2⟩
def stopS (s : Int) : Int := if setS s then s else if s = 1 then 7 else 6
def deadL (ps : List Pt) : List Nat := (List.range ps.length).filter fun i => !setS (sAt (sts ps) (i : Nat)) && !decide (sAt (sts ps) (i : Nat) = 1)
def skipL (ps : List Pt) : List Nat := (List.range ps.length).filter fun i => decide (sAt (sts ps) (i : Nat) = 1)
def stopR (R : Rs) (s : Int) : (Chg × Int) × Rs :=
  if !(decide (s = 4) || decide (s = 5)) then ((Chg.none, 1), R) else if R.stt ≠ 1 then ((Chg.none, 131), R)
  else ((⟨deadL R.ps, skipL R.ps, [], s⟩, 0), ⟨s, R.ps.map fun p => { p with st := stopS p.st }⟩)
/-- a step of a run: its change, the attempt, its error -/
def doR (xs : List Nx) (R : Rs) (k i : Int) (res : List Nat) : (Chg × Int × Int) × Rs :=
  if k = 1 then ((Chg.none, (leaseR R i).1.1, (leaseR R i).1.2), (leaseR R i).2)
  else if k = 2 then (((finishR xs R i res).1.1, 0, (finishR xs R i res).1.2), (finishR xs R i res).2)
  else if k = 3 then (((missR xs R i).1.1, 0, (missR xs R i).1.2), (missR xs R i).2)
  else if k = 4 then (((wakeR xs R i).1.1, 0, (wakeR xs R i).1.2), (wakeR xs R i).2)
  else if k = 5 then (((stopR R i).1.1, 0, (stopR R i).1.2), (stopR R i).2)
  else ((Chg.none, 0, 0), R)

def stopped (s : Int) : Bool := decide (s = 4) || decide (s = 5)
def attOk (b : Int) (sp : Bool) (p : Pt) : Bool :=
  if p.st = 1 ∨ p.st = 7 then decide (p.tr = 0) else if p.st = 2 then decide (0 ≤ p.tr) && decide (p.tr ≤ b - 1)
  else if p.st = 4 then decide (1 ≤ p.tr) && decide (p.tr ≤ b - 1) else if p.st = 3 ∨ p.st = 5 then decide (1 ≤ p.tr) && decide (p.tr ≤ b)
  else if p.st = 6 then decide (p.tr = b) || sp && (decide (0 ≤ p.tr) && decide (p.tr ≤ b)) else false
def resOk (p : Pt) : Prop := p.rs = [] ∨ p.st = 5 ∧ p.rs.length ≤ 64
def PsOk (xs : List Nx) (sp : Bool) (ps : List Pt) : Prop := ps.length = xs.length ∧ ∀ (i : Nat) (x : Nx) (p : Pt), xs[i]? = some x → ps[i]? = some p → resOk p ∧ attOk x.bu sp p = true
/-- a run may stand so -/
def May (xs : List Nx) (R : Rs) : Prop := PsOk xs (stopped R.stt) R.ps ∧
  ((R.stt = 1 ∧ allSet R.ps = false ∧ OH xs (sts R.ps)) ∨ (R.stt = 2 ∧ allDone R.ps = true) ∨ (R.stt = 3 ∧ allSet R.ps = true ∧ allDone R.ps = false ∧ OH xs (sts R.ps)) ∨ (stopped R.stt = true ∧ allSet R.ps = true ∧ allDone R.ps = false))

theorem allDone_set {ps : List Pt} (h : allDone ps = true) : allSet ps = true := by
  unfold allDone at h; unfold allSet
  rw [List.all_eq_true] at h ⊢
  intro p hp
  unfold setS; rw [h p hp]; rfl
theorem attOk_st {b : Int} {sp : Bool} {p : Pt} (h : attOk b sp p = true) : 1 ≤ p.st ∧ p.st ≤ 7 := by
  unfold attOk at h
  split at h
  · rename_i c; rcases c with c | c <;> omega
  · split at h
    · omega
    · split at h
      · omega
      · split at h
        · rename_i c; rcases c with c | c <;> omega
        · split at h
          · omega
          · cases h
theorem settled_may {xs : List Nx} (hb : ∀ x ∈ xs, 1 ≤ x.bu) {R : Rs} (h1 : R.stt = 1) (hp : PsOk xs false R.ps) (hn : Nearly xs (sts R.ps)) : May xs (settleR xs R).2 := by
  unfold settleR
  simp only
  have hl : (sts R.ps).length = xs.length := by rw [sts_length]; exact hp.1
  have A := settle_adv xs (sts R.ps)
  have O := settle_oh hl hn
  generalize (settle xs (sts R.ps)).2.2 = ss at *
  have hls : ss.length = R.ps.length := by rw [A.1, sts_length]
  have P2 : PsOk xs false (withS R.ps ss) := by
    refine ⟨by rw [withS_length _ _ hls]; exact hp.1, fun i x p hx h => ?_⟩
    have hi : i < xs.length := (List.getElem?_eq_some_iff.1 hx).1
    have hip : i < R.ps.length := by have := hp.1; omega
    have h0 : R.ps[i]? = some R.ps[i] := List.getElem?_eq_getElem hip
    have hs : ss[i]? = some (ss[i]'(by omega)) := List.getElem?_eq_getElem _
    rw [withS_at h0 hs] at h
    have h := Option.some.inj h
    obtain ⟨q1, q2⟩ := hp.2 i x _ hx h0
    have b1 := hb x (List.mem_of_getElem? hx)
    have a := A.2 (i : Nat)
    rw [sAt_sts h0, sAt_lt hs] at a
    generalize R.ps[i] = p0 at *
    generalize ss[i]'(by omega) = s at *
    subst h
    rcases a with rfl | ⟨a1, a2⟩
    · exact ⟨q1, q2⟩
    · have hr : p0.rs = [] := by
        rcases q1 with q | ⟨q, _⟩
        · exact q
        · omega
      have ht : p0.tr = 0 := by
        unfold attOk at q2
        rw [if_pos (.inl a1)] at q2
        simpa using q2
      refine ⟨.inl hr, ?_⟩
      unfold attOk
      simp only
      rcases a2 with rfl | rfl
      · simp [ht]; omega
      · simp [ht]
  have hO : OH xs (sts (withS R.ps ss)) := by rw [sts_withS hls]; exact O
  generalize withS R.ps ss = ps at *
  cases c1 : allSet ps with
  | false => exact ⟨by rw [if_neg (by simp)]; simp only [h1]; exact P2, .inl ⟨by rw [if_neg (by simp)]; exact h1, c1, hO⟩⟩
  | true =>
    rw [if_pos rfl]
    cases c2 : allDone ps with
    | true => exact ⟨P2, .inr (.inl ⟨rfl, c2⟩)⟩
    | false => exact ⟨P2, .inr (.inr (.inl ⟨rfl, c1, c2, hO⟩))⟩
/-- who is under way is so in a live run alone -/
theorem May.live {xs : List Nx} {R : Rs} (h : May xs R) {i : Int} (hi : hasI R.ps.length i = true) (hs : setS (sAt (sts R.ps) i) = false) : R.stt = 1 ∧ allSet R.ps = false ∧ OH xs (sts R.ps) := by
  have hn : allSet R.ps = false := by
    cases c : allSet R.ps with
    | false => rfl
    | true =>
      unfold hasI at hi
      simp only [Bool.and_eq_true, decide_eq_true_eq] at hi
      have hip : i.toNat < R.ps.length := by omega
      have h0 : R.ps[i.toNat]? = some R.ps[i.toNat] := List.getElem?_eq_getElem hip
      have := sAt_sts h0
      rw [Int.toNat_of_nonneg hi.1] at this
      unfold allSet at c
      rw [List.all_eq_true] at c
      rw [this, c _ (List.mem_of_getElem? h0)] at hs
      cases hs
  rcases h.2 with c | c | c | c
  · exact c
  · rw [allDone_set c.2] at hn; cases hn
  · rw [c.2.1] at hn; cases hn
  · rw [c.2.1] at hn; cases hn
theorem refI_zero {R : Rs} {i : Int} {l : List Int} (h : refI R i l = 0) : hasI R.ps.length i = true ∧ sAt (sts R.ps) i ∈ l := by
  unfold refI at h
  split at h
  · rename_i c
    split at h
    · rename_i d; exact ⟨c, by simpa using d⟩
    · cases h
  · cases h
/-- a node is changed alone -/
theorem PsOk.modify {xs : List Nx} {sp : Bool} {ps : List Pt} (h : PsOk xs sp ps) (t : Nat) (f : Pt → Pt) (hf : ∀ x p, xs[t]? = some x → ps[t]? = some p → resOk (f p) ∧ attOk x.bu sp (f p) = true) : PsOk xs sp (ps.modify t f) := by
  refine ⟨by simpa using h.1, fun i x p hx hp => ?_⟩
  rw [List.getElem?_modify] at hp
  by_cases e : t = i
  · subst e
    cases h0 : ps[t]? with
    | none => rw [h0] at hp; cases hp
    | some q =>
      rw [h0] at hp
      simp at hp
      subst hp
      exact hf x q hx h0
  · simp only [if_neg e] at hp
    simp at hp
    exact h.2 i x p hx hp
theorem sts_modify (ps : List Pt) (t : Nat) (f : Pt → Pt) (v : Int) (hf : ∀ p, (f p).st = v) : sts (ps.modify t f) = (sts ps).set t v := by
  refine List.ext_getElem? fun i => ?_
  unfold sts
  rw [List.getElem?_map, List.getElem?_modify, List.getElem?_set, List.getElem?_map, List.length_map]
  by_cases h : t = i
  · subst h
    by_cases hl : t < ps.length
    · simp [hl, hf]
    · simp [hl]
  · simp [h]
theorem at_of {ps : List Pt} {i : Int} (h : hasI ps.length i = true) : ∃ p, ps[i.toNat]? = some p ∧ sAt (sts ps) i = p.st ∧ trAt ps i = p.tr ∧ (i.toNat : Int) = i := by
  unfold hasI at h
  simp only [Bool.and_eq_true, decide_eq_true_eq] at h
  have hip : i.toNat < ps.length := by omega
  have h0 : ps[i.toNat]? = some ps[i.toNat] := List.getElem?_eq_getElem hip
  have := sAt_sts h0
  rw [Int.toNat_of_nonneg h.1] at this
  exact ⟨_, h0, this, by unfold trAt; rw [h0]; rfl, Int.toNat_of_nonneg h.1⟩
theorem lease_may {xs : List Nx} {R : Rs} (h : May xs R) (i : Int) : May xs (leaseR R i).2 := by
  unfold leaseR
  split
  · exact h
  · rename_i c
    have c : refI R i [2] = 0 := by simpa using c
    obtain ⟨hi, hs⟩ := refI_zero c
    obtain ⟨p, hp, h1, h2, hii⟩ := at_of hi
    have hs2 : p.st = 2 := by rw [h1] at hs; simpa using hs
    obtain ⟨l1, l2, l3⟩ := h.live hi (by rw [h1, hs2]; rfl)
    have hst : stopped R.stt = false := by rw [l1]; rfl
    have hP := h.1
    rw [hst] at hP
    refine ⟨?_, .inl ⟨l1, ?_, ?_⟩⟩
    · show PsOk xs (stopped R.stt) _
      rw [hst]
      refine hP.modify _ _ fun x q hx hq => ?_
      rw [hp] at hq
      obtain rfl := Option.some.inj hq
      obtain ⟨q1, q2⟩ := hP.2 _ x p hx hp
      refine ⟨.inl ?_, ?_⟩
      · rcases q1 with q | ⟨q, _⟩
        · exact q
        · omega
      · unfold attOk at q2 ⊢
        simp [hs2] at q2
        simp; omega
    · show allSet (R.ps.modify i.toNat _) = false
      cases c : allSet (R.ps.modify i.toNat fun p => ⟨3, p.tr + 1, p.rs⟩) with
      | false => rfl
      | true =>
        unfold allSet at c
        rw [List.all_eq_true] at c
        have := c ⟨3, p.tr + 1, p.rs⟩ (List.mem_of_getElem? (i := i.toNat) (by rw [List.getElem?_modify, hp]; simp))
        cases this
    · show OH xs (sts (R.ps.modify i.toNat _))
      rw [sts_modify R.ps i.toNat _ 3 (fun _ => rfl)]
      have hlt : i.toNat < (sts R.ps).length := by rw [sts_length]; exact (List.getElem?_eq_some_iff.1 hp).1
      have same : ∀ e : Int, (sAt ((sts R.ps).set i.toNat 3) e = sAt (sts R.ps) e) ∨ (sAt (sts R.ps) e = 2 ∧ sAt ((sts R.ps).set i.toNat 3) e = 3) := fun e => by
        rw [sAt_set hlt]
        by_cases d : e.toNat = i.toNat
        · rw [if_pos d]
          refine .inr ⟨?_, rfl⟩
          have : sAt (sts R.ps) e = sAt (sts R.ps) i := by unfold sAt; rw [d]
          rw [this, h1, hs2]
        · rw [if_neg d]; exact .inl rfl
      intro j x hx
      rw [outl_same (a := sts R.ps) (b := (sts R.ps).set i.toNat 3) fun e => by
        rcases same e with q | ⟨q, r⟩
        · rw [q]; exact ⟨rfl, rfl⟩
        · rw [q, r]; exact ⟨rfl, rfl⟩]
      obtain ⟨g1, g2⟩ := l3 j x hx
      rw [← g1, ← g2]
      rcases same (j : Nat) with q | ⟨q, r⟩
      · rw [q]; exact ⟨Iff.rfl, Iff.rfl⟩
      · rw [q, r]; decide
theorem go_may {xs : List Nx} (hb : ∀ x ∈ xs, 1 ≤ x.bu) {R : Rs} (h : May xs R) {i : Int} {v : Int} {l : List Int} (hc : refI R i l = 0) (hl : ∀ s ∈ l, s = 3 ∨ s = 4) (f : Pt → Pt) (hf : ∀ p, (f p).st = v) (hv : v ≠ 1 ∧ v ≠ 7)
    (hk : ∀ x p, xs[i.toNat]? = some x → R.ps[i.toNat]? = some p → p.st ∈ l → resOk p → attOk x.bu false p = true → trAt R.ps i = p.tr → buAt xs i = x.bu → resOk (f p) ∧ attOk x.bu false (f p) = true) : May xs (settleR xs ⟨R.stt, R.ps.modify i.toNat f⟩).2 := by
  obtain ⟨hi, hs⟩ := refI_zero hc
  obtain ⟨p, hp, h1, h2, hii⟩ := at_of hi
  have h34 := hl _ hs
  obtain ⟨l1, l2, l3⟩ := h.live hi (by rcases h34 with e | e <;> rw [e] <;> rfl)
  have hst : stopped R.stt = false := by rw [l1]; rfl
  have hP := h.1
  rw [hst] at hP
  refine settled_may hb l1 ?_ ?_
  · refine hP.modify _ _ fun x q hx hq => ?_
    rw [hp] at hq
    obtain rfl := Option.some.inj hq
    obtain ⟨q1, q2⟩ := hP.2 _ x p hx hp
    exact hk x p hx hp (by rw [← h1]; exact hs) q1 q2 h2 (by unfold buAt; rw [hx]; rfl)
  · show Nearly xs (sts (R.ps.modify i.toNat f))
    rw [sts_modify R.ps i.toNat f v hf]
    have e0 : sAt (sts R.ps) (i.toNat : Nat) = sAt (sts R.ps) i := by rw [hii]
    refine l3.go ?_ hv
    rw [e0]
    exact .inr h34
theorem finish_may {xs : List Nx} (hb : ∀ x ∈ xs, 1 ≤ x.bu) {R : Rs} (h : May xs R) (i : Int) (res : List Nat) : May xs (finishR xs R i res).2 := by
  unfold finishR settled
  split
  · exact h
  · rename_i c0
    split
    · exact h
    · rename_i c
      have c : refI R i [3] = 0 := by simpa using c
      have hlen : res.length ≤ 64 := by
        rw [(refI_zero c).1] at c0
        simp at c0; exact c0
      refine go_may hb h (v := 5) c (fun s hs => .inl (by simpa using hs)) _ (fun _ => rfl) ⟨by decide, by decide⟩ fun x p hx hp hs q1 q2 _ _ => ⟨.inr ⟨rfl, hlen⟩, ?_⟩
      have hs : p.st = 3 := by simpa using hs
      unfold attOk at q2 ⊢
      simp [hs] at q2
      simp; omega
theorem miss_may {xs : List Nx} (hb : ∀ x ∈ xs, 1 ≤ x.bu) {R : Rs} (h : May xs R) (i : Int) : May xs (missR xs R i).2 := by
  unfold missR settled putS
  split
  · exact h
  · rename_i c
    have c : refI R i [3] = 0 := by simpa using c
    have nores : ∀ p : Pt, resOk p → p.st = 3 → p.rs = [] := fun p q hs => by
      rcases q with q | ⟨q, _⟩
      · exact q
      · omega
    split
    · rename_i d
      refine go_may hb h (v := 6) c (fun s hs => .inl (by simpa using hs)) _ (fun _ => rfl) ⟨by decide, by decide⟩ fun x p hx hp hs q1 q2 ht hbu => ?_
      have hs : p.st = 3 := by simpa using hs
      refine ⟨.inl (nores p q1 hs), ?_⟩
      unfold attOk
      simp; omega
    · rename_i d
      refine go_may hb h (v := 4) c (fun s hs => .inl (by simpa using hs)) _ (fun _ => rfl) ⟨by decide, by decide⟩ fun x p hx hp hs q1 q2 ht hbu => ?_
      have hs : p.st = 3 := by simpa using hs
      refine ⟨.inl (nores p q1 hs), ?_⟩
      unfold attOk at q2 ⊢
      simp [hs] at q2
      simp; omega
theorem wake_may {xs : List Nx} (hb : ∀ x ∈ xs, 1 ≤ x.bu) {R : Rs} (h : May xs R) (i : Int) : May xs (wakeR xs R i).2 := by
  unfold wakeR settled putS
  split
  · exact h
  · rename_i c
    have c : refI R i [4] = 0 := by simpa using c
    refine go_may hb h (v := 2) c (fun s hs => .inr (by simpa using hs)) _ (fun _ => rfl) ⟨by decide, by decide⟩ fun x p hx hp hs q1 q2 ht hbu => ?_
    have hs : p.st = 4 := by simpa using hs
    refine ⟨.inl ?_, ?_⟩
    · rcases q1 with q | ⟨q, _⟩
      · exact q
      · omega
    · unfold attOk at q2 ⊢
      simp [hs] at q2
      simp; omega
theorem setS_stop (s : Int) : setS (stopS s) = true := by
  unfold stopS
  split
  · assumption
  · split <;> rfl
theorem stop_may {xs : List Nx} {R : Rs} (h : May xs R) (s : Int) : May xs (stopR R s).2 := by
  unfold stopR
  split
  · exact h
  · rename_i c
    have c : stopped s = true := by
      unfold stopped
      revert c
      cases (decide (s = 4) || decide (s = 5)) <;> simp
    split
    · exact h
    · rename_i d
      have d : R.stt = 1 := by simpa using d
      have hP := h.1
      have hn : allSet R.ps = false := by
        rcases h.2 with e | e | e | e
        · exact e.2.1
        · rw [d] at e; cases e.1
        · rw [d] at e; cases e.1
        · rw [d] at e; cases e.1
      rw [show stopped R.stt = false by rw [d]; rfl] at hP
      refine ⟨⟨by simpa using hP.1, fun i x p hx hp => ?_⟩, .inr (.inr (.inr ⟨c, ?_, ?_⟩))⟩
      · show resOk p ∧ attOk x.bu (stopped s) p = true
        rw [c]
        simp only [List.getElem?_map] at hp
        cases h0 : R.ps[i]? with
        | none => rw [h0] at hp; cases hp
        | some q =>
          rw [h0] at hp
          obtain rfl := Option.some.inj hp
          obtain ⟨q1, q2⟩ := hP.2 i x q hx h0
          have hq := attOk_st q2
          show resOk { q with st := stopS q.st } ∧ attOk x.bu true { q with st := stopS q.st } = true
          unfold stopS
          by_cases e : setS q.st = true
          · rw [if_pos e]
            refine ⟨q1, ?_⟩
            unfold attOk at q2 ⊢
            simp only at q2 ⊢
            split at q2
            · rename_i g; rw [if_pos g]; exact q2
            · rename_i g
              rw [if_neg g]
              split at q2
              · rename_i g; rw [if_pos g]; exact q2
              · rename_i g
                rw [if_neg g]
                split at q2
                · rename_i g; rw [if_pos g]; exact q2
                · rename_i g
                  rw [if_neg g]
                  split at q2
                  · rename_i g; rw [if_pos g]; exact q2
                  · rename_i g
                    rw [if_neg g]
                    split at q2
                    · rename_i g; rw [if_pos g]; simp at q2; simp [q2]
                    · cases q2
          · rw [if_neg e]
            have nr : q.rs = [] := by
              rcases q1 with q' | ⟨q', _⟩
              · exact q'
              · rw [q'] at e; exact absurd rfl e
            refine ⟨.inl nr, ?_⟩
            unfold attOk at q2
            by_cases g : q.st = 1
            · rw [if_pos g]
              rw [if_pos (.inl g)] at q2
              unfold attOk
              simpa using q2
            · rw [if_neg g]
              have g7 : q.st ≠ 7 := fun g' => by rw [g'] at e; exact e rfl
              have g6 : q.st ≠ 6 := fun g' => by rw [g'] at e; exact e rfl
              have g5 : q.st ≠ 5 := fun g' => by rw [g'] at e; exact e rfl
              unfold attOk
              simp
              simp [g, g7, g6, g5] at q2
              split at q2
              · omega
              · split at q2
                · omega
                · omega
      · show allSet (R.ps.map _) = true
        unfold allSet
        rw [List.all_eq_true]
        intro p hp
        obtain ⟨q, _, rfl⟩ := List.mem_map.1 hp
        exact setS_stop q.st
      · show allDone (R.ps.map _) = false
        cases e : allDone (R.ps.map fun p => { p with st := stopS p.st }) with
        | false => rfl
        | true =>
          exfalso
          have : allSet R.ps = true := by
            unfold allSet
            rw [List.all_eq_true]
            intro p hp
            unfold allDone at e
            rw [List.all_eq_true] at e
            have := e _ (List.mem_map_of_mem hp)
            simp only at this
            unfold stopS at this
            cases g : setS p.st with
            | true => rfl
            | false =>
              rw [g] at this
              simp only [Bool.false_eq_true, if_false] at this
              split at this <;> cases this
          rw [this] at hn; cases hn
theorem do_may {xs : List Nx} (hb : ∀ x ∈ xs, 1 ≤ x.bu) {R : Rs} (h : May xs R) (k i : Int) (res : List Nat) : May xs (doR xs R k i res).2 := by
  unfold doR
  split
  · exact lease_may h i
  · split
    · exact finish_may hb h i res
    · split
      · exact miss_may hb h i
      · split
        · exact wake_may hb h i
        · split
          · exact stop_may h i
          · exact h
/-- a new run -/
def newR (xs : List Nx) : (List Nat × List Nat) × Rs := settleR xs ⟨1, List.replicate xs.length ⟨1, 0, []⟩⟩
theorem new_may {xs : List Nx} (hb : ∀ x ∈ xs, 1 ≤ x.bu) : May xs (newR xs).2 := by
  refine settled_may hb rfl ⟨by simp, fun i x p _ hp => ?_⟩ ?_
  · have := List.eq_of_mem_replicate (List.mem_of_getElem? hp)
    subst this
    exact ⟨.inl rfl, rfl⟩
  · show Nearly xs (sts (List.replicate xs.length ⟨1, 0, []⟩))
    rw [show sts (List.replicate xs.length ⟨1, 0, []⟩) = List.replicate xs.length 1 by simp [sts]]
    exact nearly_new xs
end Rn
end Go.Proofs.Ytljpeochlacdnaa
