/- DiskPlays: the document's disk as two lists of segments by rising numbers; what a Crash makes of them (mathematics). -/
import Derived.Test.YtilpidioengnbaaDMod
namespace Go.Proofs.Ytilpidioengnbaa
namespace DP
abbrev Sg := Int × List Nat
def lookS : List Sg → Int → Option (List Nat)
  | [], _ => none
  | e :: r, k => if e.1 = k then some e.2 else lookS r k
def SrtS (l : List Sg) : Prop := l.Pairwise fun a b => a.1 < b.1
theorem lookS_none {l : List Sg} {k : Int} : lookS l k = none ↔ ∀ e ∈ l, e.1 ≠ k := by
  induction l with
  | nil => simp [lookS]
  | cons e r ih =>
    simp only [lookS]
    split
    · rename_i h; simp [h]
    · rename_i h; rw [ih]; simp [h]
theorem lookS_some {l : List Sg} {k : Int} {b : List Nat} (h : lookS l k = some b) : (k, b) ∈ l := by
  induction l with
  | nil => simp [lookS] at h
  | cons e r ih =>
    simp only [lookS] at h
    split at h
    · rename_i h2; injection h with h; subst h; subst h2; exact List.mem_cons_self
    · exact List.mem_cons_of_mem _ (ih h)
theorem SrtS.mem {l : List Sg} (h : SrtS l) {e : Sg} (he : e ∈ l) : lookS l e.1 = some e.2 := by
  induction l with
  | nil => cases he
  | cons x r ih =>
    have h' := List.pairwise_cons.1 h
    simp only [lookS]
    rcases List.mem_cons.1 he with rfl | he
    · simp
    · have := h'.1 e he
      rw [if_neg (by omega)]
      exact ih h'.2 he
/-- all numbers of a list lie behind one -/
theorem SrtS.behind {x : Sg} {r : List Sg} (h : SrtS (x :: r)) {k : Int} (hk : k ≤ x.1) : lookS r k = none := by
  rw [lookS_none]
  intro e he
  have := (List.pairwise_cons.1 h).1 e he
  omega
theorem SrtS.tail {x : Sg} {r : List Sg} (h : SrtS (x :: r)) : SrtS r := (List.pairwise_cons.1 h).2

/-- a list with one segment more, in its place -/
def insS : List Sg → Sg → List Sg
  | [], s => [s]
  | e :: r, s => if s.1 < e.1 then s :: e :: r else e :: insS r s
theorem insS_mem {l : List Sg} {s e : Sg} : e ∈ insS l s ↔ e = s ∨ e ∈ l := by
  induction l with
  | nil => simp [insS]
  | cons x r ih =>
    simp only [insS]
    split
    · simp
    · simp only [List.mem_cons, ih]
      constructor
      · rintro (h | h | h)
        · exact .inr (.inl h)
        · exact .inl h
        · exact .inr (.inr h)
      · rintro (h | h | h)
        · exact .inr (.inl h)
        · exact .inl h
        · exact .inr (.inr h)
theorem insS_srt {l : List Sg} {s : Sg} (h : SrtS l) (hn : lookS l s.1 = none) : SrtS (insS l s) := by
  induction l with
  | nil => exact List.pairwise_singleton _ _
  | cons x r ih =>
    have h' := List.pairwise_cons.1 h
    simp only [lookS] at hn
    split at hn
    · cases hn
    · rename_i hx
      simp only [insS]
      split
      · rename_i hlt
        refine List.pairwise_cons.2 ⟨fun e he => ?_, h⟩
        rcases List.mem_cons.1 he with rfl | he
        · exact hlt
        · have := h'.1 e he; omega
      · rename_i hlt
        refine List.pairwise_cons.2 ⟨fun e he => ?_, ih h'.2 hn⟩
        rcases insS_mem.1 he with rfl | he
        · omega
        · exact h'.1 e he
theorem insS_look {l : List Sg} {s : Sg} (h : SrtS l) (hn : lookS l s.1 = none) (k : Int) : lookS (insS l s) k = if k = s.1 then some s.2 else lookS l k := by
  by_cases hk : k = s.1
  · rw [if_pos hk, hk]
    exact (insS_srt h hn).mem (insS_mem.2 (.inl rfl))
  · rw [if_neg hk]
    cases hl : lookS l k with
    | none =>
      rw [lookS_none] at hl ⊢
      intro e he
      rcases insS_mem.1 he with rfl | he
      · exact fun e => hk e.symm
      · exact hl e he
    | some b => exact (insS_srt h hn).mem (e := (k, b)) (insS_mem.2 (.inr (lookS_some hl)))
/-- a list without one -/
def remS (l : List Sg) (k : Int) : List Sg := l.filter fun e => e.1 != k
theorem remS_srt {l : List Sg} (h : SrtS l) (k : Int) : SrtS (remS l k) := List.Pairwise.filter _ h
theorem remS_look {l : List Sg} (h : SrtS l) (k j : Int) : lookS (remS l k) j = if j = k then none else lookS l j := by
  by_cases hj : j = k
  · rw [if_pos hj, lookS_none]
    intro e he
    have := (List.mem_filter.1 he).2
    simp at this
    rw [hj]; exact this
  · rw [if_neg hj]
    cases hl : lookS l j with
    | none =>
      rw [lookS_none] at hl ⊢
      intro e he
      exact hl e (List.mem_filter.1 he).1
    | some b => exact (remS_srt h k).mem (e := (j, b)) (List.mem_filter.2 ⟨lookS_some hl, by simpa using hj⟩)
/-- one segment's bytes changed -/
def modS (l : List Sg) (k : Int) (f : List Nat → List Nat) : List Sg := l.map fun e => if e.1 = k then (e.1, f e.2) else e
theorem modS_fst (l : List Sg) (k : Int) (f : List Nat → List Nat) : (modS l k f).map Prod.fst = l.map Prod.fst := by
  unfold modS
  rw [List.map_map]
  apply List.map_congr_left
  intro e _
  simp only [Function.comp]
  split <;> rfl
theorem srtS_iff (l : List Sg) : SrtS l ↔ (l.map Prod.fst).Pairwise (· < ·) := by
  unfold SrtS
  rw [List.pairwise_map]
theorem modS_srt {l : List Sg} (h : SrtS l) (k : Int) (f : List Nat → List Nat) : SrtS (modS l k f) := by
  rw [srtS_iff, modS_fst, ← srtS_iff]
  exact h
theorem modS_look (l : List Sg) (k : Int) (f : List Nat → List Nat) (j : Int) : lookS (modS l k f) j = if j = k then (lookS l k).map f else lookS l j := by
  induction l with
  | nil => simp [modS, lookS]
  | cons e r ih =>
    have e1 : modS (e :: r) k f = (if e.1 = k then (e.1, f e.2) else e) :: modS r k f := rfl
    rw [e1]
    by_cases hek : e.1 = k
    · rw [if_pos hek]
      simp only [lookS, ih]
      by_cases hj : j = k
      · subst hj; simp [hek]
      · have : ¬ e.1 = j := fun h => hj (h.symm.trans hek)
        simp [this, hj]
    · rw [if_neg hek]
      simp only [lookS, ih]
      by_cases hej : e.1 = j
      · have : ¬ j = k := fun h => hek (hej.trans h)
        simp [hej, this]
      · simp only [if_neg hej]
        by_cases hj : j = k
        · simp [hj, hek]
        · simp [hj]
/-- what is left of both views -/
def keep1 (t : Sg) (f : Int) : List Sg := if 0 < f then [(t.1, t.2.take (f.toNat - 1))] else []
def keep2 (s : Sg) (f : Int) : List Sg := if 0 < f then [s] else []
def crashS : List Sg → List Sg → List Int → List Sg
  | [], [], _ => []
  | t :: ts, [], z => keep1 t (z.headD 0) ++ crashS ts [] z.tail
  | [], s :: ss, z => keep2 s (z.headD 0) ++ crashS [] ss z.tail
  | t :: ts, s :: ss, z =>
    if t.1 < s.1 then keep1 t (z.headD 0) ++ crashS ts (s :: ss) z.tail
    else if s.1 < t.1 then keep2 s (z.headD 0) ++ crashS (t :: ts) ss z.tail
    else if s.2.length < t.2.length then (t.1, t.2.take (s.2.length + (z.headD 0).toNat)) :: crashS ts ss z.tail
    else t :: crashS ts ss z
termination_by a b => a.length + b.length
/-- the changed ones -/
def openS : List Sg → List Sg → List Int
  | [], [] => []
  | t :: ts, [] => t.1 :: openS ts []
  | [], s :: ss => s.1 :: openS [] ss
  | t :: ts, s :: ss =>
    if t.1 < s.1 then t.1 :: openS ts (s :: ss)
    else if s.1 < t.1 then s.1 :: openS (t :: ts) ss
    else if s.2.length < t.2.length then t.1 :: openS ts ss
    else openS ts ss
termination_by a b => a.length + b.length
theorem fate_succ (z : List Int) (i : Nat) : fateN z (i + 1) = fateN z.tail i := by
  unfold fateN
  cases z <;> simp
theorem fate_head (z : List Int) : fateN z 0 = (z.headD 0).toNat := by
  unfold fateN
  cases z <;> simp
theorem keep1_mem {t e : Sg} {f : Int} (h : e ∈ keep1 t f) : e.1 = t.1 := by
  unfold keep1 at h
  split at h
  · simp at h; rw [h]
  · cases h
theorem keep2_mem {t e : Sg} {f : Int} (h : e ∈ keep2 t f) : e.1 = t.1 := by
  unfold keep2 at h
  split at h
  · simp at h; rw [h]
  · cases h
/-- every number of what is left is one of the two lists' -/
theorem crashS_mem : ∀ (th sf : List Sg) (z : List Int) (e : Sg), e ∈ crashS th sf z → (∃ t ∈ th, t.1 = e.1) ∨ ∃ s ∈ sf, s.1 = e.1
  | [], [], z, e, h => by unfold crashS at h; cases h
  | t :: ts, [], z, e, h => by
    unfold crashS at h
    rcases List.mem_append.1 h with h | h
    · exact .inl ⟨t, List.mem_cons_self, (keep1_mem h).symm⟩
    · rcases crashS_mem ts [] _ e h with ⟨x, hx, h⟩ | ⟨x, hx, h⟩
      · exact .inl ⟨x, List.mem_cons_of_mem _ hx, h⟩
      · cases hx
  | [], s :: ss, z, e, h => by
    unfold crashS at h
    rcases List.mem_append.1 h with h | h
    · exact .inr ⟨s, List.mem_cons_self, (keep2_mem h).symm⟩
    · rcases crashS_mem [] ss _ e h with ⟨x, hx, h⟩ | ⟨x, hx, h⟩
      · cases hx
      · exact .inr ⟨x, List.mem_cons_of_mem _ hx, h⟩
  | t :: ts, s :: ss, z, e, h => by
    unfold crashS at h
    split at h
    · rcases List.mem_append.1 h with h | h
      · exact .inl ⟨t, List.mem_cons_self, (keep1_mem h).symm⟩
      · rcases crashS_mem ts (s :: ss) _ e h with ⟨x, hx, h⟩ | ⟨x, hx, h⟩
        · exact .inl ⟨x, List.mem_cons_of_mem _ hx, h⟩
        · exact .inr ⟨x, hx, h⟩
    · split at h
      · rcases List.mem_append.1 h with h | h
        · exact .inr ⟨s, List.mem_cons_self, (keep2_mem h).symm⟩
        · rcases crashS_mem (t :: ts) ss _ e h with ⟨x, hx, h⟩ | ⟨x, hx, h⟩
          · exact .inl ⟨x, hx, h⟩
          · exact .inr ⟨x, List.mem_cons_of_mem _ hx, h⟩
      · split at h
        · rcases List.mem_cons.1 h with rfl | h
          · exact .inl ⟨t, List.mem_cons_self, rfl⟩
          · rcases crashS_mem ts ss _ e h with ⟨x, hx, h⟩ | ⟨x, hx, h⟩
            · exact .inl ⟨x, List.mem_cons_of_mem _ hx, h⟩
            · exact .inr ⟨x, List.mem_cons_of_mem _ hx, h⟩
        · rcases List.mem_cons.1 h with rfl | h
          · exact .inl ⟨_, List.mem_cons_self, rfl⟩
          · rcases crashS_mem ts ss _ e h with ⟨x, hx, h⟩ | ⟨x, hx, h⟩
            · exact .inl ⟨x, List.mem_cons_of_mem _ hx, h⟩
            · exact .inr ⟨x, List.mem_cons_of_mem _ hx, h⟩
termination_by th sf => th.length + sf.length
/-- one more at the head -/
theorem look_head {h : Int} {A C : List Sg} {v : Option (List Nat)} (hA : (A = [] ∧ v = none) ∨ ∃ b, A = [(h, b)] ∧ v = some b) (hC : ∀ e ∈ C, h < e.1) (k : Int) : lookS (A ++ C) k = if k = h then v else lookS C k := by
  have hn : lookS C h = none := lookS_none.2 fun e he => by have := hC e he; omega
  rcases hA with ⟨rfl, rfl⟩ | ⟨b, rfl, rfl⟩
  · simp only [List.nil_append]
    split
    · rename_i hk; rw [hk]; exact hn
    · rfl
  · simp only [List.cons_append, List.nil_append, lookS]
    by_cases hk : k = h
    · simp [hk]
    · rw [if_neg fun e => hk e.symm, if_neg hk]
theorem srt_head {h : Int} {A C : List Sg} (hA : ∀ e ∈ A, e.1 = h) (h1 : A.length ≤ 1) (hC : ∀ e ∈ C, h < e.1) (hs : SrtS C) : SrtS (A ++ C) := by
  match A, h1 with
  | [], _ => exact hs
  | [a], _ =>
    refine List.pairwise_cons.2 ⟨fun e he => ?_, hs⟩
    have := hA a (by simp)
    have := hC e he
    omega
theorem keep1_val (t : Sg) (f : Int) : (keep1 t f = [] ∧ struck (some t.2) none f.toNat = none) ∨ ∃ b, keep1 t f = [(t.1, b)] ∧ struck (some t.2) none f.toNat = some b := by
  unfold keep1 struck
  by_cases h : 0 < f
  · exact .inr ⟨_, if_pos h, if_neg (by omega)⟩
  · exact .inl ⟨if_neg h, if_pos (by omega)⟩
theorem keep2_val (s : Sg) (f : Int) : (keep2 s f = [] ∧ struck none (some s.2) f.toNat = none) ∨ ∃ b, keep2 s f = [(s.1, b)] ∧ struck none (some s.2) f.toNat = some b := by
  unfold keep2 struck
  by_cases h : 0 < f
  · exact .inr ⟨_, if_pos h, if_neg (by omega)⟩
  · exact .inl ⟨if_neg h, if_pos (by omega)⟩
theorem keep1_len (t : Sg) (f : Int) : (keep1 t f).length ≤ 1 := by unfold keep1; split <;> simp
theorem keep2_len (t : Sg) (f : Int) : (keep2 t f).length ≤ 1 := by unfold keep2; split <;> simp
/-- what stands between both views -/
def Pre (th sf : List Sg) : Prop := ∀ k l m, lookS th k = some l → lookS sf k = some m → m.length ≤ l.length ∧ l.take m.length = m
def Does (th sf : List Sg) : Prop := (openS th sf).Pairwise (· < ·) ∧ (∀ k, k ∈ openS th sf ↔ lookS th k ≠ lookS sf k) ∧ ∀ z : List Int, SrtS (crashS th sf z) ∧ ∀ k, lookS (crashS th sf z) k = struck (lookS th k) (lookS sf k) (fateN z ((openS th sf).idxOf k))
/-- a head that is open: what is left of it, and the rest by the rest of the fate -/
theorem does_head {th sf th2 sf2 : List Sg} {h : Int} {vt vs : Option (List Nat)} (A : Int → List Sg) (hd : Does th2 sf2)
    (ho : openS th sf = h :: openS th2 sf2) (hc : ∀ z, crashS th sf z = A (z.headD 0) ++ crashS th2 sf2 z.tail)
    (hA : ∀ f, (A f = [] ∧ struck vt vs f.toNat = none) ∨ ∃ b, A f = [(h, b)] ∧ struck vt vs f.toNat = some b) (hne : vt ≠ vs)
    (h1 : ∀ k, lookS th k = if k = h then vt else lookS th2 k) (h2 : ∀ k, lookS sf k = if k = h then vs else lookS sf2 k)
    (b1 : ∀ e ∈ th2, h < e.1) (b2 : ∀ e ∈ sf2, h < e.1) : Does th sf := by
  obtain ⟨d1, d2, d3⟩ := hd
  have hlow : ∀ z, ∀ e ∈ crashS th2 sf2 z, h < e.1 := fun z e he => by
    rcases crashS_mem _ _ _ _ he with ⟨x, hx, hxe⟩ | ⟨x, hx, hxe⟩
    · have := b1 x hx; omega
    · have := b2 x hx; omega
  have hop : ∀ k ∈ openS th2 sf2, h < k := fun k hk => by
    have := (d2 k).1 hk
    cases hl : lookS th2 k with
    | some b => exact b1 _ (lookS_some hl)
    | none =>
      rw [hl] at this
      cases hl2 : lookS sf2 k with
      | none => rw [hl2] at this; exact absurd rfl this
      | some b => exact b2 _ (lookS_some hl2)
  refine ⟨by rw [ho]; exact List.pairwise_cons.2 ⟨hop, d1⟩, fun k => ?_, fun z => ?_⟩
  · rw [ho, h1, h2]
    by_cases hk : k = h
    · simp [hk, hne]
    · simp [hk, d2]
  · obtain ⟨e1, e2⟩ := d3 z.tail
    rw [hc]
    refine ⟨srt_head (h := h) (fun e he => ?_) ?_ (hlow _) e1, fun k => ?_⟩
    · rcases hA (z.headD 0) with ⟨ha, _⟩ | ⟨b, ha, _⟩
      · rw [ha] at he; cases he
      · rw [ha] at he; simp at he; rw [he]
    · rcases hA (z.headD 0) with ⟨ha, _⟩ | ⟨b, ha, _⟩ <;> rw [ha] <;> simp
    · rw [look_head (hA (z.headD 0)) (hlow _) k, h1, h2, ho]
      by_cases hk : k = h
      · simp only [if_pos hk]
        rw [hk, List.idxOf_cons_self, fate_head]
      · simp only [if_neg hk]
        have hb : (h == k) = false := by simpa using fun e : h = k => hk e.symm
        rw [e2, List.idxOf_cons, hb, cond_false, fate_succ]
theorem SrtS.all {x : Sg} {r : List Sg} (h : SrtS (x :: r)) : ∀ e ∈ r, x.1 < e.1 := (List.pairwise_cons.1 h).1
theorem pre_tail {t : Sg} {ts sf : List Sg} (h : Pre (t :: ts) sf) (hs : SrtS (t :: ts)) : Pre ts sf := fun k l m h1 h2 => by
  refine h k l m ?_ h2
  simp only [lookS]
  rw [if_neg fun e => ?_]
  · exact h1
  · have := hs.behind (Int.le_of_eq e.symm)
    rw [this] at h1; cases h1
theorem pre_tail2 {s : Sg} {ss th : List Sg} (h : Pre th (s :: ss)) (hs : SrtS (s :: ss)) : Pre th ss := fun k l m h1 h2 => by
  refine h k l m h1 ?_
  simp only [lookS]
  rw [if_neg fun e => ?_]
  · exact h2
  · have := hs.behind (Int.le_of_eq e.symm)
    rw [this] at h2; cases h2
theorem cons_look {x : Sg} {r : List Sg} (k : Int) : lookS (x :: r) k = if k = x.1 then some x.2 else lookS r k := by
  simp only [lookS]
  by_cases h : k = x.1
  · rw [if_pos h, if_pos h.symm]
  · rw [if_neg h, if_neg fun e => h e.symm]
theorem none_look {r : List Sg} {h : Int} (hr : ∀ e ∈ r, h < e.1) (k : Int) : lookS r k = if k = h then none else lookS r k := by
  by_cases hk : k = h
  · rw [if_pos hk, hk]; exact lookS_none.2 fun e he => by have := hr e he; omega
  · rw [if_neg hk]
theorem crash_all : ∀ (th sf : List Sg), SrtS th → SrtS sf → Pre th sf → Does th sf
  | [], [], _, _, _ => by
    refine ⟨by unfold openS; exact List.Pairwise.nil, fun k => by unfold openS; simp [lookS], fun z => ⟨by unfold crashS; exact List.Pairwise.nil, fun k => by unfold crashS; simp [lookS, struck]⟩⟩
  | t :: ts, [], h1, h2, hp => by
    refine does_head (h := t.1) (vt := some t.2) (vs := none) (keep1 t) (crash_all ts [] h1.tail h2 (pre_tail hp h1)) (by rw [openS]) (fun z => by rw [crashS]) (keep1_val t) (by simp) cons_look (none_look (by simp)) h1.all (by simp)
  | [], s :: ss, h1, h2, hp => by
    refine does_head (h := s.1) (vt := none) (vs := some s.2) (keep2 s) (crash_all [] ss h1 h2.tail (pre_tail2 hp h2)) (by rw [openS]) (fun z => by rw [crashS]) (keep2_val s) (by simp) (none_look (by simp)) cons_look (by simp) h2.all
  | t :: ts, s :: ss, h1, h2, hp => by
    by_cases c1 : t.1 < s.1
    · have hb : ∀ e ∈ s :: ss, t.1 < e.1 := fun e he => by
        rcases List.mem_cons.1 he with rfl | he
        · exact c1
        · have := h2.all e he; omega
      exact does_head (h := t.1) (vt := some t.2) (vs := none) (keep1 t) (crash_all ts (s :: ss) h1.tail h2 (pre_tail hp h1)) (by rw [openS, if_pos c1]) (fun z => by rw [crashS, if_pos c1]) (keep1_val t) (by simp) cons_look (none_look hb) h1.all hb
    by_cases c2 : s.1 < t.1
    · have hb : ∀ e ∈ t :: ts, s.1 < e.1 := fun e he => by
        rcases List.mem_cons.1 he with rfl | he
        · exact c2
        · have := h1.all e he; omega
      exact does_head (h := s.1) (vt := none) (vs := some s.2) (keep2 s) (crash_all (t :: ts) ss h1 h2.tail (pre_tail2 hp h2)) (by rw [openS, if_neg c1, if_pos c2]) (fun z => by rw [crashS, if_neg c1, if_pos c2]) (keep2_val s) (by simp) (none_look hb) cons_look hb h2.all
    have he : s.1 = t.1 := by omega
    have hpr := hp t.1 t.2 s.2 (by simp [lookS]) (by simp [lookS, he])
    have hd := crash_all ts ss h1.tail h2.tail (pre_tail (pre_tail2 hp h2) h1)
    have hb : ∀ e ∈ ss, t.1 < e.1 := fun e h => by have := h2.all e h; omega
    by_cases c3 : s.2.length < t.2.length
    · exact does_head (h := t.1) (vt := some t.2) (vs := some s.2) (fun f => [(t.1, t.2.take (s.2.length + f.toNat))]) hd (by rw [openS, if_neg c1, if_neg c2, if_pos c3]) (fun z => by rw [crashS, if_neg c1, if_neg c2, if_pos c3]; rfl) (fun f => .inr ⟨_, rfl, rfl⟩) (fun e => by injection e with e; rw [e] at c3; omega) cons_look (fun k => by rw [cons_look, he]) h1.all hb
    · have hts : t.2 = s.2 := by
        have h4 : t.2.length = s.2.length := by omega
        rw [← hpr.2, ← h4, List.take_length]
      obtain ⟨d1, d2, d3⟩ := hd
      have ho : openS (t :: ts) (s :: ss) = openS ts ss := by rw [openS, if_neg c1, if_neg c2, if_neg c3]
      have hc : ∀ z, crashS (t :: ts) (s :: ss) z = t :: crashS ts ss z := fun z => by rw [crashS, if_neg c1, if_neg c2, if_neg c3]
      have hlow : ∀ z, ∀ e ∈ crashS ts ss z, t.1 < e.1 := fun z e he => by
        rcases crashS_mem _ _ _ _ he with ⟨x, hx, hxe⟩ | ⟨x, hx, hxe⟩
        · have := h1.all x hx; omega
        · have := hb x hx; omega
      refine ⟨by rw [ho]; exact d1, fun k => ?_, fun z => ⟨?_, fun k => ?_⟩⟩
      · rw [ho, d2, cons_look, cons_look, he]
        by_cases hk : k = t.1
        · have e1 : lookS ts k = none := lookS_none.2 fun e h => by have := h1.all e h; omega
          have e2 : lookS ss k = none := lookS_none.2 fun e h => by have := hb e h; omega
          simp [hk, hts]
          rw [← hk, e1, e2]
        · simp [hk]
      · rw [hc]
        exact List.pairwise_cons.2 ⟨hlow z, (d3 z).1⟩
      · rw [hc, ho, cons_look, cons_look, cons_look, he]
        by_cases hk : k = t.1
        · simp only [if_pos hk]
          rw [← hts]
          unfold struck
          simp only
          rw [List.take_of_length_le (by omega)]
        · simp only [if_neg hk]
          exact (d3 z).2 k
termination_by th sf => th.length + sf.length
/-- the changed ones are told by their numbers alone -/
theorem open_uniq {a b : List Int} (ha : a.Pairwise (· < ·)) (hb : b.Pairwise (· < ·)) (h : ∀ k, k ∈ a ↔ k ∈ b) : a = b := by
  induction a generalizing b with
  | nil =>
    cases b with
    | nil => rfl
    | cons y r => exact absurd ((h y).2 List.mem_cons_self) (by simp)
  | cons x r ih =>
    cases b with
    | nil => exact absurd ((h x).1 List.mem_cons_self) (by simp)
    | cons y q =>
      have ha' := List.pairwise_cons.1 ha
      have hb' := List.pairwise_cons.1 hb
      have hxy : x = y := by
        rcases List.mem_cons.1 ((h x).1 List.mem_cons_self) with e | e
        · exact e
        · rcases List.mem_cons.1 ((h y).2 List.mem_cons_self) with e2 | e2
          · exact e2.symm
          · have := hb'.1 x e; have := ha'.1 y e2; omega
      subst hxy
      congr 1
      refine ih ha'.2 hb'.2 fun k => ⟨fun hk => ?_, fun hk => ?_⟩
      · rcases List.mem_cons.1 ((h k).1 (List.mem_cons_of_mem _ hk)) with e | e
        · have := ha'.1 k hk; omega
        · exact e
      · rcases List.mem_cons.1 ((h k).2 (List.mem_cons_of_mem _ hk)) with e | e
        · have := hb'.1 k hk; omega
        · exact e

/-- what a list of segments takes of a disk -/
def sumS (l : List Sg) : Nat := (l.map fun e => 64 + e.2.length).sum
theorem tot_list : ∀ {l : List Sg}, SrtS l → (∀ e ∈ l, 1 ≤ e.1 ∧ e.1 ≤ 1099511627776) → totS (lookS l) = sumS l
  | [], _, _ => over_zero fun _ => rfl
  | e :: r, hs, hr => by
    have ih := tot_list hs.tail fun x hx => hr x (List.mem_cons_of_mem _ hx)
    have he := hr e List.mem_cons_self
    have h1 : lookS (e :: r) = upd (lookS r) e.1 (some e.2) := by
      funext k
      rw [cons_look]
      rfl
    have h2 := tot_upd (lookS r) he.1 he.2 (some e.2)
    have h3 : lookS r e.1 = none := hs.behind (Int.le_refl _)
    rw [h3] at h2
    rw [h1]
    simp only [cost] at h2
    have h4 : sumS (e :: r) = 64 + e.2.length + sumS r := by simp [sumS]
    omega
/-- the document's disk -/
structure Rf where
  cap : Nat
  th : List Sg
  sf : List Sg
  left : Option Nat
  off : Bool
namespace Rf
def room (r : Rf) : Nat := r.cap - sumS r.th
def spend (r : Rf) : Int × Rf := match r.left with | none => (0, r) | some 0 => (56, { r with off := true }) | some (n + 1) => (0, { r with left := some n })
def create (r : Rf) (k : Int) : Int × Rf :=
  if r.off then (56, r) else if k < 1 ∨ 1099511627776 < k then (51, r) else if lookS r.th k ≠ none ∨ lookS r.sf k ≠ none then (52, r) else if r.room < 64 then (54, r) else
  { r with th := insS r.th (k, []) }.spend
def append (r : Rf) (k : Int) (b : List Nat) : Int × Rf :=
  if r.off then (56, r) else if lookS r.th k = none then (53, r) else if r.room < b.length then (54, r) else { r with th := modS r.th k (· ++ b) }.spend
def remove (r : Rf) (k : Int) : Int × Rf :=
  if r.off then (56, r) else if lookS r.th k = none then (53, r) else { r with th := remS r.th k }.spend
def sync (r : Rf) : Int × Rf :=
  if r.off then (56, r) else if r.left = some 0 then r.spend else { r with sf := r.th }.spend
def arm (r : Rf) (n : Int) : Int × Rf := if r.off then (56, r) else if n < 0 then (1, r) else (0, { r with left := some n.toNat })
def spoil (r : Rf) (k a : Int) (m : Nat) : Int × Rf :=
  if r.off then (56, r) else match lookS r.th k with
  | none => (53, r)
  | some l => if a < 0 ∨ (l.length : Int) ≤ a then (55, r) else
    (0, { r with th := modS r.th k fun l => flip l a.toNat m, sf := modS r.sf k fun l => if a.toNat < l.length then flip l a.toNat m else l })
def crash (r : Rf) (z : List Int) : Rf := { r with th := crashS r.th r.sf z, sf := crashS r.th r.sf z, left := none, off := false }
end Rf
/-- the document's disk and the program's, in one state -/
structure Ag (r : Rf) (s : St) : Prop where
  cap : s.cap = r.cap
  th : ∀ k, s.there k = lookS r.th k
  sf : ∀ k, s.safe k = lookS r.sf k
  srt : SrtS r.th
  srt2 : SrtS r.sf
  left : s.left = r.left
  off : s.down = r.off
theorem Ag.room {r : Rf} {s : St} {n : Nat} (h : Ag r s) (g : Good n s) : r.room = s.room := by
  unfold Rf.room St.room
  rw [g.tot, h.cap, show s.there = lookS r.th from funext h.th]
  rw [tot_list h.srt fun e he => ?_]
  exact g.seg e.1 (by unfold St.held; rw [h.th, h.srt.mem he]; simp)
theorem Ag.spend {r : Rf} {s : St} (h : Ag r s) : r.spend.1 = s.spend.1 ∧ Ag r.spend.2 s.spend.2 := by
  obtain ⟨rc, rth, rsf, rl, ro⟩ := r
  obtain ⟨sc, su, st, ss, sl, sd⟩ := s
  obtain rfl : sc = rc := h.cap
  obtain rfl : sl = rl := h.left
  obtain rfl : sd = ro := h.off
  unfold Rf.spend St.spend
  dsimp only
  match sl with
  | none => exact ⟨rfl, h⟩
  | some 0 => exact ⟨rfl, ⟨rfl, h.th, h.sf, h.srt, h.srt2, rfl, rfl⟩⟩
  | some (k + 1) => exact ⟨rfl, ⟨rfl, h.th, h.sf, h.srt, h.srt2, rfl, rfl⟩⟩
theorem Ag.held {r : Rf} {s : St} (h : Ag r s) (k : Int) : s.held k ≠ none ↔ lookS r.th k ≠ none ∨ lookS r.sf k ≠ none := by
  unfold St.held
  rw [h.th, h.sf]
  cases lookS r.th k <;> simp
theorem Ag.create {r : Rf} {s : St} {n : Nat} (h : Ag r s) (g : Good n s) (k : Int) : (r.create k).1 = (s.create k).1 ∧ Ag (r.create k).2 (s.create k).2 := by
  have hro := h.room g
  have hhe := h.held k
  obtain ⟨rc, rth, rsf, rl, ro⟩ := r
  obtain ⟨sc, su, st, ss, sl, sd⟩ := s
  obtain rfl : sc = rc := h.cap
  obtain rfl : sl = rl := h.left
  obtain rfl : sd = ro := h.off
  unfold Rf.create St.create
  by_cases ho : sd = true
  · rw [if_pos ho, if_pos ho]; exact ⟨rfl, h⟩
  rw [if_neg ho, if_neg ho]
  by_cases h1 : k < 1 ∨ 1099511627776 < k
  · rw [if_pos h1, if_pos h1]; exact ⟨rfl, h⟩
  rw [if_neg h1, if_neg h1]
  by_cases h2 : lookS rth k ≠ none ∨ lookS rsf k ≠ none
  · rw [if_pos h2, if_pos (hhe.2 h2)]; exact ⟨rfl, h⟩
  rw [if_neg h2, if_neg fun e => h2 (hhe.1 e), hro]
  split
  · exact ⟨rfl, h⟩
  · have hn : lookS rth k = none := Classical.byContradiction fun e => h2 (.inl e)
    refine Ag.spend ⟨rfl, fun j => ?_, h.sf, insS_srt h.srt hn, h.srt2, rfl, rfl⟩
    have e1 := insS_look (s := (k, [])) h.srt hn j
    dsimp only at e1 ⊢
    rw [e1]
    unfold upd
    split
    · rfl
    · exact h.th j
theorem Ag.append {r : Rf} {s : St} {n : Nat} (h : Ag r s) (g : Good n s) (k : Int) (b : List Nat) : (r.append k b).1 = (s.append k b).1 ∧ Ag (r.append k b).2 (s.append k b).2 := by
  have hro := h.room g
  obtain ⟨rc, rth, rsf, rl, ro⟩ := r
  obtain ⟨sc, su, st, ss, sl, sd⟩ := s
  obtain rfl : sc = rc := h.cap
  obtain rfl : sl = rl := h.left
  obtain rfl : sd = ro := h.off
  have hk : st k = lookS rth k := h.th k
  unfold Rf.append St.append
  by_cases ho : sd = true
  · rw [if_pos ho, if_pos ho]; exact ⟨rfl, h⟩
  rw [if_neg ho, if_neg ho, hro]
  dsimp only
  rw [hk]
  cases hl : lookS rth k with
  | none => exact ⟨rfl, h⟩
  | some l =>
    rw [if_neg (by simp)]
    dsimp only
    split
    · exact ⟨rfl, h⟩
    · refine Ag.spend ⟨rfl, fun j => ?_, h.sf, modS_srt (l := rth) h.srt k (· ++ b), h.srt2, rfl, rfl⟩
      dsimp only
      rw [modS_look, hl]
      unfold upd
      split
      · rfl
      · exact h.th j
theorem Ag.remove {r : Rf} {s : St} (h : Ag r s) (k : Int) : (r.remove k).1 = (s.remove k).1 ∧ Ag (r.remove k).2 (s.remove k).2 := by
  obtain ⟨rc, rth, rsf, rl, ro⟩ := r
  obtain ⟨sc, su, st, ss, sl, sd⟩ := s
  obtain rfl : sc = rc := h.cap
  obtain rfl : sl = rl := h.left
  obtain rfl : sd = ro := h.off
  have hk : st k = lookS rth k := h.th k
  unfold Rf.remove St.remove
  by_cases ho : sd = true
  · rw [if_pos ho, if_pos ho]; exact ⟨rfl, h⟩
  rw [if_neg ho, if_neg ho]
  dsimp only
  rw [hk]
  cases hl : lookS rth k with
  | none => exact ⟨rfl, h⟩
  | some l =>
    rw [if_neg (by simp)]
    refine Ag.spend ⟨rfl, fun j => ?_, h.sf, remS_srt h.srt _, h.srt2, rfl, rfl⟩
    have e1 := remS_look h.srt k j
    dsimp only at e1 ⊢
    rw [e1]
    unfold upd
    split
    · rfl
    · exact h.th j
theorem Ag.sync {r : Rf} {s : St} (h : Ag r s) : r.sync.1 = s.sync.1 ∧ Ag r.sync.2 s.sync.2 := by
  obtain ⟨rc, rth, rsf, rl, ro⟩ := r
  obtain ⟨sc, su, st, ss, sl, sd⟩ := s
  obtain rfl : sc = rc := h.cap
  obtain rfl : sl = rl := h.left
  obtain rfl : sd = ro := h.off
  unfold Rf.sync St.sync Rf.spend
  by_cases ho : sd = true
  · rw [if_pos ho, if_pos ho]; exact ⟨rfl, h⟩
  rw [if_neg ho, if_neg ho]
  match sl with
  | none => exact ⟨rfl, ⟨rfl, h.th, h.th, h.srt, h.srt, rfl, rfl⟩⟩
  | some 0 => exact ⟨rfl, ⟨rfl, h.th, h.sf, h.srt, h.srt2, rfl, rfl⟩⟩
  | some (k + 1) =>
    rw [if_neg (by simp)]
    exact ⟨rfl, ⟨rfl, h.th, h.th, h.srt, h.srt, rfl, rfl⟩⟩
theorem Ag.arm {r : Rf} {s : St} (h : Ag r s) (n : Int) : (r.arm n).1 = (s.arm n).1 ∧ Ag (r.arm n).2 (s.arm n).2 := by
  obtain ⟨rc, rth, rsf, rl, ro⟩ := r
  obtain ⟨sc, su, st, ss, sl, sd⟩ := s
  obtain rfl : sc = rc := h.cap
  obtain rfl : sl = rl := h.left
  obtain rfl : sd = ro := h.off
  unfold Rf.arm St.arm
  by_cases ho : sd = true
  · rw [if_pos ho, if_pos ho]; exact ⟨rfl, h⟩
  rw [if_neg ho, if_neg ho]
  split
  · exact ⟨rfl, h⟩
  · exact ⟨rfl, ⟨rfl, h.th, h.sf, h.srt, h.srt2, rfl, rfl⟩⟩
theorem flip_far (l : List Nat) (i m : Nat) (h : l.length ≤ i) : flip l i m = l := by
  unfold flip
  exact List.set_eq_of_length_le h
theorem Ag.spoil {r : Rf} {s : St} (h : Ag r s) (k a : Int) (m : Nat) : (r.spoil k a m).1 = (s.spoil k a m).1 ∧ Ag (r.spoil k a m).2 (s.spoil k a m).2 := by
  obtain ⟨rc, rth, rsf, rl, ro⟩ := r
  obtain ⟨sc, su, st, ss, sl, sd⟩ := s
  obtain rfl : sc = rc := h.cap
  obtain rfl : sl = rl := h.left
  obtain rfl : sd = ro := h.off
  have hk : st k = lookS rth k := h.th k
  unfold Rf.spoil St.spoil
  by_cases ho : sd = true
  · rw [if_pos ho, if_pos ho]; exact ⟨rfl, h⟩
  rw [if_neg ho, if_neg ho]
  dsimp only
  rw [hk]
  cases hl : lookS rth k with
  | none => exact ⟨rfl, h⟩
  | some l =>
    dsimp only
    split
    · exact ⟨rfl, h⟩
    · refine ⟨rfl, ⟨rfl, fun j => ?_, fun j => ?_, modS_srt (l := rth) h.srt k (fun l => flip l a.toNat m), modS_srt (l := rsf) h.srt2 k (fun l => if a.toNat < l.length then flip l a.toNat m else l), rfl, rfl⟩⟩
      · dsimp only [St.turn]
        rw [modS_look]
        unfold upd
        split
        · rw [hk]
        · exact h.th j
      · dsimp only [St.turn]
        rw [modS_look]
        unfold upd
        split
        · rw [show ss k = lookS rsf k from h.sf k]
          congr 1
          funext l
          split
          · rfl
          · exact flip_far _ _ _ (by omega)
        · exact h.sf j
theorem Ag.crash {r : Rf} {s t : St} {z : List Int} (h : Ag r s) (hp : ∀ k l m, s.there k = some l → s.safe k = some m → m.length ≤ l.length ∧ l.take m.length = m) (hc : Crash s z t) : Ag (r.crash z) t := by
  obtain ⟨d1, d2, d3⟩ := crash_all r.th r.sf h.srt h.srt2 fun k l m h1 h2 => hp k l m ((h.th k).trans h1) ((h.sf k).trans h2)
  obtain ⟨os, o1, o2, o3⟩ := hc.ex
  have ho : os = openS r.th r.sf := open_uniq o1 d1 fun k => by rw [o2, d2, h.th, h.sf]
  obtain ⟨e1, e2⟩ := d3 z
  have e3 : ∀ k, t.there k = lookS (crashS r.th r.sf z) k := fun k => by rw [o3, e2, h.th, h.sf, ho]
  exact ⟨hc.cap.trans h.cap, e3, fun k => by rw [hc.safe]; exact e3 k, e1, e1, hc.left, hc.down⟩
end DP
end Go.Proofs.Ytilpidioengnbaa
