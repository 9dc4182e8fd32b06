import Derived.Test.YtilpidioengnbaaDAtt
/- What a Crash leaves, as mathematics: between the hardest and the mildest one. -/
namespace Go.Proofs.Ytilpidioengnbaa

theorem sorted_eq {α : Type} {R : α → α → Prop} (hR : ∀ a b, R a b → ¬ R b a) : ∀ (l m : List α), l.Pairwise R → m.Pairwise R → (∀ x, x ∈ l ↔ x ∈ m) → l = m
  | [], [], _, _, _ => rfl
  | [], b :: r, _, _, h => absurd ((h b).2 (by simp)) (by simp)
  | a :: r, [], _, _, h => absurd ((h a).1 (by simp)) (by simp)
  | a :: r, b :: r', h1, h2, h => by
    rw [List.pairwise_cons] at h1 h2
    have hirr : ∀ x, ¬ R x x := fun x hx => hR x x hx hx
    have e : a = b := by
      rcases List.mem_cons.1 ((h a).1 (by simp)) with e | e
      · exact e
      · rcases List.mem_cons.1 ((h b).2 (by simp)) with e' | e'
        · exact e'.symm
        · exact absurd (h1.1 b e') (hR _ _ (h2.1 a e))
    subst e
    have := sorted_eq hR r r' h1.2 h2.2 fun x => by
      constructor
      · intro hx
        rcases List.mem_cons.1 ((h x).1 (by simp [hx])) with e | e
        · subst e; exact absurd (h1.1 x hx) (hirr x)
        · exact e
      · intro hx
        rcases List.mem_cons.1 ((h x).2 (by simp [hx])) with e | e
        · subst e; exact absurd (h2.1 x hx) (hirr x)
        · exact e
    rw [this]

theorem Lst.uniq {s t : St} {L M : List (Int × List Nat)} (h1 : Lst s L) (h2 : Lst t M) (h : s.there = t.there) : L = M := by
  refine sorted_eq (R := fun x y => x.1 < y.1) (fun a b h h' => by omega) L M (List.pairwise_map.1 h1.1) (List.pairwise_map.1 h2.1) fun x => ?_
  obtain ⟨k, b⟩ := x
  rw [h1.2, h2.2, h]

theorem Crash.uniq {s t t' : St} {z : List Int} (h : Crash s z t) (h' : Crash s z t') : t.there = t'.there := by
  obtain ⟨os, h1, h2, h3⟩ := h.ex
  obtain ⟨os', h1', h2', h3'⟩ := h'.ex
  have : os = os' := sorted_eq (R := (· < ·)) (fun a b h h' => by omega) os os' h1 h1' fun x => by rw [h2, h2']
  subst this
  funext k
  rw [h3, h3']

/-- what is safe stays as it is -/
theorem Crash.safe_ {s t : St} {z : List Int} (h : Crash s z t) (hs : s.safe = s.there) : t.there = s.there := by
  obtain ⟨os, _, _, h3⟩ := h.ex
  funext k
  rw [h3, hs, struck_same]

theorem take_pre {l : List Nat} {i j : Nat} (h : i ≤ j) : (l.take i).length ≤ (l.take j).length ∧ (l.take j).take (l.take i).length = l.take i := by
  constructor
  · rw [List.length_take, List.length_take]; omega
  · rw [List.take_take, List.length_take]
    rcases Nat.le_total i l.length with h1 | h1
    · rw [show min (min i l.length) j = i by omega]
    · rw [List.take_of_length_le (show l.length ≤ min (min i l.length) j by omega), List.take_of_length_le h1]

theorem struck_none {t s : Option (List Nat)} {b : List Nat} (h : struck t s 0 = some b) (f : Nat) : ∃ b', struck t s f = some b' ∧ b.length ≤ b'.length ∧ b'.take b.length = b := by
  cases t with
  | none => cases s <;> cases h
  | some l =>
    cases s with
    | none => cases h
    | some m =>
      injection h with h
      subst h
      exact ⟨_, rfl, take_pre (by omega)⟩

theorem struck_held {s : St} {k : Int} {f : Nat} {b : List Nat} (h : struck (s.there k) (s.safe k) f = some b) : ∃ b', s.held k = some b' ∧ b.length ≤ b'.length ∧ b'.take b.length = b := by
  unfold St.held
  cases ht : s.there k with
  | none =>
    rw [ht] at h
    have h' : (if f = 0 then none else s.safe k) = some b := h
    split at h'
    · cases h'
    · exact ⟨b, h', Nat.le_refl _, List.take_length⟩
  | some l =>
    rw [ht] at h
    have e : ∀ i, (l.take i).length ≤ l.length ∧ l.take (l.take i).length = l.take i := fun i => by
      have := take_pre (l := l) (i := i) (j := max i l.length) (by omega)
      rw [List.take_of_length_le (show l.length ≤ max i l.length by omega)] at this
      exact this
    cases hs : s.safe k with
    | none =>
      rw [hs] at h
      have h' : (if f = 0 then none else some (l.take (f - 1))) = some b := h
      split at h'
      · cases h'
      · injection h' with h'; subst h'; exact ⟨l, rfl, e _⟩
    | some m =>
      rw [hs] at h
      injection h with h
      subst h
      exact ⟨l, rfl, e _⟩

theorem struck_full {s : St} {k : Int} {f : Nat} (hl : ∀ l, s.held k = some l → l.length < f) (hf : f ≠ 0) : struck (s.there k) (s.safe k) f = s.held k := by
  unfold St.held at hl ⊢
  cases ht : s.there k with
  | none =>
    show (if f = 0 then none else s.safe k) = s.safe k
    rw [if_neg hf]
  | some l =>
    rw [ht] at hl
    have := hl l rfl
    cases s.safe k with
    | none =>
      show (if f = 0 then none else some (l.take (f - 1))) = some l
      rw [if_neg hf, List.take_of_length_le (by omega)]
    | some m =>
      show some (l.take (m.length + f)) = some l
      rw [List.take_of_length_le (by omega)]

/-- the hardest one -/
theorem Crash.least {s t0 t : St} {z : List Int} (h0 : Crash s [] t0) (h : Crash s z t) {L0 L : List (Int × List Nat)} (l0 : Lst t0 L0) (l : Lst t L) : Begins L0 L := fun k b hb => by
  obtain ⟨os0, _, _, e0⟩ := h0.ex
  obtain ⟨os, _, _, e⟩ := h.ex
  have := (l0.2 k b).1 hb
  rw [e0, show fateN [] (os0.idxOf k) = 0 from rfl] at this
  obtain ⟨b', h1, h2⟩ := struck_none this (fateN z (os.idxOf k))
  exact ⟨b', (l.2 k b').2 (by rw [e, h1]), h2⟩

/-- the mildest one leaves all -/
theorem Crash.all_ {s t : St} {n : Nat} (g : Good n s) (h : Crash s (List.replicate n 1099511627776) t) : t.there = s.held := by
  obtain ⟨os, h1, h2, h3⟩ := h.ex
  funext k
  rw [h3]
  by_cases hk : s.there k = s.safe k
  · rw [hk, struck_same]
    unfold St.held
    rw [hk]
    cases s.safe k <;> rfl
  · have hm : k ∈ os := (h2 k).2 hk
    have hlen : os.length ≤ n := by
      refine Nat.le_trans (over_list (c := opn s) (h1.imp fun h => by omega) fun x hx => ?_) g.bud.1
      have hx' := (h2 x).1 hx
      have hsg := g.seg x (fun e => hx' (by
        unfold St.held at e
        cases e1 : s.there x with
        | none => rw [e1] at e; exact e.symm
        | some l => rw [e1] at e; cases e))
      refine ⟨hsg.1, hsg.2, ?_⟩
      unfold opn
      rw [if_neg hx']
      exact Nat.le_refl _
    have hi := List.idxOf_lt_length_of_mem hm
    have hf : fateN (List.replicate n 1099511627776) (os.idxOf k) = 1099511627776 := by
      unfold fateN
      rw [List.getD_eq_getElem?_getD, List.getElem?_replicate, if_pos (by omega)]
      rfl
    rw [hf]
    exact struck_full (fun l hl => by have := g.len k l hl; omega) (by decide)

theorem Crash.most {s t1 t : St} {n : Nat} {z : List Int} (g : Good n s) (h1 : Crash s (List.replicate n 1099511627776) t1) (h : Crash s z t) {L1 L : List (Int × List Nat)} (l1 : Lst t1 L1) (l : Lst t L) : Begins L L1 := fun k b hb => by
  obtain ⟨os, _, _, e⟩ := h.ex
  have := (l.2 k b).1 hb
  rw [e] at this
  obtain ⟨b', h2, h3⟩ := struck_held this
  exact ⟨b', (l1.2 k b').2 (by rw [h1.all_ g, h2]), h3⟩

theorem Crash.there_most {s t1 : St} {n : Nat} (g : Good n s) (h1 : Crash s (List.replicate n 1099511627776) t1) {L1 T : List (Int × List Nat)} (l1 : Lst t1 L1) (l : Lst s T) : Begins T L1 := fun k b hb => by
  have := (l.2 k b).1 hb
  exact ⟨b, (l1.2 k b).2 (by rw [h1.all_ g]; unfold St.held; rw [this]), Nat.le_refl _, List.take_length⟩

/-- what is there, and was not taken away, begins what was there -/
theorem Crash.begun {s t : St} {z : List Int} (h : Crash s z t) {L T : List (Int × List Nat)} (l : Lst t L) (lt : Lst s T) {k : Int} {b x : List Nat} (hb : (k, b) ∈ L) (hx : (k, x) ∈ T) : b.length ≤ x.length ∧ x.take b.length = b := by
  obtain ⟨os, _, _, e⟩ := h.ex
  have h1 := (l.2 k b).1 hb
  have h2 := (lt.2 k x).1 hx
  rw [e] at h1
  obtain ⟨b', h3, h4⟩ := struck_held h1
  unfold St.held at h3
  rw [h2] at h3
  injection h3 with h3
  subst h3
  exact h4

theorem Lst.len {n : Nat} {s : St} (g : Good n s) {L : List (Int × List Nat)} (l : Lst s L) : ∀ x ∈ L, x.2.length < 281474976710656 := fun x hx => by
  obtain ⟨k, b⟩ := x
  have h1 := (l.2 k b).1 hx
  have := g.len k b (by unfold St.held; rw [h1])
  show b.length < _
  omega

end Go.Proofs.Ytilpidioengnbaa

/- A script that came in: its steps, one by one. -/
namespace Go.Proofs.Ytilpidioengnbaa
open Go.RowKit Go.Lib

/-- what a slice of steps reads -/
def RdQ (w : World) (a : Option Addr) (n : Nat) (qs : List Stp) : Prop :=
  n = qs.length ∧ n ≤ 1466015503701 ∧ (∀ q ∈ qs, StpOk w q) ∧ ∀ i (h : i < qs.length), ∃ b off, a = some ⟨b, off, none⟩ ∧ w.cell? ⟨b, off + i * 8, none⟩ = some (.int .i64 qs[i].which) ∧ w.cell? ⟨b, off + i * 8 + 1, none⟩ = some (.bool qs[i].copy) ∧ w.cell? ⟨b, off + i * 8 + 2, none⟩ = some (.int .i64 qs[i].what) ∧
    w.cell? ⟨b, off + i * 8 + 3, none⟩ = some (.int .i64 qs[i].seg) ∧ w.cell? ⟨b, off + i * 8 + 4, none⟩ = some (.int .i64 qs[i].n) ∧ w.cell? ⟨b, off + i * 8 + 5, none⟩ = some (.int .u8 (qs[i].mask : Nat)) ∧ w.cell? ⟨b, off + i * 8 + 6, none⟩ = some (.slice qs[i].ba qs[i].b.length qs[i].bc) ∧ w.cell? ⟨b, off + i * 8 + 7, none⟩ = some (.slice qs[i].fa qs[i].fate.length qs[i].fc)

/-- what came in lies below what is new -/
theorem StpOk.out_ {w : World} {q : Stp} (h : StpOk w q) : q.out (fun i => w.heap.size ≤ i) := by
  refine ⟨fun g off e h0 hg => ?_, fun g off e h0 hg => ?_⟩
  · rcases h.rb.2.2.2 with h1 | ⟨b, off', e', hc⟩
    · exact h0 h1
    · rw [e] at e'
      injection e' with e'
      injection e' with e1 e2
      subst e1
      have := block_lt_of_cell (hc 0 (by omega))
      exact Nat.not_lt.2 hg this
  · rcases h.rf.2.2.2 with h1 | ⟨b, off', e', hc⟩
    · exact h0 h1
    · rw [e] at e'
      injection e' with e'
      injection e' with e1 e2
      subst e1
      have := block_lt_of_cell (hc 0 (by omega))
      exact Nat.not_lt.2 hg this
theorem Rz.lt {w : World} {a : Option Addr} {n : Nat} {z : List Int} (h : Rz w a n z) : ∀ g off, a = some ⟨g, off, none⟩ → n ≠ 0 → g < w.heap.size := fun g off e h0 => by
  rcases h.2.2.2 with h1 | ⟨b, off', e', hc⟩
  · exact absurd h1 h0
  · rw [e] at e'
    injection e' with e'
    injection e' with e1 e2
    subst e1
    exact block_lt_of_cell (hc 0 (by omega))


/-- a disk in the midst of a script -/
structure Mids (W w : World) (p : Nat) (s : St) (n : Nat) : Prop where
  d : DAt (fun i => W.heap.size ≤ i) w p s
  g : Good n s
  k : Keep (fun i => W.heap.size ≤ i) W w

/-- the next step, as it is called -/
theorem Mids.step {W w : World} {p : Nat} {s : St} {n : Nat} (h : Mids W w p s n) (hn : n < 70368744177664) {q : Stp} (hq : StpOk W q) :
    Calls Try.prog 10 #[.pointer (some ⟨p, 0, none⟩), q.val] w fun e w' => ∃ (c N : Int) (is : Bool) (vl vb : Value) (t : St), e = .returned (.agg #[.int .i64 c, .int .i64 N, .bool is, vl, vb]) ∧ StepTo s q c t ∧ (is = (decide (pickV q.what 12 = 8) && s.down)) ∧ Mids W w' p t (n + 1) ∧ (∃ a n c, vl = .slice a n c) ∧ ∃ a n c, vb = .slice a n c := by
  refine (stepped_any _ w p s q h.d h.g (Nat.le_of_lt hn) (fun i hi => Nat.le_trans h.k.size hi) (hq.stay h.k hq.out_) hq.out_).mono fun e w' ⟨c, N, is, vl, vb, ks, bs, t, e1, e2, e3, e4, e5, e6, e7⟩ => ?_
  obtain ⟨a1, c1, h1⟩ := ownsRow_shape e6
  obtain ⟨a2, c2, h2⟩ := ownsRow_shape e7.1
  exact ⟨c, N, is, vl, vb, t, e1, e2, e3.is, ⟨e4, h.g.step hq.n.2 e2, h.k.more e5⟩, ⟨_, _, _, h1⟩, _, _, _, h2⟩

theorem Mids.start {W w1 w2 : World} {p : Nat} {c : Int} (k1 : Keep (fun _ => False) W w1) (hd : DAt (fun i => w1.heap.size ≤ i) w2 p (St.new (pickV c 67108865).toNat)) (k2 : Keep (fun _ => False) w1 w2) : Mids W w2 p (St.new (pickV c 67108865).toNat) 0 :=
  ⟨hd.mono fun i e => Nat.le_trans k1.size e, Good.new (by have := pickV_in c 67108865 (by decide); omega), (k1.more k2).mono fun _ f => f.elim⟩

end Go.Proofs.Ytilpidioengnbaa
