import Derived.Test.YtkmnfmgodajjpaaGreatDoorUMod
import Derived.Test.YtkmnfmgodajjpaaGreatDoorUEnd
/- SourceBlanks: the mathematics: what a line that says nothing, blanks and remarks change. -/
namespace Go.Proofs.YtkmnfmgodajjpaaGreatDoor
namespace U.Bl

/-- what is read, its lines told by other numbers -/
def shD (f : Nat → Nat) (d : Dr) : Dr := { d with place := f d.place, places := d.places.map f, ms := d.ms.map fun m => { m with place := f m.place } }
def shR (f : Nat → Nat) : Nat ⊕ Dr → Nat ⊕ Dr
  | .inl p => .inl (f p)
  | .inr d => .inr (shD f d)
def shP (f : Nat → Nat) : (Nat × Nat) ⊕ Pl → (Nat × Nat) ⊕ Pl
  | .inl (p, c) => .inl (f p, c)
  | .inr q => .inr q
section
variable {f : Nat → Nat} (h0 : f 0 = 0) (h1 : ∀ q, q ≠ 0 → f q ≠ 0)
include h0 h1
theorem zero_iff (q : Nat) : (f q = 0) = (q = 0) := propext ⟨fun h => Classical.byContradiction fun h' => h1 _ h' h, fun h => by rw [h, h0]⟩
theorem begin_sh (d : Dr) (q : Nat) (ws : List (List UInt8)) : begin_ (shD f d) (f q) ws = (begin_ d q ws).map (shD f) := by
  unfold begin_
  simp only [shD, zero_iff h0 h1]
  split <;> rfl
theorem node_sh (d : Dr) (q : Nat) (ws : List (List UInt8)) : addNode (shD f d) (f q) ws = (addNode d q ws).map (shD f) := by
  unfold addNode
  simp only [shD, ne_eq, zero_iff h0 h1]
  split
  · simp [shD]
  · rfl
omit h0 h1 in
theorem men_sh (k : Nat) (d : Dr) (q : Nat) (ws : List (List UInt8)) : addMen k (shD f d) (f q) ws = (addMen k d q ws).map (shD f) := by
  unfold addMen
  by_cases hk : k = 0
  · simp only [shD, if_pos hk]
    by_cases hc : d.nds ≠ [] ∧ d.hn = false ∧ ws ≠ [] ∧ ws.all nmL = true
    · rw [if_pos hc, if_pos hc]
      simp [shD]
    · rw [if_neg hc, if_neg hc]
      rfl
  · simp only [shD, if_neg hk]
    by_cases hc : d.nds ≠ [] ∧ d.ha = false ∧ ws ≠ [] ∧ ws.all nmL = true
    · rw [if_pos hc, if_pos hc]
      simp [shD]
    · rw [if_neg hc, if_neg hc]
      rfl
theorem step_sh (d : Dr) (q : Nat) (ws : List (List UInt8)) : step (shD f d) (f q) ws = (step d q ws).map (shD f) := by
  unfold step
  split
  · rfl
  · unfold doLine
    split
    · exact begin_sh h0 h1 _ _ _
    · split
      · exact node_sh h0 h1 _ _ _
      · split
        · exact men_sh _ _ _ _
        · split
          · exact men_sh _ _ _ _
          · rfl
theorem read_sh : ∀ (R : List (List UInt8)) (p p' : Nat) (d : Dr), (∀ j, j < R.length → f (p + j) = p' + j) → readL p' R (shD f d) = shR f (readL p R d)
  | [], _, _, _, _ => rfl
  | l :: R, p, p', d, h => by
    have e : f p = p' := h 0 (by simp)
    unfold readL
    rw [← e, step_sh h0 h1]
    cases hs : step d p (wordsOf l) with
    | none => rfl
    | some d' =>
      simp only [Option.map_some]
      rw [e]
      exact read_sh R (p + 1) (p' + 1) d' fun j hj => by
        have := h (j + 1) (by simp; omega)
        rw [show p + 1 + j = p + (j + 1) by omega, this]; omega
omit h0 h1 in
theorem lay_sh : ∀ (ms : List Mn) (nds : List Pn), layE (ms.map fun m => { m with place := f m.place }) nds = match layE ms nds with | .inl p => .inl (f p) | .inr n => .inr n
  | [], _ => rfl
  | m :: r, nds => by
    rw [List.map_cons, layE, layE]
    cases edg nds m.names with
    | none => rfl
    | some l => exact lay_sh r (setEdge nds m l)
end
theorem rd_app : ∀ (a b : List (List UInt8)) (p : Nat) (d : Dr), readL p (a ++ b) d = match readL p a d with | .inl x => .inl x | .inr d' => readL (p + a.length) b d'
  | [], b, p, d => rfl
  | l :: a, b, p, d => by
    rw [List.cons_append, readL, readL]
    cases step d p (wordsOf l) with
    | none => rfl
    | some d' =>
      simp only
      rw [rd_app a b (p + 1) d', show p + 1 + a.length = p + (l :: a).length by simp; omega]
/-- the numbers of the lines behind one that was put in -/
def sh (k p : Nat) : Nat := if k < p then p + 1 else p
theorem sh0 (k : Nat) : sh k 0 = 0 := by unfold sh; rw [if_neg (by omega)]
theorem sh1 (k q : Nat) (h : q ≠ 0) : sh k q ≠ 0 := by unfold sh; split <;> omega
theorem new_sh (k : Nat) : shD (sh k) Dr.new = Dr.new := by unfold shD Dr.new; simp [sh0]
/-- a line that says nothing -/
theorem read_put (A R : List (List UInt8)) (N : List UInt8) (hN : wordsOf N = []) : readL 1 (A ++ N :: R) Dr.new = shR (sh A.length) (readL 1 (A ++ R) Dr.new) := by
  have hA : readL 1 A Dr.new = shR (sh A.length) (readL 1 A Dr.new) := by
    have := read_sh (sh0 A.length) (sh1 A.length) A 1 1 Dr.new fun j hj => by unfold sh; rw [if_neg (by omega)]
    rwa [new_sh] at this
  rw [rd_app A (N :: R), rd_app A R]
  cases hr : readL 1 A Dr.new with
  | inl x =>
    rw [hr] at hA
    simp only
    exact hA
  | inr d =>
    rw [hr] at hA
    simp only
    have hd : shD (sh A.length) d = d := by injection hA with hA; exact hA.symm
    rw [readL, hN]
    show readL _ R d = _
    have := read_sh (sh0 A.length) (sh1 A.length) R (1 + A.length) (1 + A.length + 1) d fun j _ => by unfold sh; rw [if_pos (by omega)]; omega
    rwa [hd] at this
theorem parse_sh {s t : List UInt8} {k : Nat} (hs : s.length ≤ 65536) (ht : t.length ≤ 65536) (h : readL 1 (splitOn 10 t) Dr.new = shR (sh k) (readL 1 (splitOn 10 s) Dr.new)) : parse t = shP (sh k) (parse s) := by
  unfold parse
  rw [if_neg (by omega), if_neg (by omega), h]
  cases readL 1 (splitOn 10 s) Dr.new with
  | inl p => rfl
  | inr d =>
    simp only [shR]
    show (if (shD (sh k) d).place = 0 then _ else _) = _
    have e1 : ((shD (sh k) d).place = 0) = (d.place = 0) := zero_iff (sh0 k) (sh1 k) d.place
    simp only [e1]
    by_cases hd : d.place = 0
    · rw [if_pos hd, if_pos hd]
      show _ = Sum.inl (sh k 0, 111)
      rw [sh0]
    · rw [if_neg hd, if_neg hd]
      have e2 : layE (shD (sh k) d).ms (shD (sh k) d).nds = _ := lay_sh d.ms d.nds
      rw [e2]
      cases layE d.ms d.nds with
      | inl p => rfl
      | inr nds =>
        simp only
        show judge (shD (sh k) d) nds (Gr.chk (ba d.nm) d.dl (nds.map no)) = _
        generalize Gr.chk (ba d.nm) d.dl (nds.map no) = c
        unfold judge
        split
        · rfl
        · split
          · rfl
          · show Sum.inl ((d.places.map (sh k)).getD (c.1 - 1) 0, c.2) = Sum.inl (sh k (d.places.getD (c.1 - 1) 0), c.2)
            rw [List.getD_eq_getElem?_getD, List.getD_eq_getElem?_getD, List.getElem?_map]
            cases d.places[c.1 - 1]? with
            | none => simp [sh0]
            | some q => rfl
theorem parse_eq {s t : List UInt8} (hs : s.length ≤ 65536) (ht : t.length ≤ 65536) (h : readL 1 (splitOn 10 t) Dr.new = readL 1 (splitOn 10 s) Dr.new) : parse t = parse s := by
  unfold parse
  rw [if_neg (by omega), if_neg (by omega), h]
/-- a line whose words are those of another -/
theorem read_same : ∀ (A R : List (List UInt8)) (B B' : List UInt8) (_ : wordsOf B' = wordsOf B) (p : Nat) (d : Dr), readL p (A ++ B' :: R) d = readL p (A ++ B :: R) d
  | [], R, B, B', h, p, d => by rw [List.nil_append, List.nil_append, readL, readL, h]
  | l :: A, R, B, B', h, p, d => by
    rw [List.cons_append, List.cons_append, readL, readL]
    cases step d p (wordsOf l) with
    | none => rfl
    | some d' => exact read_same A R B B' h (p + 1) d'
theorem words_behind (bl : List UInt8) (hb : ∀ b ∈ bl, isBl b = true) : ∀ (l cur : List UInt8), wordsA cur (l ++ bl) = wordsA cur l
  | [], cur => by
    have e : ∀ (bl : List UInt8), (∀ b ∈ bl, isBl b = true) → wordsA [] bl = [] := by
      intro bl
      induction bl with
      | nil => intro _; rfl
      | cons b r ih => intro h; rw [wordsA, h b (by simp)]; simp only [if_true, List.isEmpty_nil]; exact ih fun x hx => h x (by simp [hx])
    rw [List.nil_append]
    cases bl with
    | nil => rfl
    | cons b r =>
      rw [wordsA, wordsA, hb b (by simp), e r fun x hx => hb x (by simp [hx])]
      rfl
  | c :: l, cur => by
    rw [List.cons_append, wordsA, wordsA, words_behind bl hb l, words_behind bl hb l]
theorem ahead_app (l r : List UInt8) : ahead 35 (l ++ r) = if 35 ∈ l then ahead 35 l else l ++ ahead 35 r := by
  induction l with
  | nil => simp
  | cons b l ih =>
    rw [List.cons_append, ahead, ahead, ih]
    by_cases hb : b = 35
    · simp [hb]
    · rw [if_neg hb, if_neg hb]
      have : (35 ∈ b :: l) = (35 ∈ l) := by simp; intro h; exact absurd h.symm hb
      simp only [this]
      split <;> rfl
theorem ahead_no {l : List UInt8} (h : 35 ∉ l) : ahead 35 l = l := by
  have := ahead_app l []
  rw [if_neg h] at this
  simpa [ahead] using this
theorem line_ahead (B : List UInt8) : wordsOf (9 :: 32 :: B) = wordsOf B := by
  unfold wordsOf words
  rw [ahead, if_neg (by decide), ahead, if_neg (by decide), wordsA, wordsA]
  rfl
theorem line_behind (B : List UInt8) : wordsOf (B ++ [32, 32]) = wordsOf B := by
  unfold wordsOf words
  rw [ahead_app]
  split
  · rfl
  · rename_i h
    rw [ahead_no h, show ahead 35 [32, 32] = [32, 32] from rfl, words_behind _ (by decide)]
theorem line_remark (B : List UInt8) : wordsOf (B ++ [9, 35, 32]) = wordsOf B := by
  unfold wordsOf words
  rw [ahead_app]
  split
  · rfl
  · rename_i h
    rw [ahead_no h, show ahead 35 [9, 35, 32] = [9] from rfl, words_behind _ (by decide)]
theorem line_none : wordsOf [] = [] := rfl
theorem line_note : wordsOf [32, 35, 120] = [] := rfl
end U.Bl
end Go.Proofs.YtkmnfmgodajjpaaGreatDoor

/- SourceBlanks: the mathematics: a line of a text, what lies ahead of it and behind it. -/
namespace Go.Proofs.YtkmnfmgodajjpaaGreatDoor
namespace U.Bl

theorem ends_len : ∀ (s : List UInt8) (k : Nat), (endsR k s).length ≤ s.length
  | [], _ => by simp [endsR]
  | b :: r, k => by
    have ih := ends_len r (k + 1)
    unfold endsR
    split
    · simp; exact ih
    · split
      · simp
      · simp; omega
theorem split_line : ∀ (B C : List UInt8), 10 ∉ B → splitOn 10 (B ++ C) = match splitOn 10 C with | h :: t => (B ++ h) :: t | [] => []
  | [], C, _ => by
    cases h : splitOn 10 C with
    | nil => simpa using h
    | cons x t => simpa using h
  | b :: B, C, hB => by
    have hb : b ≠ 10 := fun e => hB (by simp [e])
    have ih := split_line B C fun h => hB (by simp [h])
    rw [List.cons_append, splitOn, if_neg hb, ih]
    cases h : splitOn 10 C with
    | nil => exact absurd h (splitOn_ne 10 C)
    | cons x t => rfl
/-- a line that ends: what lies ahead of it, it, what lies behind it -/
structure Cut (k : Nat) (s : List UInt8) (j e : Nat) (A B C : List UInt8) (LA : List (List UInt8)) : Prop where
  txt : s = A ++ (B ++ C)
  no : 10 ∉ B
  fin : (C = [] ∧ B ≠ [] ∧ e = k + A.length + B.length) ∨ ((∃ C', C = 10 :: C') ∧ e = k + A.length + B.length + 1)
  zero : j = 0 → A = []
  prev : j ≠ 0 → (endsR k s)[j - 1]? = some (k + A.length)
  len : LA.length = j
  split : ∀ X, splitOn 10 (A ++ X) = LA ++ splitOn 10 X
theorem cut_of : ∀ (s : List UInt8) (k j e : Nat), (endsR k s)[j]? = some e → ∃ A B C LA, Cut k s j e A B C LA
  | [], k, j, e, h => by simp [endsR] at h
  | b :: r, k, j, e, h => by
    by_cases hb : b = 10
    · subst hb
      have he : endsR k (10 :: r) = (k + 1) :: endsR (k + 1) r := by rw [endsR, if_pos rfl]
      rw [he] at h
      cases j with
      | zero =>
        simp at h
        exact ⟨[], [], 10 :: r, [], rfl, by simp, .inr ⟨⟨r, rfl⟩, by simp; omega⟩, fun _ => rfl, fun h => absurd rfl h, rfl, fun X => rfl⟩
      | succ j =>
        simp only [List.getElem?_cons_succ] at h
        obtain ⟨A, B, C, LA, h1, h2, h3, h4, h5, h6, h7⟩ := cut_of r (k + 1) j e h
        refine ⟨10 :: A, B, C, [] :: LA, by rw [h1]; rfl, h2, ?_, fun h => by omega, fun _ => ?_, by simp [h6], fun X => ?_⟩
        · rcases h3 with ⟨a, b, c⟩ | ⟨a, b⟩
          · exact .inl ⟨a, b, by simp; omega⟩
          · exact .inr ⟨a, by simp; omega⟩
        · rw [he]
          cases j with
          | zero => simp [h4 rfl]
          | succ j =>
            have := h5 (by omega)
            simp at this ⊢
            rw [this]
            congr 1
            omega
        · rw [List.cons_append, splitOn, if_pos rfl, h7]
          rfl
    · by_cases hr : r = []
      · subst hr
        have he : endsR k [b] = [k + 1] := by rw [endsR, if_neg hb, if_pos rfl]
        rw [he] at h
        cases j with
        | zero =>
          simp at h
          exact ⟨[], [b], [], [], rfl, by simp; exact fun e => hb e.symm, .inl ⟨rfl, by simp, by simp; omega⟩, fun _ => rfl, fun h => absurd rfl h, rfl, fun X => rfl⟩
        | succ j => simp at h
      · have he : endsR k (b :: r) = endsR (k + 1) r := by rw [endsR, if_neg hb, if_neg hr]
        rw [he] at h
        obtain ⟨A, B, C, LA, h1, h2, h3, h4, h5, h6, h7⟩ := cut_of r (k + 1) j e h
        cases j with
        | zero =>
          obtain rfl : A = [] := h4 rfl
          have hLA : LA = [] := List.eq_nil_of_length_eq_zero h6
          refine ⟨[], b :: B, C, [], by rw [h1]; rfl, ?_, ?_, fun _ => rfl, fun h => absurd rfl h, rfl, fun X => rfl⟩
          · simp
            exact ⟨fun e => hb e.symm, h2⟩
          · rcases h3 with ⟨a, b, c⟩ | ⟨a, b⟩
            · exact .inl ⟨a, by simp, by simp at c ⊢; omega⟩
            · exact .inr ⟨a, by simp at b ⊢; omega⟩
        | succ j =>
          obtain ⟨l, L, rfl⟩ : ∃ l L, LA = l :: L := by
            cases LA with
            | nil => simp at h6
            | cons l L => exact ⟨l, L, rfl⟩
          refine ⟨b :: A, B, C, (b :: l) :: L, by rw [h1]; rfl, h2, ?_, fun h => by omega, fun _ => ?_, by simpa using h6, fun X => ?_⟩
          · rcases h3 with ⟨a, b, c⟩ | ⟨a, b⟩
            · exact .inl ⟨a, b, by simp; omega⟩
            · exact .inr ⟨a, by simp; omega⟩
          · rw [he, h5 (by omega)]
            congr 1
            simp; omega
          · rw [List.cons_append, splitOn, if_neg hb, h7]
            rfl
section
variable {s A B C : List UInt8} {LA : List (List UInt8)} {j e : Nat}
theorem Cut.lines (h : Cut 0 s j e A B C LA) : ∃ R, splitOn 10 s = LA ++ B :: R ∧ (∀ P, 10 ∉ P → splitOn 10 (A ++ (P ++ (B ++ C))) = LA ++ (P ++ B) :: R) ∧ (∀ P, 10 ∉ P → splitOn 10 (A ++ (B ++ (P ++ C))) = LA ++ (B ++ P) :: R) ∧ ∀ P, 10 ∉ P → splitOn 10 (A ++ (P ++ 10 :: (B ++ C))) = LA ++ P :: B :: R := by
  have key : ∃ R, ∀ P, 10 ∉ P → splitOn 10 (P ++ C) = P :: R := by
    rcases h.fin with ⟨hc, _⟩ | ⟨⟨C', hc⟩, _⟩
    · subst hc
      refine ⟨[], fun P hP => ?_⟩
      rw [split_line P [] hP]
      simp [splitOn]
    · subst hc
      refine ⟨splitOn 10 C', fun P hP => ?_⟩
      rw [split_line P _ hP, splitOn, if_pos rfl]
      simp
  obtain ⟨R, hR⟩ := key
  have hBC := hR B h.no
  refine ⟨R, by rw [h.txt, h.split, hBC], fun P hP => ?_, fun P hP => ?_, fun P hP => ?_⟩
  · rw [h.split, ← List.append_assoc, hR (P ++ B) (by simp; exact ⟨hP, h.no⟩)]
  · rw [h.split, ← List.append_assoc, hR (B ++ P) (by simp; exact ⟨h.no, hP⟩)]
  · rw [h.split, split_line P _ hP, splitOn, if_pos rfl, hBC]
    simp
/-- a line more that says nothing -/
theorem Cut.put (h : Cut 0 s j e A B C LA) {P : List UInt8} (hP : 10 ∉ P) (hw : wordsOf P = []) (hs : s.length ≤ 65536) (ht : (A ++ (P ++ 10 :: (B ++ C))).length ≤ 65536) : parse (A ++ (P ++ 10 :: (B ++ C))) = shP (sh j) (parse s) := by
  obtain ⟨R, h1, _, _, h4⟩ := h.lines
  refine parse_sh hs ht ?_
  rw [h1, h4 P hP, read_put LA (B :: R) P hw, h.len]
/-- blanks ahead of a line -/
theorem Cut.ahead (h : Cut 0 s j e A B C LA) (hs : s.length ≤ 65536) (ht : (A ++ ([9, 32] ++ (B ++ C))).length ≤ 65536) : parse (A ++ ([9, 32] ++ (B ++ C))) = parse s := by
  obtain ⟨R, h1, h2, _, _⟩ := h.lines
  refine parse_eq hs ht ?_
  rw [h1, h2 _ (by decide)]
  exact read_same LA R B _ (line_ahead B) 1 _
/-- blanks, a remark behind a line -/
theorem Cut.behind (h : Cut 0 s j e A B C LA) {P : List UInt8} (hP : 10 ∉ P) (hw : wordsOf (B ++ P) = wordsOf B) (hs : s.length ≤ 65536) (ht : (A ++ (B ++ (P ++ C))).length ≤ 65536) : parse (A ++ (B ++ (P ++ C))) = parse s := by
  obtain ⟨R, h1, _, h3, _⟩ := h.lines
  refine parse_eq hs ht ?_
  rw [h1, h3 _ hP]
  exact read_same LA R B _ hw 1 _
end
end U.Bl
end Go.Proofs.YtkmnfmgodajjpaaGreatDoor
