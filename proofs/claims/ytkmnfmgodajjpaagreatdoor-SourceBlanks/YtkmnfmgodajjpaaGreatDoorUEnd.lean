/- Package source's laws: ends. -/
import Derived.Test.YtkmnfmgodajjpaaGreatDoorUPar
namespace Go.Proofs.YtkmnfmgodajjpaaGreatDoor
namespace U
open Go.RowKit

/-- the places behind the line feeds -/
def endsA : Nat → List UInt8 → List Nat
  | _, [] => []
  | k, b :: r => if b = 10 then (k + 1) :: endsA (k + 1) r else endsA (k + 1) r
/-- the places behind the lines -/
def endsR : Nat → List UInt8 → List Nat
  | _, [] => []
  | k, b :: r => if b = 10 then (k + 1) :: endsR (k + 1) r else if r = [] then [k + 1] else endsR (k + 1) r
def more (z : List Nat) (n : Nat) : Bool := match z.getLast? with
  | none => decide (0 < n)
  | some m => decide (m < n)
theorem endsA_snoc : ∀ (l : List UInt8) (k : Nat) (b : UInt8), endsA k (l ++ [b]) = endsA k l ++ if b = 10 then [k + l.length + 1] else []
  | [], k, b => by unfold endsA endsA; simp
  | c :: l, k, b => by
    have ih := endsA_snoc l (k + 1) b
    rw [List.cons_append, endsA, endsA, ih, show k + 1 + l.length + 1 = k + (c :: l).length + 1 by simp; omega]
    split <;> simp
theorem endsA_le : ∀ (s : List UInt8) (k m : Nat), m ∈ endsA k s → k < m ∧ m ≤ k + s.length
  | [], _, _, h => by cases h
  | b :: r, k, m, h => by
    unfold endsA at h
    rw [List.length_cons]
    split at h
    · rcases List.mem_cons.1 h with rfl | h
      · omega
      · have := endsA_le r (k + 1) m h; omega
    · have := endsA_le r (k + 1) m h; omega
def moreB (z : List Nat) (a b : Nat) : Bool := match z.getLast? with
  | none => decide (0 < a)
  | some m => decide (m < b)
theorem moreB_nil (a b : Nat) : moreB [] a b = decide (0 < a) := rfl
theorem moreB_one (x a b : Nat) : moreB [x] a b = decide (x < b) := rfl
theorem moreB_cons (x y : Nat) (ys : List Nat) (a b : Nat) : moreB (x :: y :: ys) a b = moreB (y :: ys) a b := by unfold moreB; rw [List.getLast?_cons_cons]
theorem moreB_any (y : Nat) (ys : List Nat) (a a' b : Nat) : moreB (y :: ys) a b = moreB (y :: ys) a' b := by
  unfold moreB
  cases h : (y :: ys).getLast? with
  | none => simp at h
  | some m => rfl
theorem endsR_eq : ∀ (s : List UInt8) (k : Nat), endsR k s = if moreB (endsA k s) s.length (k + s.length) = true then endsA k s ++ [k + s.length] else endsA k s
  | [], k => by simp [endsR, endsA, moreB]
  | b :: r, k => by
    have ih := endsR_eq r (k + 1)
    rw [endsR, endsA, ih, List.length_cons, show k + (r.length + 1) = k + 1 + r.length by omega]
    by_cases hb : b = 10
    · simp only [if_pos hb]
      cases hz : endsA (k + 1) r with
      | nil =>
        rw [moreB_nil, moreB_one]
        by_cases hr : 0 < r.length
        · rw [if_pos (decide_eq_true hr), if_pos (decide_eq_true (by omega))]; rfl
        · have hr0 : r.length = 0 := by omega
          rw [if_neg (by simp [hr0]), if_neg (by simp [hr0])]
      | cons y ys =>
        rw [moreB_cons, moreB_any y ys (r.length + 1) r.length]
        split <;> simp
    · simp only [if_neg hb]
      cases hz : endsA (k + 1) r with
      | nil =>
        rw [moreB_nil, moreB_nil, if_pos (show decide (0 < r.length + 1) = true by simp)]
        by_cases hr : r = []
        · subst hr; simp
        · rw [if_neg hr, if_pos (decide_eq_true (List.length_pos_iff.2 hr))]
      | cons y ys =>
        have hr : r ≠ [] := by intro e; subst e; simp [endsA] at hz
        rw [if_neg hr, moreB_any y ys (r.length + 1) r.length]
theorem endsR_is (s : List UInt8) : endsR 0 s = if more (endsA 0 s) s.length = true then endsA 0 s ++ [s.length] else endsA 0 s := by
  rw [endsR_eq s 0, Nat.zero_add]; rfl
theorem endsR_ne : ∀ (s : List UInt8) (k : Nat), s ≠ [] → endsR k s ≠ []
  | b :: r, k, _ => by
    unfold endsR
    split
    · simp
    · split
      · simp
      · rename_i h; exact endsR_ne r (k + 1) h
/-- a text up to where a line ends -/
theorem ends_cut : ∀ (s : List UInt8) (k j m : Nat), (endsR k s)[j]? = some m → k < m ∧ m ≤ k + s.length ∧ ∃ t, splitOn 10 (s.take (m - k)) = (splitOn 10 s).take (j + 1) ++ t ∧ (t = [] ∨ t = [[]])
  | [], k, j, m, h => by simp [endsR] at h
  | b :: r, k, j, m, h => by
    unfold endsR at h
    by_cases hb : b = 10
    · rw [if_pos hb] at h
      cases j with
      | zero =>
        simp at h
        subst h
        refine ⟨by omega, by simp, [[]], ?_, .inr rfl⟩
        rw [show k + 1 - k = 1 by omega]
        simp [splitOn, hb]
      | succ j =>
        simp only [List.getElem?_cons_succ] at h
        obtain ⟨h1, h2, t, h3, h4⟩ := ends_cut r (k + 1) j m h
        refine ⟨by omega, by simp; omega, t, ?_, h4⟩
        rw [show m - k = (m - (k + 1)) + 1 by omega, List.take_succ_cons]
        simp only [splitOn, if_pos hb, List.take_succ_cons, List.cons_append]
        rw [h3]
    · rw [if_neg hb] at h
      by_cases hr : r = []
      · rw [if_pos hr] at h
        subst hr
        cases j with
        | zero =>
          simp at h
          subst h
          refine ⟨by omega, by simp, [], ?_, .inl rfl⟩
          rw [show k + 1 - k = 1 by omega]
          simp [splitOn, hb]
        | succ j => simp at h
      · rw [if_neg hr] at h
        obtain ⟨h1, h2, t, h3, h4⟩ := ends_cut r (k + 1) j m h
        refine ⟨by omega, by simp; omega, t, ?_, h4⟩
        rw [show m - k = (m - (k + 1)) + 1 by omega, List.take_succ_cons]
        simp only [splitOn, if_neg hb]
        rw [h3]
        obtain ⟨x, xs, hx⟩ := List.exists_cons_of_ne_nil (splitOn_ne 10 r)
        rw [hx]
        simp
/-- a line that says something is one that ends -/
theorem line_ends : ∀ (s : List UInt8) (k j : Nat) (l : List UInt8), (splitOn 10 s)[j]? = some l → l ≠ [] → j < (endsR k s).length
  | [], k, j, l, h, hl => by
    cases j with
    | zero => simp [splitOn] at h; exact absurd h.symm (by simpa using hl)
    | succ j => simp [splitOn] at h
  | b :: r, k, j, l, h, hl => by
    unfold endsR
    by_cases hb : b = 10
    · rw [if_pos hb]
      simp only [splitOn, if_pos hb] at h
      cases j with
      | zero => simp at h; exact absurd h.symm (by simpa using hl)
      | succ j =>
        simp only [List.getElem?_cons_succ] at h
        have := line_ends r (k + 1) j l h hl
        simp; omega
    · rw [if_neg hb]
      simp only [splitOn, if_neg hb] at h
      obtain ⟨x, xs, hx⟩ := List.exists_cons_of_ne_nil (splitOn_ne 10 r)
      rw [hx] at h
      simp only at h
      by_cases hr : r = []
      · rw [if_pos hr]
        subst hr
        simp [splitOn] at hx
        obtain ⟨_, rfl⟩ := hx
        cases j with
        | zero => simp
        | succ j => simp at h
      · rw [if_neg hr]
        cases j with
        | zero => exact List.length_pos_iff.2 (endsR_ne r _ hr)
        | succ j =>
          simp only [List.getElem?_cons_succ] at h
          exact line_ends r (k + 1) (j + 1) l (by rw [hx]; simpa using h) hl
theorem readL_app : ∀ (a b : List (List UInt8)) (p : Nat) (d : Dr), readL p (a ++ b) d = match readL p a d with | .inl x => .inl x | .inr d' => readL (p + a.length) b d'
  | [], b, p, d => by simp [readL]
  | l :: a, b, p, d => by
    rw [List.cons_append, readL, readL]
    cases step d p (wordsOf l) with
    | none => rfl
    | some d' => simp only; rw [readL_app a b (p + 1) d', List.length_cons, show p + 1 + a.length = p + (a.length + 1) by omega]
/-- where the first line is that is none -/
theorem readL_no : ∀ (ls : List (List UInt8)) (p n : Nat) (d : Dr), readL p ls d = .inl n → ∃ j l d', n = p + j ∧ ls[j]? = some l ∧ wordsOf l ≠ [] ∧ readL p (ls.take j) d = .inr d' ∧ readL p (ls.take (j + 1)) d = .inl n
  | [], p, n, d, h => by cases h
  | l :: r, p, n, d, h => by
    rw [readL] at h
    cases hs : step d p (wordsOf l) with
    | none =>
      rw [hs] at h
      simp only [Sum.inl.injEq] at h
      subst h
      refine ⟨0, l, d, rfl, rfl, fun e => ?_, rfl, ?_⟩
      · rw [e] at hs; cases hs
      · simp [readL, hs]
    | some d' =>
      rw [hs] at h
      simp only at h
      obtain ⟨j, l', d2, h1, h2, h3, h4, h5⟩ := readL_no r (p + 1) n d' h
      refine ⟨j + 1, l', d2, by omega, by simpa using h2, h3, ?_, ?_⟩
      · rw [List.take_succ_cons, readL, hs]; exact h4
      · rw [List.take_succ_cons, readL, hs]; exact h5
theorem readL_tail (p : Nat) (d : Dr) (t : List (List UInt8)) (ht : t = [] ∨ t = [[]]) : readL p t d = .inr d := by
  rcases ht with rfl | rfl <;> rfl
/-- the lines that a plan names lie below a bound -/
def PlB (N : Nat) (d : Dr) : Prop := d.place ≤ N ∧ (∀ q ∈ d.places, q ≤ N) ∧ ∀ m ∈ d.ms, m.place ≤ N
theorem men_plb {N kind : Nat} {d d' : Dr} {p : Nat} {ws : List (List UInt8)} (h : addMen kind d p ws = some d') (hd : PlB N d) (hp : p ≤ N) : PlB N d' := by
  obtain ⟨h1, h2, h3⟩ := hd
  unfold addMen at h
  obtain ⟨_, h⟩ := Option.ite_none_right_eq_some.1 h
  have h := Option.some.inj h
  subst h
  refine ⟨h1, h2, fun m hm => ?_⟩
  simp at hm
  rcases hm with hm | rfl
  · exact h3 m hm
  · exact hp
theorem step_plb {N : Nat} {d d' : Dr} {p : Nat} {ws : List (List UInt8)} (h : step d p ws = some d') (hd : PlB N d) (hp : ws ≠ [] → p ≤ N) : PlB N d' := by
  obtain ⟨h1, h2, h3⟩ := hd
  unfold step at h
  split at h
  · simp at h; subst h; exact ⟨h1, h2, h3⟩
  · rename_i f r
    have hp := hp (by simp)
    unfold doLine at h
    split at h
    · unfold begin_ at h
      simp only at h
      split at h
      · simp at h; subst h; exact ⟨hp, h2, h3⟩
      · cases h
    · split at h
      · unfold addNode at h
        split at h
        · have h := Option.some.inj h
          subst h
          refine ⟨h1, fun q hq => ?_, h3⟩
          simp at hq
          rcases hq with hq | rfl
          · exact h2 q hq
          · exact hp
        · cases h
      · split at h
        · exact men_plb h ⟨h1, h2, h3⟩ hp
        · split at h
          · exact men_plb h ⟨h1, h2, h3⟩ hp
          · cases h
theorem readL_plb {N : Nat} : ∀ (ls : List (List UInt8)) (p : Nat) (d d' : Dr), readL p ls d = .inr d' → PlB N d → (∀ j l, ls[j]? = some l → wordsOf l ≠ [] → p + j ≤ N) → PlB N d'
  | [], p, d, d', h, hd, _ => by simp [readL] at h; subst h; exact hd
  | l :: r, p, d, d', h, hd, hl => by
    rw [readL] at h
    cases hs : step d p (wordsOf l) with
    | none => rw [hs] at h; cases h
    | some d2 =>
      rw [hs] at h
      exact readL_plb r (p + 1) d2 d' h (step_plb hs hd fun hw => by simpa using hl 0 l rfl hw) fun j l' hj hw => by have := hl (j + 1) l' (by simpa using hj) hw; omega
theorem layE_place {N : Nat} : ∀ (ms : List Mn) (nds : List Pn) (p : Nat), layE ms nds = .inl p → (∀ m ∈ ms, m.place ≤ N) → p ≤ N
  | [], _, _, h, _ => by cases h
  | m :: r, nds, p, h, hm => by
    rw [layE] at h
    split at h
    · simp at h; subst h; exact hm m (List.mem_cons_self ..)
    · exact layE_place r _ p h fun x hx => hm x (List.mem_cons_of_mem _ hx)
theorem words_line {l : List UInt8} (h : wordsOf l ≠ []) : l ≠ [] := fun e => by subst e; exact h rfl
/-- the line that Parse tells is one of the text's -/
theorem parse_line {s : List UInt8} {n c : Nat} (h : parse s = .inl (n, c)) : n ≤ (endsR 0 s).length := by
  unfold parse at h
  split at h
  · cases h; omega
  · cases hr : readL 1 (splitOn 10 s) Dr.new with
    | inl p =>
      rw [hr] at h
      cases h
      obtain ⟨j, l, d', h1, h2, h3, _⟩ := readL_no _ _ _ _ hr
      have := line_ends s 0 j l h2 (words_line h3)
      omega
    | inr d =>
      rw [hr] at h
      have hb : PlB (endsR 0 s).length d := readL_plb _ _ _ _ hr ⟨Nat.zero_le _, (fun q hq => by cases hq), fun m hm => by cases hm⟩ fun j l hj hw => by
        have := line_ends s 0 j l hj (words_line hw)
        omega
      simp only at h
      split at h
      · cases h; omega
      · split at h
        · rename_i p hp
          cases h
          exact layE_place _ _ _ hp hb.2.2
        · rename_i nds hn
          unfold judge at h
          split at h
          · cases h
          · split at h
            · cases h; exact hb.1
            · simp only [Sum.inl.injEq, Prod.mk.injEq] at h
              rw [← h.1]
              generalize (Gr.chk (ba d.nm) d.dl (nds.map no)).1 - 1 = q
              cases hq : d.places[q]? with
              | none => simp [hq]
              | some v => simp [hq]; exact hb.2.1 v (List.mem_of_getElem? hq)
theorem cN_not111 (n : Nat) : ∀ (xs : List Gr.No) (i : Nat) (seen : List ByteArray), (Gr.cN n i seen xs).2 ≠ 111
  | [], _, _ => by simp [Gr.cN]
  | x :: xs, i, seen => by
    unfold Gr.cN
    split
    · simp
    · split
      · simp
      · split
        · simp
        · exact cN_not111 n xs _ _
theorem chk_not111 (nm : ByteArray) (dl : Int) (xs : List Gr.No) : (Gr.chk nm dl xs).2 ≠ 111 := by
  unfold Gr.chk
  split
  · simp only
    unfold Gr.cW
    split
    · simp
    · split
      · simp
      · split <;> simp
  · split
    · exact cN_not111 _ _ _ _
    · split <;> simp
/-- a line that is none: by the lines up to it -/
theorem parse_first {s : List UInt8} {n : Nat} (h : parse s = .inl (n, 111)) (hn : n ≠ 0) :
    ∃ m, (endsR 0 s)[n - 1]? = some m ∧ m ≤ s.length ∧ parse (s.take m) = .inl (n, 111) ∧ (n = 1 → ∃ o, parse (s.take 0) = .inl (0, o)) ∧ (n ≠ 1 → ∃ m', (endsR 0 s)[n - 2]? = some m' ∧ m' ≤ s.length ∧ ((∃ o, parse (s.take m') = .inl (0, o)) ∨ (∃ a c, parse (s.take m') = .inl (a, c) ∧ c ≠ 111) ∨ ∃ q, parse (s.take m') = .inr q)) := by
  have hline := parse_line h
  unfold parse at h
  split at h
  · cases h
  · rename_i hlen
    cases hr : readL 1 (splitOn 10 s) Dr.new with
    | inr d =>
      rw [hr] at h
      simp only at h
      split at h
      · cases h; exact absurd rfl hn
      · split at h
        · cases h
        · rename_i nds hnd
          exfalso
          revert h
          unfold judge
          have hc := chk_not111 (ba d.nm) d.dl (nds.map no)
          split
          · intro h; cases h
          · split
            · intro h; injection h with h; injection h with h1 h2; exact hc h2
            · intro h; injection h with h; injection h with h1 h2; exact hc h2
    | inl p =>
      rw [hr] at h
      cases h
      obtain ⟨j, l, d', h1, h2, h3, h4, h5⟩ := readL_no _ _ _ _ hr
      subst h1
      have hj := line_ends s 0 j l h2 (words_line h3)
      have hm : (endsR 0 s)[j]? = some ((endsR 0 s)[j]) := List.getElem?_eq_getElem hj
      obtain ⟨g1, g2, t, g3, g4⟩ := ends_cut s 0 j _ hm
      generalize (endsR 0 s)[j] = m at *
      rw [Nat.zero_add] at g2
      rw [Nat.sub_zero] at g3
      refine ⟨m, by rw [show 1 + j - 1 = j by omega]; exact hm, g2, ?_, ?_, ?_⟩
      · unfold parse
        rw [if_neg (by rw [List.length_take]; omega), g3, readL_app, h5]
      · intro _
        exact ⟨111, by unfold parse; simp [splitOn, readL, step, wordsOf, ahead, words, wordsA, Dr.new]⟩
      · intro hn1
        obtain ⟨i, rfl⟩ : ∃ i, j = i + 1 := ⟨j - 1, by omega⟩
        have hi : (endsR 0 s)[i]? = some ((endsR 0 s)[i]'(by omega)) := List.getElem?_eq_getElem _
        obtain ⟨g1', g2', t', g3', g4'⟩ := ends_cut s 0 i _ hi
        generalize (endsR 0 s)[i] = m' at *
        rw [Nat.zero_add] at g2'
        rw [Nat.sub_zero] at g3'
        refine ⟨m', by rw [show 1 + (i + 1) - 2 = i by omega]; exact hi, g2', ?_⟩
        have e1 : readL 1 (splitOn 10 (s.take m')) Dr.new = .inr d' := by
          rw [g3', readL_app, h4]
          exact readL_tail _ _ _ g4'
        unfold parse
        rw [if_neg (by rw [List.length_take]; omega), e1]
        simp only
        split
        · exact .inl ⟨_, rfl⟩
        · split
          · exact .inr (.inl ⟨_, _, rfl, by decide⟩)
          · rename_i nds hnd
            unfold judge
            have hc := chk_not111 (ba d'.nm) d'.dl (nds.map no)
            split
            · exact .inr (.inr ⟨_, rfl⟩)
            · split
              · exact .inr (.inl ⟨_, _, rfl, hc⟩)
              · exact .inr (.inl ⟨_, _, rfl, hc⟩)

theorem cells_one (w : World) (y : Int) (j : Nat) (u : Value) (hu : [Value.int .i64 y][j]? = some u) : (w.alloc (.cells #[.int .i64 y] 3)).cell? ((⟨w.heap.size, 0, none⟩ : Addr).add j) = some u := by
  rw [Addr.add_mid, Nat.zero_add]
  exact cell_blk (heap_alloc_new w _) j (by simpa using hu)
theorem ba_get (s : List UInt8) (i : Nat) (h : i < (ba s).size) (x : UInt8) (hx : s[i]? = some x) : (ba s)[i]'h = x := by
  obtain ⟨h1, h2⟩ := List.getElem?_eq_some_iff.1 hx
  rw [← h2]
  rfl
theorem own_get {w : World} {b : Nat} {e : TypeId} {a : Option Addr} {n c : Nat} {xs : List Value} (h : w.ownsRow b e 1 (.slice a n c) n xs) {j : Nat} {v : Value} (hv : xs[j]? = some v) : ∃ g, a = some ⟨g, 0, none⟩ ∧ w.cell? ⟨g, j, none⟩ = some v := by
  rcases h.2 with ⟨e1, e2⟩ | ⟨g, cap, cur, e1, e2, e3, e4, e5, e6, e7⟩
  · have := h.1
    have hj := (List.getElem?_eq_some_iff.1 hv).1
    omega
  · injection e1 with e1 e1' e1''
    refine ⟨g, e1, ?_⟩
    rw [← e7, List.getElem?_take] at hv
    split at hv
    · exact cell_blk e3 _ (by simpa using hv)
    · cases hv
theorem more_nil (n : Nat) : more [] n = decide (0 < n) := rfl
theorem more_last (z : List Nat) (m n : Nat) : more (z ++ [m]) n = decide (m < n) := by unfold more; rw [List.getLast?_concat]
set_option maxRecDepth 100000 in
set_option maxHeartbeats 4000000 in
theorem ends_any (s : List UInt8) (w : World) (hl : s.length ≤ 1048576) :
    Calls Tryz.prog 5 #[.string (ba s)] w fun e w' => ∃ a c, e = .returned (.slice a (endsR 0 s).length c) ∧ w'.ownsRow w.heap.size 3 1 (.slice a (endsR 0 s).length c) (endsR 0 s).length (ivs (endsR 0 s)) ∧ Below w.heap.size w w' := by
  obtain ⟨i0, hi, hz0, hz1, hz2⟩ := info_parts_int
  have HR := hide (endsR_is s)
  have hbs : (ba s).size = s.length := ba_size s
  generalize hn : s.length = n at *
  have HN := hide hn
  generalize hR : endsR 0 s = R at *
  clear hn hR
  go_enter Tryz.func5, Tryz.ntmps5
  go_wp2_with fail
  go_loopw [3, 4] (fun v iv wr => ∃ (i : Nat) (z : List Nat), iv = .int .i64 (i : Nat) ∧ i ≤ n ∧ Hid (z = endsA 0 (s.take i)) ∧ z.length ≤ i ∧ wr.ownsRow w.heap.size 3 1 v z.length (ivs z) ∧ Hid (Below w.heap.size w wr)) (fun _ iv _ => n - (intOf iv).toNat)
  case atStart => exact ⟨0, [], rfl, Nat.zero_le _, rfl, Nat.le_refl _, World.ownsRow_nil w _ _ _, Below.refl _ _⟩
  case round =>
    obtain ⟨i, z, rfl, hin, HZ, hzl, hown, HB⟩ := hrel
    obtain ⟨va, vc, rfl⟩ := own_shape hown
    have HOW := hide hown
    clear hown
    have hbz := HB.out.size
    by_cases hlt : i < n
    · obtain ⟨x, hx⟩ : ∃ x, s[i]? = some x := ⟨_, List.getElem?_eq_getElem (by have := HN.out; omega)⟩
      have HTK : Hid (endsA 0 (s.take (i + 1)) = z ++ if x = 10 then [i + 1] else []) := by
        show _ = _
        rw [Gr.take_snoc s i x hx, endsA_snoc, ← HZ.out, List.length_take, show 0 + min i s.length + 1 = i + 1 by have := HN.out; omega]
      have hgx := ba_get s i (by omega) x hx
      by_cases h10 : x = 10
      · have hg10 : ((ba s)[i]'(by omega)).toNat = 10 := by rw [hgx, h10]; rfl
        rw [if_pos h10] at HTK
        clear hgx h10 hx
        go_wp2_with (first
          | (at_builtin; refine wpList_append_own _ rfl _ _ 25 rfl w.heap.size 3 i0 (.int .i64 0) 1 8 Tryz.underlying25 hi hz0 hz1 hz2 rfl (by decide) _ _ _ rfl (HOW.out.alloc _) ⟨wr.heap.size, 0, none⟩ 1 1 [.int .i64 ((i : Int) + 1)] rfl rfl (cells_one wr _) (fun u' hx => by simp at hx; subst hx; rfl) (by unfold maxLen; omega) (by omega) (by simp; omega) ?_; intro v' w3 hown' hgrow3 hnil3
             have HA3 : Aside (w3.ownsRow w.heap.size 3 1 v' (z.length + 1) (ivs z ++ [.int .i64 ((i : Int) + 1)]) ∧ Below w.heap.size w w3) := ⟨hown', Below.grown (HB.out.alloc hbz _) hgrow3 (by simp; omega) (fun j hj => (HOW.out.lt _ hj).1)⟩
             clear hown' hgrow3 hnil3))
        go_roundw
        · refine ⟨i + 1, z ++ [i + 1], by go_num, by omega, HTK.out.symm, by simp; omega, ?_, HA3.out.2⟩
          rw [show ivs (z ++ [i + 1]) = ivs z ++ [.int .i64 ((i : Int) + 1)] by simp [ivs], List.length_append, List.length_singleton]
          exact HA3.out.1
        · show n - ((i : Int) + 1).toNat < n - (i : Int).toNat
          omega
      · have hg10 : ((((ba s)[i]'(by omega)).toNat : Int) == 10) = false := by
          rw [hgx]
          simp only [beq_eq_false_iff_ne]
          intro e
          exact h10 (UInt8.toNat_inj.1 (by simpa using (show x.toNat = 10 by omega)))
        rw [if_neg h10, List.append_nil] at HTK
        clear hgx h10 hx
        go_wp2_with fail
        refine ⟨⟨i + 1, z, by go_num, by omega, HTK.out.symm, by omega, HOW.out, HB.out⟩, ?_⟩
        show n - ((i : Int) + 1).toNat < n - (i : Int).toNat
        omega
    · have hin2 : i = n := by omega
      subst hin2
      have hz : z = endsA 0 s := by rw [HZ.out, List.take_of_length_le (by have := HN.out; omega)]
      rw [← hz] at HR
      clear hz HZ
      rcases List.eq_nil_or_concat z with h0 | ⟨z', m, h0⟩
      · subst h0
        rw [more_nil] at HR
        simp only [List.length_nil] at *
        by_cases hi0 : 0 < i
        · have HR2 : Hid (R = [i]) := by show _ = _; rw [HR.out, if_pos (decide_eq_true hi0)]; rfl
          clear HR
          go_wp2_with (first
          | (at_builtin; refine wpList_append_own _ rfl _ _ 25 rfl w.heap.size 3 i0 (.int .i64 0) 1 8 Tryz.underlying25 hi hz0 hz1 hz2 rfl (by decide) _ _ _ rfl (HOW.out.alloc _) ⟨wr.heap.size, 0, none⟩ 1 1 [.int .i64 (i : Int)] rfl rfl (cells_one wr _) (fun u' hx => by simp at hx; subst hx; rfl) (by unfold maxLen; omega) (by omega) (by simp; omega) ?_; intro v' w3 hown' hgrow3 hnil3
             have HA3 : Aside (w3.ownsRow w.heap.size 3 1 v' (0 + 1) (ivs [] ++ [.int .i64 (i : Int)]) ∧ Below w.heap.size w w3) := ⟨hown', Below.grown (HB.out.alloc hbz _) hgrow3 (by simp; omega) (fun j hj => (HOW.out.lt _ hj).1)⟩
             clear hown' hgrow3 hnil3))
          obtain ⟨va', vc', rfl⟩ := own_shape HA3.out.1
          go_wp2_with fail
          go_ret
          rw [HR2.out]
          exact ⟨_, _, rfl, HA3.out.1, HA3.out.2⟩
        · have HR2 : Hid (R = []) := by show _ = _; rw [HR.out, if_neg (by simpa using hi0)]
          clear HR
          go_wp2_with fail
          go_ret
          rw [HR2.out]
          exact ⟨_, _, rfl, HOW.out, HB.out⟩
      · rw [List.concat_eq_append] at h0
        subst h0
        rw [more_last] at HR
        rw [show (z' ++ [m]).length = z'.length + 1 by simp] at *
        have how := HOW.out
        obtain ⟨g, hg1, hg2⟩ := own_get how (j := z'.length) (v := .int .i64 (m : Int)) (by simp [ivs])
        subst hg1
        have HZS : Hid (∀ k : Nat, ivs (z' ++ [m] ++ [k]) = ivs (z' ++ [m]) ++ [.int .i64 (k : Int)]) := fun k => by show _ = _; simp [ivs]
        have HZL : Hid ((z' ++ [m]).length = z'.length + 1) := by show _ = _; simp
        clear how
        generalize hzs : ivs (z' ++ [m]) = zs at *
        have HZ2 := hide hzs
        generalize z' ++ [m] = zm at *
        generalize z'.length = zl at *
        clear hzs
        by_cases hi0 : m < i
        · have HR2 : Hid (R = zm ++ [i]) := by show _ = _; rw [HR.out, if_pos (decide_eq_true hi0)]
          clear HR
          go_wp2_with (first
            | (at_builtin; refine wpList_append_own _ rfl _ _ 25 rfl w.heap.size 3 i0 (.int .i64 0) 1 8 Tryz.underlying25 hi hz0 hz1 hz2 rfl (by decide) _ _ _ rfl (HOW.out.alloc _) ⟨wr.heap.size, 0, none⟩ 1 1 [.int .i64 (i : Int)] rfl rfl (cells_one wr _) (fun u' hx => by simp at hx; subst hx; rfl) (by unfold maxLen; omega) (by omega) (by simp; omega) ?_; intro v' w3 hown' hgrow3 hnil3
               have HA3 : Aside (w3.ownsRow w.heap.size 3 1 v' (zl + 1 + 1) (zs ++ [.int .i64 (i : Int)]) ∧ Below w.heap.size w w3) := ⟨hown', Below.grown (HB.out.alloc hbz _) hgrow3 (by simp; omega) (fun j hj => (HOW.out.lt _ hj).1)⟩
               clear hown' hgrow3 hnil3))
          obtain ⟨va', vc', rfl⟩ := own_shape HA3.out.1
          go_wp2_with fail
          go_ret
          rw [HR2.out, HZS.out, List.length_append, HZL.out]
          exact ⟨_, _, rfl, HA3.out.1, HA3.out.2⟩
        · have HR2 : Hid (R = zm) := by show _ = _; rw [HR.out, if_neg (by simpa using hi0)]
          clear HR
          go_wp2_with fail
          go_ret
          rw [HR2.out, HZL.out, HZ2.out]
          exact ⟨_, _, rfl, HOW.out, HB.out⟩
end U
end Go.Proofs.YtkmnfmgodajjpaaGreatDoor
