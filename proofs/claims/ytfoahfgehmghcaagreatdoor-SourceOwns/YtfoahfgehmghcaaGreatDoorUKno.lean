import Derived.Test.YtfoahfgehmghcaaGreatDoorSOw
import Derived.Test.YtfoahfgehmghcaaGreatDoorUPar
import Derived.Test.YtfoahfgehmghcaaGreatDoorUTx5
import Derived.Test.YtfoahfgehmghcaaGreatDoorUChk
/- Law own of package source, of three plans that were read. -/
namespace Go.Proofs.YtfoahfgehmghcaaGreatDoor
namespace So
open Go.RowKit

def prNm (r : (Nat × Nat) ⊕ U.Pl) : ByteArray := match r with
  | .inl _ => ⟨#[]⟩
  | .inr q => U.ba q.nm
def prDl (r : (Nat × Nat) ⊕ U.Pl) : Int := match r with
  | .inl _ => 0
  | .inr q => q.dl
def prEs (r : (Nat × Nat) ⊕ U.Pl) : List Gr.No := match r with
  | .inl _ => []
  | .inr q => q.nds.map U.no
def prP (r : (Nat × Nat) ⊕ U.Pl) : Nat := match r with
  | .inl x => x.1
  | .inr _ => 0
def prC (r : (Nat × Nat) ⊕ U.Pl) : Nat := match r with
  | .inl x => x.2
  | .inr _ => 0
/-- what either Parse answers -/
theorem pe_any {r : (Nat × Nat) ⊕ U.Pl} {w : World} {e : Ending} {w' : World} (h : U.ParseEnd r w e w') : ∃ (a : Option Addr) (n c : Nat) (xs : List Gr.No), e = .returned (.tuple #[.agg #[.string (prNm r), .int .i64 (prDl r), .slice a n c], .int .i64 (prP r : Nat), .int .i64 (prC r : Nat)]) ∧ Below w.heap.size w w' ∧ Gr.RdP w'.heap.size w' (a, n, c) xs ∧ xs.map U.er = prEs r := by
  obtain ⟨hb, h⟩ := h
  rcases h with ⟨p, c, rfl, rfl⟩ | ⟨q, va, vc, rfl, rfl, hN, hl⟩
  · exact ⟨none, 0, 0, [], rfl, hb, ⟨rfl, by simp, .inl rfl, fun x hx => by cases hx⟩, rfl⟩
  · obtain ⟨xs, hxs, hrp⟩ := hN.rd hl
    exact ⟨va, q.nds.length, vc, xs, rfl, hb, hrp, hxs⟩
theorem own_c0 {w : World} {b e s n : Nat} {a : Option Addr} {c : Nat} {xs : List Value} (h : w.ownsRow b e s (.slice a n c) n xs) : a = none → c = 0 := fun ha => by
  rcases h.2 with ⟨e, _⟩ | ⟨g, cap, cur, e, _⟩
  · injection e
  · subst ha
    cases e
/-- the nodes of a plan that was read: its row and its lists the caller's alone, in blocks from B up to U -/
structure Nx (B M : Nat) (w : World) (s : Option Addr × Nat × Nat) (xs : List Gr.No) : Prop where
  len : s.2.1 = xs.length
  few : xs.length ≤ 1000000
  row : w.ownsRow B 32 10 (sv s) xs.length (U.flat (xs.map (·.q)))
  up : ∀ g, (sv s).ownBlock = some g → g < M
  ls : ∀ x ∈ xs, U.LsO B M w x.q.ne x.nl ∧ U.LsO B M w x.q.af x.al
  ap : U.ApX xs
variable {B M : Nat} {w w' : World} {s : Option Addr × Nat × Nat} {xs : List Gr.No}
theorem Nx.below (h : Nx B M w s xs) (k : Below w.heap.size w w') : Nx B M w' s xs :=
  ⟨h.len, h.few, U.own_below h.row k, h.up, fun x hx => ⟨(h.ls x hx).1.below k, (h.ls x hx).2.below k⟩, h.ap⟩
theorem Nx.rd (h : Nx B M w s xs) : Gr.RdP w.heap.size w s xs := by
  obtain ⟨a, n, c⟩ := s
  have hn : n = xs.length := h.len
  subst hn
  have hf := h.few
  refine ⟨rfl, by show xs.length ≤ _; omega, ?_, fun x hx => ⟨(h.ls x hx).1.ls.rd, (h.ls x hx).2.ls.rd⟩⟩
  by_cases e : xs.length = 0
  · exact .inl e
  · right
    obtain ⟨g, cap, hv⟩ := own_form h.row (by omega)
    have hr := h.row
    unfold sv at hv hr
    injection hv with h1 h2 h3
    have h1 : a = some ⟨g, 0, none⟩ := h1
    subst h1
    refine ⟨g, 0, rfl, (h.row.lt g rfl).2, fun i x hx j u hu => ?_⟩
    rw [Nat.zero_add]
    exact nd_cell hr hx hu
/-- what Parse answers, its lists the caller's -/
theorem px_any {r : (Nat × Nat) ⊕ U.Pl} {w : World} {e : Ending} {w' : World} (h : U.ParseOwn r w e w') : ∃ (s : Option Addr × Nat × Nat) (xs : List Gr.No), e = .returned (.tuple #[.agg #[.string (prNm r), .int .i64 (prDl r), .slice s.1 s.2.1 s.2.2], .int .i64 (prP r : Nat), .int .i64 (prC r : Nat)]) ∧ Below w.heap.size w w' ∧ Nx w.heap.size w'.heap.size w' s xs ∧ xs.map U.er = prEs r := by
  obtain ⟨hb, h⟩ := h
  rcases h with ⟨p, c, rfl, rfl⟩ | ⟨q, va, vc, rfl, rfl, ⟨M0, xs, h1, h2, h3, h4⟩, hl⟩
  · exact ⟨(none, 0, 0), [], rfl, hb, ⟨rfl, by simp, World.ownsRow_nil _ _ _ _, (fun g e => by cases e), (fun x hx => by cases hx), (fun i j x y k l g hx => by simp at hx)⟩, rfl⟩
  · have hx : xs.length = q.nds.length := by simpa using congrArg List.length h1
    refine ⟨(va, q.nds.length, vc), xs, rfl, hb, ⟨hx.symm, by omega, h2, fun g e => (h2.lt g e).2, fun x hx => ⟨⟨(h3 x hx).1.1, (h3 x hx).1.2.1, fun g e => ((h3 x hx).1.2.1.lt g e).2⟩, ⟨(h3 x hx).2.1, (h3 x hx).2.2.1, fun g e => ((h3 x hx).2.2.1.lt g e).2⟩⟩, h4⟩, h1⟩
/-- two lists do not share a block -/
def Rp (p q : Option Addr × Nat × Nat) : Prop := ∀ g, (sv p).ownBlock = some g → (sv q).ownBlock ≠ some g
theorem Rp.symm {p q : Option Addr × Nat × Nat} (h : Rp p q) : Rp q p := fun g e1 e2 => h g e2 e1
theorem Nx.pair (h : Nx B M w s xs) : (lsN xs).Pairwise Rp := by
  unfold lsN
  rw [List.pairwise_flatMap]
  refine ⟨fun x hx => ?_, ?_⟩
  · obtain ⟨i, hi⟩ := List.mem_iff_getElem?.1 hx
    refine List.pairwise_pair.2 fun g e1 e2 => ?_
    exact absurd (h.ap i i x x false true g hi hi e1 e2).2 (by decide)
  · refine List.pairwise_iff_getElem.2 fun i j hi hj hij p hp q hq g e1 e2 => ?_
    have gi : xs[i]? = some xs[i] := List.getElem?_eq_getElem hi
    have gj : xs[j]? = some xs[j] := List.getElem?_eq_getElem hj
    simp only [List.mem_cons, List.not_mem_nil, or_false] at hp hq
    have : i = j := by
      rcases hp with rfl | rfl <;> rcases hq with rfl | rfl
      · exact (h.ap i j _ _ false false g gi gj e1 e2).1
      · exact (h.ap i j _ _ false true g gi gj e1 e2).1
      · exact (h.ap i j _ _ true false g gi gj e1 e2).1
      · exact (h.ap i j _ _ true true g gi gj e1 e2).1
    omega
theorem Nx.mem (h : Nx B M w s xs) {p : Option Addr × Nat × Nat} (hp : p ∈ lsN xs) : p.2.1 ≤ 1000000 ∧ (∀ g, (sv p).ownBlock = some g → B ≤ g ∧ g < M) ∧ ∃ Z, w.ownsRow B 3 1 (sv p) p.2.1 Z := by
  obtain ⟨x, hx, hm⟩ := List.mem_flatMap.1 hp
  obtain ⟨h1, h2⟩ := h.ls x hx
  have key : ∀ {t : Option Addr × Nat × Nat} {z : List Int}, U.LsO B M w t z → t.2.1 ≤ 1000000 ∧ (∀ g, (sv t).ownBlock = some g → B ≤ g ∧ g < M) ∧ ∃ Z, w.ownsRow B 3 1 (sv t) t.2.1 Z := fun {t z} l => by
    have e : t.2.1 = z.length := l.ls.1
    refine ⟨by rw [e]; exact l.1, fun g hg => ⟨(l.2.1.lt g hg).1, l.2.2 g hg⟩, z.map (Value.int .i64), ?_⟩
    have h9 := l.2.1
    show w.ownsRow B 3 1 (.slice t.1 t.2.1 t.2.2) t.2.1 _
    rw [show t.2.1 = z.length from e] at h9 ⊢
    exact h9
  simp only [List.mem_cons, List.not_mem_nil, or_false] at hm
  rcases hm with rfl | rfl
  · exact key h1
  · exact key h2
/-- three of something -/
def tri {α : Type} (a b c : α) (j : Nat) : α := if j = 0 then a else if j = 1 then b else c
theorem tri_all {α : Type} {P : α → Prop} {a b c : α} (h1 : P a) (h2 : P b) (h3 : P c) (j : Nat) : P (tri a b c j) := by
  unfold tri
  split
  · exact h1
  · split
    · exact h2
    · exact h3
set_option maxRecDepth 100000 in
theorem own_three (B0 B1 U1 B2 U2 B3 U3 G : Nat) (s1 s2 s3 : Option Addr × Nat × Nat) (x1 x2 x3 : List Gr.No) (w : World) (m1 m2 m3 : ByteArray) (d1 d2 d3 : Int) (h1 : Nx B1 U1 w s1 x1) (h2 : Nx B2 U2 w s2 x2) (h3 : Nx B3 U3 w s3 x3) (hb1 : B0 ≤ B1) (hb2 : U1 ≤ B2) (hb3 : U2 ≤ B3) (hb4 : B1 ≤ B2) (hb5 : B2 ≤ B3)
    (hG : w.heap[G]? = some (.cells #[.string m1, .int .i64 d1, .slice s1.1 s1.2.1 s1.2.2, .string m2, .int .i64 d2, .slice s2.1 s2.2.1 s2.2.2, .string m3, .int .i64 d3, .slice s3.1 s3.2.1 s3.2.2] 24 (0, 0))) :
    Calls Tryz.prog 13 #[.slice (some ⟨G, 0, none⟩) 3 3] w fun e w' => e = .returned (.bool true) ∧ Keep (fun k => B0 ≤ k) w w' := by
  have h3' : ∀ {j : Nat}, j < 3 → j = 0 ∨ j = 1 ∨ j = 2 := fun h => by omega
  have hX : lsP (tri x1 x2 x3) 3 = lsN x1 ++ lsN x2 ++ lsN x3 := rfl
  have hpw : (lsP (tri x1 x2 x3) 3).Pairwise Rp := by
    rw [hX, List.pairwise_append, List.pairwise_append]
    refine ⟨⟨h1.pair, h2.pair, fun p hp q hq g e1 e2 => ?_⟩, h3.pair, fun p hp q hq g e1 e2 => ?_⟩
    · have a1 := (h1.mem hp).2.1 g e1
      have a2 := (h2.mem hq).2.1 g e2
      omega
    · have a2 := (h3.mem hq).2.1 g e2
      rcases List.mem_append.1 hp with hp | hp
      · have a1 := (h1.mem hp).2.1 g e1
        have a3 : B2 ≤ U2 ∨ U2 < B2 := by omega
        omega
      · have a1 := (h2.mem hp).2.1 g e1
        omega
  have hmem : ∀ p ∈ lsP (tri x1 x2 x3) 3, p.2.1 ≤ 1000000 ∧ ∃ Z, w.ownsRow B0 3 1 (sv p) p.2.1 Z := fun p hp => by
    rw [hX] at hp
    rcases List.mem_append.1 hp with hp | hp
    · rcases List.mem_append.1 hp with hp | hp
      · obtain ⟨a1, _, Z, a2⟩ := h1.mem hp
        exact ⟨a1, Z, ownsRow_base a2 hb1⟩
      · obtain ⟨a1, _, Z, a2⟩ := h2.mem hp
        exact ⟨a1, Z, ownsRow_base a2 (by omega)⟩
    · obtain ⟨a1, _, Z, a2⟩ := h3.mem hp
      exact ⟨a1, Z, ownsRow_base a2 (by omega)⟩
  have hget : ∀ t, t < (lsP (tri x1 x2 x3) 3).length → (lsP (tri x1 x2 x3) 3)[t]? = some ((lsP (tri x1 x2 x3) 3).getD t (none, 0, 0)) := fun t ht => by
    rw [List.getElem?_eq_getElem ht, List.getD_eq_getElem?_getD, List.getElem?_eq_getElem ht]
    rfl
  have hz : ∀ t, ∃ Z : List Value, t < (lsP (tri x1 x2 x3) 3).length → w.ownsRow B0 3 1 (sv ((lsP (tri x1 x2 x3) 3).getD t (none, 0, 0))) ((lsP (tri x1 x2 x3) 3).getD t (none, 0, 0)).2.1 Z := fun t => by
    by_cases ht : t < (lsP (tri x1 x2 x3) 3).length
    · obtain ⟨_, Z, hZ⟩ := hmem _ (List.mem_of_getElem? (hget t ht))
      exact ⟨Z, fun _ => hZ⟩
    · exact ⟨[], fun h => absurd h ht⟩
  obtain ⟨Z, hZ⟩ := Classical.axiomOfChoice hz
  refine own_any B0 G (lsP (tri x1 x2 x3) 3).length (fun j => (tri s1 s2 s3 j).1) (fun j => (tri s1 s2 s3 j).2.1) (fun j => (tri s1 s2 s3 j).2.2) (tri x1 x2 x3) (fun t => ((lsP (tri x1 x2 x3) 3).getD t (none, 0, 0)).1) (fun t => ((lsP (tri x1 x2 x3) 3).getD t (none, 0, 0)).2.1) (fun t => ((lsP (tri x1 x2 x3) 3).getD t (none, 0, 0)).2.2) Z _ w hG ?_ ?_ ?_ ?_ ?_ rfl ?_ ?_ ?_ ?_
  · intro j hj
    rcases h3' hj with rfl | rfl | rfl <;> rfl
  · intro j hj
    rcases h3' hj with rfl | rfl | rfl
    · have e := h1.len; have f := h1.few; show s1.2.1 ≤ _; omega
    · have e := h2.len; have f := h2.few; show s2.2.1 ≤ _; omega
    · have e := h3.len; have f := h3.few; show s3.2.1 ≤ _; omega
  · intro j hj
    rcases h3' hj with rfl | rfl | rfl
    · have r := ownsRow_base h1.row hb1; rw [← h1.len] at r; exact r
    · have r := ownsRow_base h2.row (show B0 ≤ B2 by omega); rw [← h2.len] at r; exact r
    · have r := ownsRow_base h3.row (show B0 ≤ B3 by omega); rw [← h3.len] at r; exact r
  · intro j hj
    rcases h3' hj with rfl | rfl | rfl
    · exact h1.len.symm
    · exact h2.len.symm
    · exact h3.len.symm
  · have f1 : ∀ g, (sv s1).ownBlock = some g → B1 ≤ g ∧ g < U1 := fun g e => ⟨(h1.row.lt g e).1, h1.up g e⟩
    have f2 : ∀ g, (sv s2).ownBlock = some g → B2 ≤ g ∧ g < U2 := fun g e => ⟨(h2.row.lt g e).1, h2.up g e⟩
    have f3 : ∀ g, (sv s3).ownBlock = some g → B3 ≤ g ∧ g < U3 := fun g e => ⟨(h3.row.lt g e).1, h3.up g e⟩
    have key : ∀ j, j < 3 → ∀ g, (sv (tri s1 s2 s3 j)).ownBlock = some g → (j = 0 ∧ B1 ≤ g ∧ g < U1) ∨ (j = 1 ∧ B2 ≤ g ∧ g < U2) ∨ (j = 2 ∧ B3 ≤ g ∧ g < U3) := fun j hj g e => by
      rcases h3' hj with rfl | rfl | rfl
      · exact .inl ⟨rfl, f1 g e⟩
      · exact .inr (.inl ⟨rfl, f2 g e⟩)
      · exact .inr (.inr ⟨rfl, f3 g e⟩)
    intro j k g hj hk hne e1 e2
    have a1 := key j hj g e1
    have a2 := key k hk g e2
    omega
  · intro t ht
    exact hget t ht
  · intro t ht
    exact (hmem _ (List.mem_of_getElem? (hget t ht))).1
  · intro t ht
    exact hZ t ht
  · intro j k g hj hk hne e1 e2
    have gj := List.getElem?_eq_some_iff.1 (hget j hj)
    have gk := List.getElem?_eq_some_iff.1 (hget k hk)
    obtain ⟨_, gj⟩ := gj
    obtain ⟨_, gk⟩ := gk
    have pw := List.pairwise_iff_getElem.1 hpw
    rcases Nat.lt_or_gt_of_ne hne with h | h
    · have := pw j k hj hk h
      rw [gj, gk] at this
      exact this g e1 e2
    · have := pw k j hk hj h
      rw [gj, gk] at this
      exact this g e2 e1
end So
end Go.Proofs.YtfoahfgehmghcaaGreatDoor

/- Chapter 11: a plan that is written is read as itself: the mathematics. -/
namespace Go.Proofs.YtfoahfgehmghcaaGreatDoor
namespace U
namespace Bk
open Go.RowKit

/-! ## words and lines -/
/-- a word that can stand in a line -/
def Gw (w : List UInt8) : Prop := w ≠ [] ∧ ∀ b ∈ w, b ≠ 32 ∧ b ≠ 9 ∧ b ≠ 35 ∧ b ≠ 10
theorem isBl_no {b : UInt8} (h1 : b ≠ 32) (h2 : b ≠ 9) : isBl b = false := by simp [isBl, h1, h2]
theorem wordsA_word : ∀ (u cur r : List UInt8), (∀ b ∈ u, b ≠ 32 ∧ b ≠ 9) → wordsA cur (u ++ r) = wordsA (cur ++ u) r
  | [], cur, r, _ => by simp
  | b :: u, cur, r, h => by
    rw [List.cons_append, wordsA, isBl_no (h b (by simp)).1 (h b (by simp)).2]
    simp only [Bool.false_eq_true, if_false]
    rw [wordsA_word u _ r fun c hc => h c (List.mem_cons_of_mem _ hc), List.append_assoc, List.singleton_append]
theorem words_end {u : List UInt8} (h : Gw u) : words u = [u] := by
  have := wordsA_word u [] [] fun b hb => ⟨(h.2 b hb).1, (h.2 b hb).2.1⟩
  rw [List.append_nil, List.nil_append] at this
  rw [words, this, wordsA]
  simp [h.1]
theorem words_more {u : List UInt8} (h : Gw u) (r : List UInt8) : words (u ++ 32 :: r) = u :: words r := by
  have := wordsA_word u [] (32 :: r) fun b hb => ⟨(h.2 b hb).1, (h.2 b hb).2.1⟩
  rw [List.nil_append] at this
  rw [words, this, wordsA]
  simp [isBl, h.1, words]
theorem join_cons (u v : List UInt8) (ws : List (List UInt8)) : Lib.join (u :: v :: ws) [32] = u ++ 32 :: Lib.join (v :: ws) [32] := by
  simp [Lib.join, List.intercalate]
theorem join_one (u : List UInt8) : Lib.join [u] [32] = u := by simp [Lib.join, List.intercalate]
theorem words_join : ∀ (ws : List (List UInt8)), ws ≠ [] → (∀ u ∈ ws, Gw u) → words (Lib.join ws [32]) = ws
  | [], h, _ => absurd rfl h
  | [u], _, h => by rw [join_one, words_end (h u (by simp))]
  | u :: v :: ws, _, h => by
    rw [join_cons, words_more (h u (by simp)), words_join (v :: ws) (by simp) fun x hx => h x (List.mem_cons_of_mem _ hx)]
theorem ahead_no (c : UInt8) : ∀ (l : List UInt8), c ∉ l → ahead c l = l
  | [], _ => rfl
  | b :: l, h => by
    simp only [List.mem_cons, not_or] at h
    rw [ahead, if_neg (fun e => h.1 e.symm), ahead_no c l h.2]
theorem join_no (c : UInt8) (hc : c ≠ 32) : ∀ (ws : List (List UInt8)), (∀ u ∈ ws, c ∉ u) → c ∉ Lib.join ws [32]
  | [], _ => by simp [Lib.join, List.intercalate]
  | [u], h => by rw [join_one]; exact h u (by simp)
  | u :: v :: ws, h => by
    rw [join_cons]
    simp only [List.mem_append, List.mem_cons, not_or]
    exact ⟨h u (by simp), hc, join_no c hc (v :: ws) fun x hx => h x (List.mem_cons_of_mem _ hx)⟩
theorem gw_no35 {ws : List (List UInt8)} (h : ∀ u ∈ ws, Gw u) : 35 ∉ Lib.join ws [32] := join_no 35 (by decide) ws fun u hu hc => ((h u hu).2 35 hc).2.2.1 rfl
theorem gw_no10 {ws : List (List UInt8)} (h : ∀ u ∈ ws, Gw u) : 10 ∉ Lib.join ws [32] := join_no 10 (by decide) ws fun u hu hc => ((h u hu).2 10 hc).2.2.2 rfl
/-- the words of a line of words -/
theorem wordsOf_join {ws : List (List UInt8)} (hne : ws ≠ []) (h : ∀ u ∈ ws, Gw u) : wordsOf (Lib.join ws [32]) = ws := by
  rw [wordsOf, ahead_no _ _ (gw_no35 h), words_join ws hne h]
/-- two blanks ahead of a line -/
theorem join_two (u : List UInt8) (ws : List (List UInt8)) : Lib.join ((32 :: 32 :: u) :: ws) [32] = 32 :: 32 :: Lib.join (u :: ws) [32] := by
  cases ws with
  | nil => simp [join_one]
  | cons v ws => simp [join_cons]
theorem wordsOf_two (l : List UInt8) : wordsOf (32 :: 32 :: l) = wordsOf l := by
  simp [wordsOf, ahead, words, wordsA, isBl]
theorem splitOn_line (c : UInt8) : ∀ (l r : List UInt8), c ∉ l → splitOn c (l ++ c :: r) = l :: splitOn c r
  | [], r, _ => by simp [splitOn]
  | b :: l, r, h => by
    simp only [List.mem_cons, not_or] at h
    rw [List.cons_append, splitOn, if_neg (fun e => h.1 e.symm), splitOn_line c l r h.2]

/-! ## numbers -/
theorem dec_small {u : Nat} (h : u < 10) : Lib.decDigits u = [UInt8.ofNat (48 + u)] := Lib.decDigits_one h
theorem dec_big {u : Nat} (h : ¬ u < 10) : Lib.decDigits u = Lib.decDigits (u / 10) ++ [UInt8.ofNat (48 + u % 10)] := by rw [Lib.decDigits, dif_neg h]
theorem dig_nat {k : Nat} (h : k < 10) : (UInt8.ofNat (48 + k)).toNat = 48 + k := by
  rw [UInt8.toNat_ofNat']
  omega
theorem numL_end (f : Bool) (n : Nat) (k : Nat) (hk : k < 10) (hf : f = true ∨ n ≠ 0) (hn : n * 10 + k ≤ 4611686018427387903) : numL f n [UInt8.ofNat (48 + k)] = some (n * 10 + k) := by
  have e := dig_nat hk
  simp only [numL, digB, e]
  rw [if_pos ⟨by simp; omega, hf, by omega⟩]
  congr 1
  omega
theorem numL_app : ∀ (l r : List UInt8) (f : Bool) (n m : Nat), l ≠ [] → numL f n l = some m → numL f n (l ++ r) = numL false m r
  | [], _, _, _, _, h, _ => absurd rfl h
  | [b], r, f, n, m, _, h => by
    simp only [numL] at h
    split at h
    · rename_i c
      simp only [Option.some.injEq] at h
      subst h
      rw [List.singleton_append, numL, if_pos c]
    · cases h
  | b :: c :: l, r, f, n, m, _, h => by
    rw [numL] at h
    split at h
    · rename_i g
      rw [List.cons_append, numL, if_pos g]
      exact numL_app (c :: l) r false _ m (by simp) h
    · cases h
theorem dec_ne (u : Nat) : Lib.decDigits u ≠ [] := by
  by_cases h : u < 10
  · rw [dec_small h]; simp
  · rw [dec_big h]; simp
theorem num_dec : ∀ (u : Nat), u ≤ 4611686018427387903 → numL true 0 (Lib.decDigits u) = some u := by
  intro u
  induction u using Nat.strongRecOn with
  | _ u ih =>
    intro hu
    by_cases h : u < 10
    · rw [dec_small h, numL_end true 0 u h (.inl rfl) (by omega)]
      congr 1
      omega
    · rw [dec_big h, numL_app _ _ _ _ (u / 10) (dec_ne _) (ih (u / 10) (by omega) (by omega)), numL_end false (u / 10) (u % 10) (by omega) (.inr (by omega)) (by omega)]
      congr 1
      omega
/-- a number that may stand in a text -/
def Nn (n : Int) : Prop := 0 ≤ n ∧ n ≤ 1099511627776
theorem itoa_nn {n : Int} (h : 0 ≤ n) : Lib.itoa n = Lib.decDigits n.toNat := by rw [Lib.itoa, if_neg (by omega)]
theorem num_itoa {n : Int} (h : Nn n) : num (Lib.itoa n) = some n.toNat := by
  rw [itoa_nn h.1, num, if_neg (dec_ne _), num_dec _ (by have := h.2; omega)]
theorem dec_bytes : ∀ (u : Nat), ∀ b ∈ Lib.decDigits u, 48 ≤ b.toNat ∧ b.toNat ≤ 57 := by
  intro u
  induction u using Nat.strongRecOn with
  | _ u ih =>
    intro b hb
    by_cases h : u < 10
    · rw [dec_small h] at hb
      simp only [List.mem_singleton] at hb
      subst hb
      rw [dig_nat h]
      omega
    · rw [dec_big h] at hb
      rcases List.mem_append.1 hb with hb | hb
      · exact ih (u / 10) (by omega) b hb
      · simp only [List.mem_singleton] at hb
        subst hb
        rw [dig_nat (by omega)]
        omega
theorem byte_ne {b c : UInt8} (h : b.toNat ≠ c.toNat) : b ≠ c := fun e => h (by rw [e])
theorem gw_itoa {n : Int} (h : Nn n) : Gw (Lib.itoa n) := by
  rw [itoa_nn h.1]
  refine ⟨dec_ne _, fun b hb => ?_⟩
  obtain ⟨h1, h2⟩ := dec_bytes _ b hb
  refine ⟨byte_ne ?_, byte_ne ?_, byte_ne ?_, byte_ne ?_⟩ <;> simp <;> omega
theorem gw_name {l : List UInt8} (h : nmL l = true) : Gw l := by
  simp only [nmL, Bool.and_eq_true, decide_eq_true_eq] at h
  refine ⟨fun e => by rw [e] at h; simp at h, fun b hb => ?_⟩
  have g := List.all_eq_true.1 h.2 b hb
  simp only [Gr.inNm, Bool.or_eq_true, Bool.and_eq_true, decide_eq_true_eq] at g
  refine ⟨byte_ne ?_, byte_ne ?_, byte_ne ?_, byte_ne ?_⟩ <;> simp <;> omega
theorem itoa_len {n : Int} (h : Nn n) : (Lib.itoa n).length ≤ 13 := by
  rw [itoa_nn h.1, Lib.decDigits_length]
  by_cases c : n.toNat < 10 ^ 12
  · have : ∀ (k u : Nat), u < 10 ^ k → Lib.nDigits u ≤ k + 1 := by
      intro k
      induction k with
      | zero => intro u hu; rw [Lib.nDigits_small (by omega)]; omega
      | succ k ih =>
        intro u hu
        by_cases d : u < 10
        · rw [Lib.nDigits_small d]; omega
        · rw [Lib.nDigits_big d]
          have := ih (u / 10) (by rw [Nat.pow_succ] at hu; omega)
          omega
    have := this 12 _ c
    omega
  · rw [Lib.nDigits_unique 12 n.toNat (by omega) (by have := h.2; omega)]
    omega

/-! ## what is written, over nodes as a text says them -/
def nameP (nds : List Pn) (e : Int) : List UInt8 := match nds[e.toNat]? with
  | some x => x.nm
  | none => []
def edgeP (first : List UInt8) (z : List Int) (nds : List Pn) : List UInt8 := if z = [] then [] else lineT (first :: z.map (nameP nds))
def nodeP (nds : List Pn) (x : Pn) : List UInt8 := lineT (nodeW x) ++ edgeP kwNeeds2 x.nl nds ++ edgeP kwAfter2 x.al nds
def textP (nm : List UInt8) (dl : Int) (nds : List Pn) : List UInt8 := lineT (planW nm dl) ++ (nds.map (nodeP nds)).flatten
/-- rising, in bounds -/
def Ris (n : Nat) : Int → List Int → Prop
  | _, [] => True
  | a, x :: z => a < x ∧ x < n ∧ Ris n x z
/-- a node that may be written -/
structure NdO (n : Nat) (x : Pn) : Prop where
  nm : nmL x.nm = true
  la : Nn x.la
  bu : Nn x.bu
  cl : Nn x.cl
  be : Nn x.be
  bs : Nn x.bs
  ca : Nn x.ca
  ji : Nn x.ji
  nl : Ris n (-1) x.nl
  al : Ris n (-1) x.al
/-- without its lists -/
def bare (x : Pn) : Pn := { x with nl := [], al := [] }
theorem tkName_ok {u : List UInt8} {ws : List (List UInt8)} (h : nmL u = true) : tkName (u :: ws, false) = (u, (ws, false)) := by simp [tkName, hd, h]
theorem tkNum_ok {n : Int} (h : Nn n) (kw : List UInt8) (ws : List (List UInt8)) : tkNum kw (kw :: Lib.itoa n :: ws, false) = (n, (ws, false)) := by
  have := h.1
  simp [tkNum, hd, num_itoa h]
  omega
theorem tkOpt_ok {n : Int} (h : Nn n) (kw : List UInt8) (z : Int) (ws : List (List UInt8)) : tkOpt kw z (kw :: Lib.itoa n :: ws, false) = (n, (ws, false)) := by
  rw [tkOpt, if_pos (by simp [hd]), tkNum_ok h]
theorem tkOpt_no {kw : List UInt8} {z : Int} {ws : List (List UInt8)} (h : hd ws ≠ kw) : tkOpt kw z (ws, false) = (z, (ws, false)) := by
  rw [tkOpt, if_neg h]
theorem wJit_hd (ji : Int) : hd (wJit ji) ≠ kwBeat ∧ hd (wJit ji) ≠ kwBack := by unfold wJit; split <;> simp [hd, kwBeat, kwBack, kwJit]
theorem wBack_hd (bs ca ji : Int) : hd (wBack bs ca ++ wJit ji) ≠ kwBeat := by
  unfold wBack
  split
  · exact (wJit_hd ji).1
  · simp [hd, kwBeat, kwBack]
/-- a node's words are read as that node -/
theorem rdNode_ok {n : Nat} {x : Pn} (h : NdO n x) : rdNode (nodeW x).tail = (bare x, ([], false)) := by
  have e : (nodeW x).tail = x.nm :: kwLane :: Lib.itoa x.la :: kwBudget :: Lib.itoa x.bu :: kwClose :: Lib.itoa x.cl :: (wBeat x.be ++ (wBack x.bs x.ca ++ wJit x.ji)) := by simp [nodeW, wNode]
  rw [e]
  unfold rdNode
  simp only [tkName_ok h.nm, tkNum_ok h.la, tkNum_ok h.bu, tkNum_ok h.cl]
  have f : tkOpt kwBeat 0 (wBeat x.be ++ (wBack x.bs x.ca ++ wJit x.ji), false) = (x.be, (wBack x.bs x.ca ++ wJit x.ji, false)) := by
    unfold wBeat
    split
    · rename_i c
      rw [List.nil_append, tkOpt_no (wBack_hd _ _ _), c]
    · rw [List.cons_append, List.cons_append, List.nil_append, tkOpt_ok h.be]
  rw [f]
  simp only
  have g : tkOpt kwJit 0 (wJit x.ji, false) = (x.ji, ([], false)) := by
    unfold wJit
    split
    · rename_i c
      rw [tkOpt_no (by simp [hd, kwJit]), c]
    · rw [tkOpt_ok h.ji]
  by_cases c : x.bs = 1 ∧ x.ca = 1
  · have e : wBack x.bs x.ca ++ wJit x.ji = wJit x.ji := by rw [wBack, if_pos c, List.nil_append]
    rw [e, tkOpt_no (wJit_hd _).2]
    simp only
    rw [if_neg (wJit_hd _).2]
    simp only [g]
    simp [bare, c.1, c.2]
  · have e : wBack x.bs x.ca ++ wJit x.ji = kwBack :: Lib.itoa x.bs :: kwTo :: Lib.itoa x.ca :: wJit x.ji := by rw [wBack, if_neg c]; rfl
    rw [e, tkOpt_ok h.bs]
    simp only
    rw [if_pos (by simp [hd]), tkNum_ok h.ca]
    simp only [g]
    rfl
theorem gw_kw : Gw kwPlan ∧ Gw kwNode ∧ Gw kwNeeds ∧ Gw kwAfter ∧ Gw kwDead ∧ Gw kwLane ∧ Gw kwBudget ∧ Gw kwClose ∧ Gw kwBeat ∧ Gw kwBack ∧ Gw kwTo ∧ Gw kwJit := by
  refine ⟨⟨?_, ?_⟩, ⟨?_, ?_⟩, ⟨?_, ?_⟩, ⟨?_, ?_⟩, ⟨?_, ?_⟩, ⟨?_, ?_⟩, ⟨?_, ?_⟩, ⟨?_, ?_⟩, ⟨?_, ?_⟩, ⟨?_, ?_⟩, ⟨?_, ?_⟩, ⟨?_, ?_⟩⟩ <;> decide
theorem gw_nodeW {n : Nat} {x : Pn} (h : NdO n x) : ∀ u ∈ nodeW x, Gw u := by
  obtain ⟨k1, k2, k3, k4, k5, k6, k7, k8, k9, k10, k11, k12⟩ := gw_kw
  have g1 := gw_itoa h.la
  have g2 := gw_itoa h.bu
  have g3 := gw_itoa h.cl
  have g4 := gw_itoa h.be
  have g5 := gw_itoa h.bs
  have g6 := gw_itoa h.ca
  have g7 := gw_itoa h.ji
  have g8 := gw_name h.nm
  intro u hu
  simp only [nodeW, wNode, wBeat, wBack, wJit, List.mem_append] at hu
  rcases hu with ((hu | hu) | hu) | hu
  · simp only [List.mem_cons, List.not_mem_nil, or_false] at hu
    rcases hu with rfl | rfl | rfl | rfl | rfl | rfl | rfl | rfl <;> assumption
  · split at hu
    · cases hu
    · simp only [List.mem_cons, List.not_mem_nil, or_false] at hu
      rcases hu with rfl | rfl <;> assumption
  · split at hu
    · cases hu
    · simp only [List.mem_cons, List.not_mem_nil, or_false] at hu
      rcases hu with rfl | rfl | rfl | rfl <;> assumption
  · split at hu
    · cases hu
    · simp only [List.mem_cons, List.not_mem_nil, or_false] at hu
      rcases hu with rfl | rfl <;> assumption
theorem gw_planW {nm : List UInt8} {dl : Int} (h1 : nmL nm = true) (h2 : Nn dl) : ∀ u ∈ planW nm dl, Gw u := by
  obtain ⟨k1, k2, k3, k4, k5, k6, k7, k8, k9, k10, k11, k12⟩ := gw_kw
  have g1 := gw_itoa h2
  have g2 := gw_name h1
  intro u hu
  simp only [planW, List.mem_cons, List.not_mem_nil, or_false] at hu
  rcases hu with rfl | rfl | rfl | rfl <;> assumption
theorem ris_mem {n : Nat} : ∀ {z : List Int} {a : Int}, Ris n a z → ∀ e ∈ z, a < e ∧ e < n
  | [], _, _, e, he => by cases he
  | x :: z, a, h, e, he => by
    rcases List.mem_cons.1 he with rfl | he
    · exact ⟨h.1, h.2.1⟩
    · have := ris_mem h.2.2 e he
      exact ⟨by have := h.1; omega, this.2⟩
theorem nameP_ok {nds : List Pn} (h : ∀ x ∈ nds, NdO nds.length x) {z : List Int} (hz : Ris nds.length (-1) z) : ∀ u ∈ z.map (nameP nds), nmL u = true := by
  intro u hu
  obtain ⟨e, he, rfl⟩ := List.mem_map.1 hu
  obtain ⟨h1, h2⟩ := ris_mem hz e he
  have hl : e.toNat < nds.length := by omega
  rw [nameP, List.getElem?_eq_getElem hl]
  exact (h _ (List.getElem_mem hl)).nm
/-- a line more is read -/
theorem readL_line {ws : List (List UInt8)} (hg : (10 : UInt8) ∉ Lib.join ws [32]) (p : Nat) (r : List UInt8) (d d' : Dr) (hs : step d p (wordsOf (Lib.join ws [32])) = some d') :
    readL p (splitOn 10 (lineT ws ++ r)) d = readL (p + 1) (splitOn 10 r) d' := by
  rw [lineT, List.append_assoc, List.singleton_append, splitOn_line _ _ _ hg, readL, hs]
/-- a line of needs or after is read -/
theorem read_edge (kind : Nat) (hk : kind = 0 ∨ kind = 1) {nds : List Pn} (h : ∀ x ∈ nds, NdO nds.length x) {z : List Int} (hz : Ris nds.length (-1) z) (p : Nat) (r : List UInt8) (d : Dr) (hn : d.nds ≠ []) (hf : (if kind = 0 then d.hn else d.ha) = false) :
    ∃ p' hn' ha', (kind = 0 → ha' = d.ha) ∧ readL p (splitOn 10 (edgeP (if kind = 0 then kwNeeds2 else kwAfter2) z nds ++ r)) d
      = readL p' (splitOn 10 r) { d with hn := hn', ha := ha', ms := d.ms ++ (if z = [] then [] else [⟨p, d.nds.length - 1, kind, z.map (nameP nds)⟩]) } := by
  by_cases c : z = []
  · refine ⟨p, d.hn, d.ha, fun _ => rfl, ?_⟩
    rw [edgeP, if_pos c, if_pos c]
    simp
  · have hnm := nameP_ok h hz
    have hg : ∀ u ∈ z.map (nameP nds), Gw u := fun u hu => gw_name (hnm u hu)
    have hall : (z.map (nameP nds)).all nmL = true := List.all_eq_true.2 hnm
    have hne : z.map (nameP nds) ≠ [] := by simp [c]
    obtain ⟨k1, k2, k3, k4, _⟩ := gw_kw
    have key : ∀ (kw kw2 : List UInt8), kw2 = 32 :: 32 :: kw → Gw kw → (10 : UInt8) ∉ Lib.join (kw2 :: z.map (nameP nds)) [32] ∧ wordsOf (Lib.join (kw2 :: z.map (nameP nds)) [32]) = kw :: z.map (nameP nds) := by
      intro kw kw2 e hkw
      have hga : ∀ u ∈ kw :: z.map (nameP nds), Gw u := by
        intro u hu
        rcases List.mem_cons.1 hu with rfl | hu
        · exact hkw
        · exact hg u hu
      rw [e, join_two]
      refine ⟨?_, ?_⟩
      · simp only [List.mem_cons, not_or]
        exact ⟨by decide, by decide, gw_no10 hga⟩
      · rw [wordsOf_two, wordsOf_join (by simp) hga]
    rcases hk with rfl | rfl
    · obtain ⟨a1, a2⟩ := key kwNeeds kwNeeds2 rfl k3
      refine ⟨p + 1, true, d.ha, fun _ => rfl, ?_⟩
      rw [edgeP, if_neg c, if_neg c, if_pos rfl, readL_line a1 p r d _ (by
        rw [a2, step, doLine, if_neg (by decide), if_neg (by decide), if_pos rfl, addMen, if_pos ⟨hn, hf, hne, hall⟩])]
      simp
    · obtain ⟨a1, a2⟩ := key kwAfter kwAfter2 rfl k4
      refine ⟨p + 1, d.hn, true, fun e => absurd e (by decide), ?_⟩
      rw [edgeP, if_neg c, if_neg c, if_neg (by decide), readL_line a1 p r d _ (by
        rw [a2, step, doLine, if_neg (by decide), if_neg (by decide), if_neg (by decide), if_pos rfl, addMen, if_pos ⟨hn, hf, hne, hall⟩])]
      simp
/-- what the mentions of a node are, but for their lines -/
def menK (nds : List Pn) (k : Nat) (x : Pn) : List (Nat × Nat × List (List UInt8)) :=
  (if x.nl = [] then [] else [(k, 0, x.nl.map (nameP nds))]) ++ (if x.al = [] then [] else [(k, 1, x.al.map (nameP nds))])
def Mn.bare (m : Mn) : Nat × Nat × List (List UInt8) := (m.node, m.kind, m.names)
/-- a node is read -/
theorem read_node {nds : List Pn} (h : ∀ x ∈ nds, NdO nds.length x) {x : Pn} (hx : x ∈ nds) (p : Nat) (r : List UInt8) (d : Dr) (hp : d.place ≠ 0) :
    ∃ p' d', readL p (splitOn 10 (nodeP nds x ++ r)) d = readL p' (splitOn 10 r) d' ∧ d'.nm = d.nm ∧ d'.dl = d.dl ∧ d'.place = d.place ∧ d'.nds = d.nds ++ [bare x] ∧ d'.ms.map Mn.bare = d.ms.map Mn.bare ++ menK nds d.nds.length x := by
  have ho := h x hx
  have hg := gw_nodeW ho
  have hne : nodeW x ≠ [] := by simp [nodeW, wNode]
  have hw : nodeW x = kwNode :: (nodeW x).tail := by simp [nodeW, wNode]
  have hs : step d p (wordsOf (Lib.join (nodeW x) [32])) = some { d with nds := d.nds ++ [bare x], places := d.places ++ [p], hn := false, ha := false } := by
    rw [wordsOf_join hne hg, hw, step, doLine, if_neg (by decide), if_pos rfl, addNode, rdNode_ok ho, if_pos ⟨rfl, hp⟩]
  obtain ⟨p1, hn1, ha1, e1, e2⟩ := read_edge 0 (.inl rfl) h ho.nl (p + 1) (edgeP kwAfter2 x.al nds ++ r) { d with nds := d.nds ++ [bare x], places := d.places ++ [p], hn := false, ha := false } (by simp) (by simp)
  obtain ⟨p2, hn2, ha2, _, e4⟩ := read_edge 1 (.inr rfl) h ho.al p1 r { d with nds := d.nds ++ [bare x], places := d.places ++ [p], hn := hn1, ha := ha1, ms := d.ms ++ (if x.nl = [] then [] else [⟨p + 1, d.nds.length, 0, x.nl.map (nameP nds)⟩]) } (by simp) (by rw [if_neg (by decide)]; exact e1 rfl)
  have e5 : (d.nds ++ [bare x]).length - 1 = d.nds.length := by simp
  refine ⟨p2, { d with nds := d.nds ++ [bare x], places := d.places ++ [p], hn := hn2, ha := ha2, ms := (d.ms ++ (if x.nl = [] then [] else [⟨p + 1, d.nds.length, 0, x.nl.map (nameP nds)⟩])) ++ (if x.al = [] then [] else [⟨p1, d.nds.length, 1, x.al.map (nameP nds)⟩]) }, ?_, rfl, rfl, rfl, rfl, ?_⟩
  · rw [nodeP, List.append_assoc, List.append_assoc, readL_line (gw_no10 hg) p _ d _ hs]
    rw [if_pos rfl] at e2
    rw [if_neg (by decide)] at e4
    simp only [e5] at e2 e4
    rw [e2]
    exact e4
  · simp only [List.map_append, menK, List.append_assoc]
    congr 1
    by_cases c1 : x.nl = [] <;> by_cases c2 : x.al = [] <;> simp [c1, c2, Mn.bare]

/-- all nodes are read -/
theorem read_nodes {nds : List Pn} (h : ∀ x ∈ nds, NdO nds.length x) : ∀ (xs : List Pn), (∀ x ∈ xs, x ∈ nds) → ∀ (p : Nat) (d : Dr), d.place ≠ 0 →
    ∃ d', readL p (splitOn 10 (xs.map (nodeP nds)).flatten) d = .inr d' ∧ d'.nm = d.nm ∧ d'.dl = d.dl ∧ d'.place = d.place ∧ d'.nds = d.nds ++ xs.map bare ∧ d'.ms.map Mn.bare = d.ms.map Mn.bare ++ (xs.zipIdx d.nds.length).flatMap fun y => menK nds y.2 y.1
  | [], _, p, d, _ => ⟨d, by simp [splitOn, readL, step, wordsOf, ahead, words, wordsA], rfl, rfl, rfl, by simp, by simp⟩
  | x :: xs, hx, p, d, hp => by
    obtain ⟨p', d1, e1, e2, e3, e4, e5, e6⟩ := read_node h (hx x (by simp)) p (xs.map (nodeP nds)).flatten d hp
    obtain ⟨d2, f1, f2, f3, f4, f5, f6⟩ := read_nodes h xs (fun y hy => hx y (List.mem_cons_of_mem _ hy)) p' d1 (by rw [e4]; exact hp)
    refine ⟨d2, ?_, f2.trans e2, f3.trans e3, f4.trans e4, ?_, ?_⟩
    · rw [List.map_cons, List.flatten_cons, e1, f1]
    · rw [f5, e5]; simp
    · rw [f6, e6, e5, List.zipIdx_cons, List.flatMap_cons, List.append_assoc]
      simp
/-- the whole text is read -/
theorem read_text {nm : List UInt8} {dl : Int} {nds : List Pn} (h1 : nmL nm = true) (h2 : Nn dl) (h : ∀ x ∈ nds, NdO nds.length x) :
    ∃ d, readL 1 (splitOn 10 (textP nm dl nds)) Dr.new = .inr d ∧ d.nm = nm ∧ d.dl = dl ∧ d.place = 1 ∧ d.nds = nds.map bare ∧ d.ms.map Mn.bare = nds.zipIdx.flatMap fun y => menK nds y.2 y.1 := by
  have hg := gw_planW h1 h2
  have hs : step Dr.new 1 (wordsOf (Lib.join (planW nm dl) [32])) = some { Dr.new with nm := nm, dl := dl, place := 1 } := by
    rw [wordsOf_join (by simp [planW]) hg]
    simp only [planW, step, doLine, if_pos, begin_, tkName_ok h1, tkNum_ok h2]
    rw [if_pos ⟨rfl, rfl⟩]
  obtain ⟨d, e1, e2, e3, e4, e5, e6⟩ := read_nodes h nds (fun _ hx => hx) 2 { Dr.new with nm := nm, dl := dl, place := 1 } (by simp)
  refine ⟨d, ?_, e2, e3, e4, ?_, ?_⟩
  · rw [textP, readL_line (gw_no10 hg) 1 _ _ _ hs]
    exact e1
  · rw [e5]; simp [Dr.new]
  · rw [e6]; simp [Dr.new]

/-! ## the lists -/
theorem ris_sort {n : Nat} : ∀ {z : List Int} {a : Int}, Ris n a z → z.Pairwise (· < ·)
  | [], _, _ => .nil
  | _ :: _, _, h => .cons (fun e he => (ris_mem h.2.2 e he).1) (ris_sort h.2.2)
theorem sort_uniq : ∀ {a b : List Int}, a.Pairwise (· < ·) → b.Pairwise (· < ·) → (∀ e, e ∈ a ↔ e ∈ b) → a = b
  | [], [], _, _, _ => rfl
  | [], y :: b, _, _, h => absurd ((h y).2 (by simp)) (by simp)
  | x :: a, [], _, _, h => absurd ((h x).1 (by simp)) (by simp)
  | x :: a, y :: b, ha, hb, h => by
    cases ha with
    | cons ha1 ha2 =>
      cases hb with
      | cons hb1 hb2 =>
        have e : x = y := by
          rcases List.mem_cons.1 ((h x).1 (by simp)) with e | e
          · exact e
          · rcases List.mem_cons.1 ((h y).2 (by simp)) with f | f
            · exact f.symm
            · have := hb1 x e
              have := ha1 y f
              omega
        subst e
        rw [sort_uniq ha2 hb2 fun e => ?_]
        constructor
        · intro he
          rcases List.mem_cons.1 ((h e).1 (List.mem_cons_of_mem _ he)) with rfl | g
          · have := ha1 e he; omega
          · exact g
        · intro he
          rcases List.mem_cons.1 ((h e).2 (List.mem_cons_of_mem _ he)) with rfl | g
          · have := hb1 e he; omega
          · exact g
theorem idx_at {nds : List Pn} (hd : (nds.map (·.nm)).Nodup) (i : Nat) (x : Pn) (hi : nds[i]? = some x) : idx nds x.nm = some i := by
  have hl : i < nds.length := by
    rcases Nat.lt_or_ge i nds.length with h | h
    · exact h
    · rw [List.getElem?_eq_none h] at hi; cases hi
  have hx : nds[i] = x := by rw [List.getElem?_eq_getElem hl] at hi; exact Option.some.inj hi
  rw [idx, List.findIdx?_eq_some_iff_getElem]
  refine ⟨hl, by simp [hx], fun j hj => ?_⟩
  have hj' : j < nds.length := by omega
  intro g
  have g : nds[j].nm = x.nm := by simpa using g
  have := (List.pairwise_iff_getElem.1 hd) j i (by simpa using hj') (by simpa using hl) hj
  apply this
  simp [g, hx]
theorem edg_ok {nds : List Pn} (hd : (nds.map (·.nm)).Nodup) {z : List Int} (hz : Ris nds.length (-1) z) : edg nds (z.map (nameP nds)) = some z := by
  have hi : ∀ e ∈ z, idx nds (nameP nds e) = some e.toNat := by
    intro e he
    obtain ⟨h1, h2⟩ := ris_mem hz e he
    have hl : e.toNat < nds.length := by omega
    rw [nameP, List.getElem?_eq_getElem hl]
    exact idx_at hd _ _ (List.getElem?_eq_getElem hl)
  rw [edg, if_pos]
  · congr 1
    refine sort_uniq ?_ (ris_sort hz) fun e => ?_
    · rw [List.pairwise_map]
      refine List.Pairwise.imp ?_ (List.Pairwise.filter _ List.pairwise_lt_range)
      intro a b hab
      omega
    · simp only [List.mem_map, List.mem_filter, List.mem_range, List.any_eq_true, beq_iff_eq]
      constructor
      · rintro ⟨i, ⟨hi1, u, ⟨e', he', rfl⟩, hu⟩, rfl⟩
        rw [hi e' he'] at hu
        have := ris_mem hz e' he'
        have e2 : e'.toNat = i := Option.some.inj hu
        have : e' = (i : Int) := by omega
        rw [← this]
        exact he'
      · intro he
        have := ris_mem hz e he
        exact ⟨e.toNat, ⟨by omega, nameP nds e, ⟨e, he, rfl⟩, hi e he⟩, by omega⟩
  · rw [List.all_eq_true]
    intro u hu
    obtain ⟨e, he, rfl⟩ := List.mem_map.1 hu
    rw [hi e he]
    rfl
theorem idx_names {a b : List Pn} (h : a.map (·.nm) = b.map (·.nm)) (n : List UInt8) : idx a n = idx b n := by
  have e : ∀ (xs : List Pn), List.findIdx? (fun x => x.nm == n) xs = List.findIdx? (fun y => y == n) (xs.map (·.nm)) := by
    intro xs
    rw [List.findIdx?_map]
    rfl
  unfold idx
  rw [e, e, h]
theorem edg_names {a b : List Pn} (h : a.map (·.nm) = b.map (·.nm)) (ns : List (List UInt8)) : edg a ns = edg b ns := by
  have hl : a.length = b.length := by have := congrArg List.length h; simpa using this
  unfold edg
  simp only [idx_names h, hl]
theorem layE_app : ∀ (a b : List Mn) (nds mid : List Pn), layE a nds = .inr mid → layE (a ++ b) nds = layE b mid
  | [], b, nds, mid, h => by
    simp only [layE, Sum.inr.injEq] at h
    rw [h, List.nil_append]
  | m :: a, b, nds, mid, h => by
    rw [layE] at h
    rw [List.cons_append, layE]
    split at h
    · cases h
    · exact layE_app a b _ mid h
theorem modify_at (f : Pn → Pn) (y : Pn) (post : List Pn) : ∀ pre : List Pn, (pre ++ y :: post).modify pre.length f = pre ++ f y :: post
  | [] => by simp
  | x :: pre => by
    rw [List.cons_append, List.length_cons, List.modify_succ_cons, modify_at f y post pre, List.cons_append]
theorem bare_nl {x : Pn} (h : x.nl = []) (l : List Int) : ({ bare x with al := l } : Pn) = { x with al := l } := by simp [bare, h]
theorem bare_al {x : Pn} (h : x.al = []) (l : List Int) : ({ bare x with nl := l } : Pn) = { x with nl := l } := by simp [bare, h]
theorem bare_eq {x : Pn} (h : x.nl = []) (g : x.al = []) : bare x = x := by
  cases x
  simp only [bare] at h g ⊢
  simp [h, g]
/-- a node's lists are laid -/
theorem lay_node {nds : List Pn} (hd : (nds.map (·.nm)).Nodup) {x : Pn} (hn : Ris nds.length (-1) x.nl) (ha : Ris nds.length (-1) x.al) (pre post : List Pn) (hnames : (pre ++ bare x :: post).map (·.nm) = nds.map (·.nm)) (ms : List Mn) (hm : ms.map Mn.bare = menK nds pre.length x) :
    layE ms (pre ++ bare x :: post) = .inr (pre ++ x :: post) := by
  have hset : ∀ (y : Pn) (m : Mn) (l : List Int), m.node = pre.length → setEdge (pre ++ y :: post) m l = pre ++ (if m.kind = 0 then { y with nl := l } else { y with al := l }) :: post := by
    intro y m l e
    rw [setEdge, e, modify_at]
  have one : ∀ (m : Mn) (r : List Mn) (y : Pn) (z : List Int), m.node = pre.length → m.names = z.map (nameP nds) → Ris nds.length (-1) z → y.nm = x.nm → layE (m :: r) (pre ++ y :: post) = layE r (pre ++ (if m.kind = 0 then { y with nl := z } else { y with al := z }) :: post) := by
    intro m r y z e1 e2 e3 e4
    have hnm : (pre ++ y :: post).map (·.nm) = nds.map (·.nm) := by
      rw [← hnames]
      simp [bare, e4]
    rw [layE, e2, edg_names hnm, edg_ok hd e3]
    simp only
    rw [hset y m z e1]
  unfold menK at hm
  by_cases c1 : x.nl = [] <;> by_cases c2 : x.al = []
  · simp only [c1, c2, if_true, List.append_nil, List.map_eq_nil_iff] at hm
    subst hm
    rw [layE, bare_eq c1 c2]
  · simp only [c1, c2, if_true, if_false, List.nil_append] at hm
    obtain ⟨m, r, rfl, hm1, hm2⟩ := List.map_eq_cons_iff.1 hm
    have hr : r = [] := by simpa using hm2
    subst hr
    simp only [Mn.bare, Prod.mk.injEq] at hm1
    rw [one m [] (bare x) x.al hm1.1 hm1.2.2 ha rfl, layE, if_neg (by omega), bare_nl c1]
  · simp only [c1, c2, if_true, if_false, List.append_nil] at hm
    obtain ⟨m, r, rfl, hm1, hm2⟩ := List.map_eq_cons_iff.1 hm
    have hr : r = [] := by simpa using hm2
    subst hr
    simp only [Mn.bare, Prod.mk.injEq] at hm1
    rw [one m [] (bare x) x.nl hm1.1 hm1.2.2 hn rfl, layE, if_pos (by omega), bare_al c2]
  · simp only [c1, c2, if_false, List.singleton_append] at hm
    obtain ⟨m, r, rfl, hm1, hm2⟩ := List.map_eq_cons_iff.1 hm
    obtain ⟨m', r', rfl, hm3, hm4⟩ := List.map_eq_cons_iff.1 hm2
    have hr : r' = [] := by simpa using hm4
    subst hr
    simp only [Mn.bare, Prod.mk.injEq] at hm1 hm3
    rw [one m _ (bare x) x.nl hm1.1 hm1.2.2 hn rfl, if_pos (by omega), one m' [] { bare x with nl := x.nl } x.al hm3.1 hm3.2.2 ha rfl, layE, if_neg (by omega)]
    rfl
theorem lay_all {nds : List Pn} (hd : (nds.map (·.nm)).Nodup) : ∀ (xs pre : List Pn), pre ++ xs = nds → (∀ x ∈ xs, NdO nds.length x) → ∀ ms : List Mn, ms.map Mn.bare = (xs.zipIdx pre.length).flatMap (fun y => menK nds y.2 y.1) → layE ms (pre ++ xs.map bare) = .inr nds
  | [], pre, he, _, ms, hm => by
    have : ms = [] := by simpa using hm
    subst this
    rw [layE]
    rw [← he]
    simp
  | x :: xs, pre, he, ho, ms, hm => by
    rw [List.zipIdx_cons, List.flatMap_cons] at hm
    obtain ⟨m1, m2, rfl, h1, h2⟩ := List.map_eq_append_iff.1 hm
    rw [List.map_cons]
    have hn : (pre ++ bare x :: xs.map bare).map (·.nm) = nds.map (·.nm) := by
      rw [← he]
      simp [bare, Function.comp_def]
    rw [layE_app _ _ _ _ (lay_node hd (ho x (by simp)).nl (ho x (by simp)).al pre (xs.map bare) hn m1 h1)]
    have := lay_all hd xs (pre ++ [x]) (by rw [← he]; simp) (fun y hy => ho y (List.mem_cons_of_mem _ hy)) m2 (by rw [h2]; simp)
    simpa using this

/-! ## how long it is -/
theorem join_le (B : Nat) : ∀ (ws : List (List UInt8)), (∀ u ∈ ws, u.length ≤ B) → (lineT ws).length ≤ ws.length * (B + 1) + 1
  | [], _ => by simp [lineT, Lib.join, List.intercalate]
  | [u], h => by
    have := h u (by simp)
    simp [lineT, join_one]
    omega
  | u :: v :: ws, h => by
    have h1 := h u (by simp)
    have h2 := join_le B (v :: ws) fun x hx => h x (List.mem_cons_of_mem _ hx)
    simp only [lineT, join_cons, List.length_append, List.length_cons, List.length_nil] at h2 ⊢
    rw [show (ws.length + 1 + 1) * (B + 1) = (ws.length + 1) * (B + 1) + (B + 1) by rw [Nat.add_mul _ 1]; omega]
    omega
theorem nm_len {l : List UInt8} (h : nmL l = true) : l.length ≤ 40 := by
  simp only [nmL, Bool.and_eq_true, decide_eq_true_eq] at h
  exact h.1.2
theorem nodeW_len {n : Nat} {x : Pn} (h : NdO n x) : (lineT (nodeW x)).length ≤ 657 := by
  have g1 := itoa_len h.la
  have g2 := itoa_len h.bu
  have g3 := itoa_len h.cl
  have g4 := itoa_len h.be
  have g5 := itoa_len h.bs
  have g6 := itoa_len h.ca
  have g7 := itoa_len h.ji
  have g8 := nm_len h.nm
  have hl : (nodeW x).length ≤ 16 := by
    unfold nodeW wNode wBeat wBack wJit
    split <;> split <;> split <;> simp
  have hu : ∀ u ∈ nodeW x, u.length ≤ 40 := by
    intro u hu
    simp only [nodeW, wNode, wBeat, wBack, wJit, List.mem_append] at hu
    rcases hu with ((hu | hu) | hu) | hu
    · simp only [List.mem_cons, List.not_mem_nil, or_false] at hu
      rcases hu with rfl | rfl | rfl | rfl | rfl | rfl | rfl | rfl <;> first | omega | decide
    · split at hu
      · cases hu
      · simp only [List.mem_cons, List.not_mem_nil, or_false] at hu
        rcases hu with rfl | rfl <;> first | omega | decide
    · split at hu
      · cases hu
      · simp only [List.mem_cons, List.not_mem_nil, or_false] at hu
        rcases hu with rfl | rfl | rfl | rfl <;> first | omega | decide
    · split at hu
      · cases hu
      · simp only [List.mem_cons, List.not_mem_nil, or_false] at hu
        rcases hu with rfl | rfl <;> first | omega | decide
  have := join_le 40 _ hu
  omega
theorem edgeP_len {nds : List Pn} (h : ∀ x ∈ nds, NdO nds.length x) (first : List UInt8) (hf : first.length ≤ 40) {z : List Int} (hz : Ris nds.length (-1) z) : (edgeP first z nds).length ≤ z.length * 41 + 42 := by
  unfold edgeP
  split
  · simp
  · have hu : ∀ u ∈ first :: z.map (nameP nds), u.length ≤ 40 := by
      intro u hu
      rcases List.mem_cons.1 hu with rfl | hu
      · exact hf
      · exact nm_len (nameP_ok h hz u hu)
    have := join_le 40 _ hu
    simp only [List.length_cons, List.length_map] at this
    omega
theorem nodes_len {nds : List Pn} (h : ∀ x ∈ nds, NdO nds.length x) : ∀ xs : List Pn, (∀ x ∈ xs, x ∈ nds) → (xs.map (nodeP nds)).flatten.length ≤ xs.length * 741 + (xs.map fun x => x.nl.length + x.al.length).sum * 41
  | [], _ => by simp
  | x :: xs, hx => by
    have h1 := nodeW_len (h x (hx x (by simp)))
    have h2 := edgeP_len h kwNeeds2 (by decide) (h x (hx x (by simp))).nl
    have h3 := edgeP_len h kwAfter2 (by decide) (h x (hx x (by simp))).al
    have h4 := nodes_len h xs fun y hy => hx y (List.mem_cons_of_mem _ hy)
    simp only [List.map_cons, List.flatten_cons, List.length_append, nodeP, List.length_cons, List.sum_cons]
    omega
theorem text_len {nm : List UInt8} {dl : Int} {nds : List Pn} (h1 : nmL nm = true) (h2 : Nn dl) (h : ∀ x ∈ nds, NdO nds.length x) (hl : nds.length ≤ 64) (he : (nds.map fun x => x.nl.length + x.al.length).sum ≤ 256) : (textP nm dl nds).length ≤ 65536 := by
  have h3 := nodes_len h nds fun _ hx => hx
  have g1 := itoa_len h2
  have g2 := nm_len h1
  have hu : ∀ u ∈ planW nm dl, u.length ≤ 40 := by
    intro u hu
    simp only [planW, List.mem_cons, List.not_mem_nil, or_false] at hu
    rcases hu with rfl | rfl | rfl | rfl <;> first | omega | decide
  have h4 := join_le 40 _ hu
  simp only [textP, List.length_append]
  simp only [planW, List.length_cons, List.length_nil] at h4 ⊢
  omega

/-! ## what Check says -/
theorem ris_of (n : Nat) (own : Int) : ∀ (z : List Int) (a : Int), Gr.lOk a z own n = true → Ris n a z
  | [], _, _ => trivial
  | x :: z, a, h => by
    simp only [Gr.lOk, Bool.and_eq_true, Bool.not_eq_true', Bool.or_eq_false_iff, decide_eq_false_iff_not] at h
    exact ⟨by omega, by omega, ris_of n own z x h.2⟩
theorem cN_facts : ∀ (n i : Nat) (seen : List ByteArray) (xs : List Gr.No), (Gr.cN n i seen xs).2 = 0 → (xs.map (·.q.nm)).Nodup ∧ (∀ x ∈ xs, x.q.nm ∉ seen) ∧ ∀ x ∈ xs, Ris n (-1) x.nl ∧ Ris n (-1) x.al
  | _, _, _, [], _ => ⟨by simp, by simp, by simp⟩
  | n, i, seen, y :: xs, h => by
    unfold Gr.cN at h
    split at h
    · simp at h
    · rename_i c1
      split at h
      · simp at h
      · split at h
        · simp at h
        · rename_i c3
          obtain ⟨h1, h2, h3⟩ := cN_facts n (i + 1) _ xs h
          simp only [Bool.or_eq_true, not_or, List.any_eq_true, decide_eq_true_eq, not_exists, not_and] at c1
          have c3 : Gr.eOk y i n = true := by simpa using c3
          simp only [Gr.eOk, Bool.and_eq_true] at c3
          refine ⟨?_, ?_, ?_⟩
          · rw [List.map_cons, List.nodup_cons]
            refine ⟨fun hm => ?_, h1⟩
            obtain ⟨x, hx, e⟩ := List.mem_map.1 hm
            exact h2 x hx (by rw [e]; simp)
          · intro x hx
            rcases List.mem_cons.1 hx with rfl | hx
            · exact fun hm => c1.2 _ hm rfl
            · exact fun hm => h2 x hx (List.mem_cons_of_mem _ hm)
          · intro x hx
            rcases List.mem_cons.1 hx with rfl | hx
            · exact ⟨ris_of n _ _ _ c3.1.1, ris_of n _ _ _ c3.1.2⟩
            · exact h3 x hx
theorem isNm_nmL {l : List UInt8} (h : Gr.isNm (ba l) = true) : nmL l = true := by
  unfold Gr.isNm at h
  simp only [Gr.wI, Bool.and_eq_true, decide_eq_true_eq, ba_size, ba_data] at h
  simp only [nmL, Bool.and_eq_true, decide_eq_true_eq]
  exact ⟨⟨by omega, by omega⟩, h.2⟩
theorem ok_of {nm : List UInt8} {dl : Int} {nds : List Pn} (h : (Gr.chk (ba nm) dl (nds.map no)).2 = 0) :
    nmL nm = true ∧ Nn dl ∧ (∀ x ∈ nds, NdO nds.length x) ∧ (nds.map (·.nm)).Nodup ∧ nds.length ≤ 64 ∧ (nds.map fun x => x.nl.length + x.al.length).sum ≤ 256 := by
  obtain ⟨h1, h2, h3, h4, h5⟩ := Gr.chk_ok h
  have hn := cN_each _ _ _ _ h2
  rw [List.length_map] at h2
  obtain ⟨f1, _, f3⟩ := cN_facts _ _ _ _ h2
  unfold Gr.cW at h1
  split at h1
  · simp at h1
  · rename_i c1
    split at h1
    · simp at h1
    · rename_i c2
      split at h1
      · simp at h1
      · rename_i c3
        simp only [Bool.not_eq_true', Bool.not_eq_false, Bool.or_eq_true, not_or, decide_eq_true_eq] at c1 c2 c3
        refine ⟨isNm_nmL c1, ?_, fun x hx => ?_, ?_, ?_, ?_⟩
        · simp [Gr.wI] at c2
          exact ⟨by omega, by omega⟩
        · have hm : no x ∈ nds.map no := List.mem_map_of_mem hx
          obtain ⟨g1, g2⟩ := hn _ hm
          obtain ⟨g3, g4⟩ := f3 _ hm
          have g2 : (Gr.wI x.la 0 15 && Gr.wI x.bu 1 100 && Gr.wI x.cl 1 1099511627776 && Gr.wI x.be 0 1099511627776 && Gr.wI x.ca 1 1099511627776 && Gr.wI x.bs 1 x.ca && Gr.wI x.ji 0 1099511627776) = true := g2
          simp only [Gr.wI, Bool.and_eq_true, decide_eq_true_eq] at g2
          exact ⟨isNm_nmL g1, ⟨by omega, by omega⟩, ⟨by omega, by omega⟩, ⟨by omega, by omega⟩, ⟨by omega, by omega⟩, ⟨by omega, by omega⟩, ⟨by omega, by omega⟩, ⟨by omega, by omega⟩, g3, g4⟩
        · rw [List.map_map] at f1
          have : (nds.map ((fun x : Gr.No => x.q.nm) ∘ no)) = (nds.map (·.nm)).map ba := by rw [List.map_map]; rfl
          rw [this] at f1
          exact (List.pairwise_map.1 f1).imp fun hne e => hne (by rw [e])
        · have := c3.1
          simp [Gr.wI] at this
          omega
        · have := c3.2
          unfold Gr.edges at this
          rw [List.map_map] at this
          have e : (fun x : Gr.No => x.nl.length + x.al.length) ∘ no = fun x : Pn => x.nl.length + x.al.length := rfl
          rw [e] at this
          omega
theorem nameAt_no (nds : List Pn) (e : Int) : nameAt (nds.map no) e = nameP nds e := by
  unfold nameAt nameP
  rw [List.getElem?_map]
  cases nds[e.toNat]? with
  | none => rfl
  | some x => exact ba_data _
theorem nodeT_no (nds : List Pn) (x : Pn) : nodeT (nds.map no) (no x) = nodeP nds x := by
  have h : nameAt (nds.map no) = nameP nds := funext (nameAt_no nds)
  unfold nodeT edgeT edgeW nodeP edgeP
  rw [h]
  have e : noW (no x) = nodeW x := by
    unfold noW nodeW no
    simp only [ba_data]
  rw [e]
  rfl
theorem textOf_no (nm : List UInt8) (dl : Int) (nds : List Pn) : textOf nm dl (nds.map no) = textP nm dl nds := by
  unfold textOf textP
  rw [List.map_map]
  have : nodeT (nds.map no) ∘ no = nodeP nds := funext (nodeT_no nds)
  rw [this]
/-- what is written of a plan that may be is read as that plan -/
theorem back {nm : List UInt8} {dl : Int} {nds : List Pn} (h : (Gr.chk (ba nm) dl (nds.map no)).2 = 0) : parse (txt nm dl (nds.map no)) = .inr ⟨nm, dl, nds⟩ ∧ (txt nm dl (nds.map no)).length ≤ 65536 := by
  obtain ⟨h1, h2, h3, h4, h5, h6⟩ := ok_of h
  have hlen := text_len h1 h2 h3 h5 h6
  obtain ⟨d, e1, e2, e3, e4, e5, e6⟩ := read_text h1 h2 h3
  have hl := lay_all h4 nds [] rfl h3 d.ms (by simpa using e6)
  rw [txt, if_pos h, textOf_no]
  refine ⟨?_, hlen⟩
  unfold parse
  rw [if_neg (by omega), e1]
  simp only
  rw [if_neg (by omega), e5]
  rw [List.nil_append] at hl
  rw [hl]
  simp only [judge, e2, e3]
  rw [if_pos h]
/-- what was read may be -/
theorem parse_chk {s : List UInt8} {q : Pl} (h : parse s = .inr q) : (Gr.chk (ba q.nm) q.dl (q.nds.map no)).2 = 0 := by
  unfold parse at h
  split at h
  · cases h
  · split at h
    · cases h
    · split at h
      · cases h
      · split at h
        · cases h
        · unfold judge at h
          split at h
          · rename_i c
            injection h with h
            subst h
            exact c
          · split at h <;> cases h
end Bk
end U
end Go.Proofs.YtfoahfgehmghcaaGreatDoor

/- Package source's laws: known. -/
namespace Go.Proofs.YtfoahfgehmghcaaGreatDoor
namespace U
open Go.RowKit

def tK : List UInt8 := [112, 108, 97, 110, 32, 112, 32, 100, 101, 97, 100, 108, 105, 110, 101, 32, 49, 48, 48, 10, 110, 111, 100, 101, 32, 97, 32, 108, 97, 110, 101, 32, 48, 32, 98, 117, 100, 103, 101, 116, 32, 50, 32, 99, 108, 111, 115, 101, 32, 49, 48, 10, 110, 111, 100, 101, 32, 98, 32, 108, 97, 110, 101, 32, 49, 32, 98, 117, 100, 103, 101, 116, 32, 49, 32, 99, 108, 111, 115, 101, 32, 53, 32, 98, 101, 97, 116, 32, 50, 32, 98, 97, 99, 107, 111, 102, 102, 32, 52, 32, 116, 111, 32, 56, 32, 106, 105, 116, 116, 101, 114, 32, 51, 10, 32, 32, 110, 101, 101, 100, 115, 32, 97, 10]
def tKn : List UInt8 := [110, 101, 101, 100, 115, 32, 97]
def nKa : Pn := ⟨[97], 0, 2, 10, 0, 1, 1, 0, [], []⟩
def nKb : Pn := ⟨[98], 1, 1, 5, 2, 4, 8, 3, [], []⟩
def nKc : Pn := ⟨[98], 1, 1, 5, 2, 4, 8, 3, [0], []⟩
def dK : Dr := ⟨[112], 100, [nKa, nKb], 1, [2, 3], true, false, [⟨4, 1, 0, [[97]]⟩]⟩
set_option maxRecDepth 100000 in
theorem readK : readL 1 (splitOn 10 tK) Dr.new = .inr dK := by kernel_rfl
set_option maxRecDepth 100000 in
theorem readN : readL 1 (splitOn 10 (tK ++ tKn)) Dr.new = .inl 5 := by kernel_rfl
theorem layK : layE dK.ms dK.nds = .inr [nKa, nKc] := by kernel_rfl
theorem wt_less (E : Nat → List Nat) (h : ∀ a b, b ∈ E a → b < a) : ∀ k a b, Gr.wt E k a b → b < a
  | 0, a, b, hk => h a b hk
  | k + 1, a, b, ⟨x, hx, hk⟩ => Nat.lt_trans (wt_less E h k x b hk) (h a x hx)
theorem egK : ∀ a b, b ∈ Gr.eg ([nKa, nKc].map no) a → b < a := by
  intro a b hb
  match a, hb with
  | 0, hb => simp [Gr.eg, no, nKa, nKc] at hb
  | 1, hb => simp [Gr.eg, no, nKa, nKc] at hb; omega
  | a + 2, hb => simp [Gr.eg, no, nKa, nKc] at hb
theorem chkK : Gr.chk (ba [112]) 100 ([nKa, nKc].map no) = (0, 0) := by
  have hc : Gr.cyc ([nKa, nKc].map no) = 0 := Gr.cyc_eq (.inl ⟨rfl, fun x ⟨k, hk⟩ => Nat.lt_irrefl _ (wt_less _ egK k x x hk)⟩)
  have h1 : Gr.cW (ba [112]) 100 ([nKa, nKc].map no) = 0 := by kernel_rfl
  have h2 : Gr.cN ([nKa, nKc].map no).length 0 [] ([nKa, nKc].map no) = (0, 0) := by kernel_rfl
  unfold Gr.chk
  rw [if_neg (by rw [h1]; simp), if_neg (by rw [h2]; simp), if_neg (by rw [hc]; simp)]
set_option maxRecDepth 100000 in
theorem parseK : parse tK = .inr ⟨[112], 100, [nKa, nKc]⟩ := by
  unfold parse
  rw [if_neg (by decide), readK]
  simp only [layK]
  rw [if_neg (by decide)]
  unfold judge
  rw [if_pos (by rw [show ba dK.nm = ba [112] from rfl, show dK.dl = 100 from rfl, chkK])]
  rfl
set_option maxRecDepth 100000 in
theorem parseN : parse (tK ++ tKn) = .inl (5, 111) := by
  unfold parse
  rw [if_neg (by decide), readN]
set_option maxRecDepth 100000 in
theorem textK : txt [112] 100 ([nKa, nKc].map no) = tK := by
  unfold txt
  rw [if_pos (by rw [chkK])]
  kernel_rfl
theorem nameAt_er (xs : List Gr.No) (e : Int) : nameAt (xs.map er) e = nameAt xs e := by
  unfold nameAt
  rw [List.getElem?_map]
  cases xs[e.toNat]? <;> rfl
theorem nodeT_er (xs : List Gr.No) (x : Gr.No) : nodeT (xs.map er) (er x) = nodeT xs x := by
  have h : nameAt (xs.map er) = nameAt xs := funext (nameAt_er xs)
  unfold nodeT edgeT edgeW
  rw [h]
  rfl
theorem txt_er (nm : List UInt8) (dl : Int) (xs : List Gr.No) : txt nm dl (xs.map er) = txt nm dl xs := by
  unfold txt textOf
  rw [chk_er, List.map_map]
  have : (nodeT (xs.map er) ∘ er) = nodeT xs := funext fun x => nodeT_er xs x
  rw [this]

/-- Parse of a text that is a plan -/
theorem parse_ok (s : List UInt8) (q : Pl) (h : parse s = .inr q) (hs : s.length ≤ 9223372036854775807) (w : World) (hE : EnvA w) :
    Calls Tryz.prog 11 #[.string (ba s)] w fun e w' => ∃ va vc, e = .returned (.tuple #[.agg #[.string (ba q.nm), .int .i64 q.dl, .slice va q.nds.length vc], .int .i64 0, .int .i64 0]) ∧ Below w.heap.size w w' ∧ NdsAt w.heap.size w' (.slice va q.nds.length vc) q.nds ∧ q.nds.length ≤ 1000000 := by
  have P := parse_any (ba s) w (by rw [ba_size]; omega) hE
  rw [ba_data, h] at P
  refine P.mono ?_
  rintro e w' ⟨hb, ⟨p, c, h1, _⟩ | ⟨q', va, vc, h1, rfl, h2, h3⟩⟩
  · cases h1
  · cases h1
    exact ⟨va, vc, rfl, hb, h2, h3⟩
/-- Parse of a text that is none -/
theorem parse_no (s : List UInt8) (p c : Nat) (h : parse s = .inl (p, c)) (hs : s.length ≤ 9223372036854775807) (w : World) (hE : EnvA w) :
    Calls Tryz.prog 11 #[.string (ba s)] w fun e w' => e = .returned (.tuple #[zPlan, .int .i64 (p : Int), .int .i64 (c : Int)]) ∧ Below w.heap.size w w' := by
  have P := parse_any (ba s) w (by rw [ba_size]; omega) hE
  rw [ba_data, h] at P
  refine P.mono ?_
  rintro e w' ⟨hb, ⟨p', c', h1, rfl⟩ | ⟨q', va, vc, h1, _⟩⟩
  · cases h1
    exact ⟨rfl, hb⟩
  · cases h1
theorem xsK {xs : List Gr.No} (h : xs.map er = [nKa, nKc].map no) : ∃ x0 x1, xs = [x0, x1] ∧ x1.q.ca = 8 ∧ x1.nl = [0] ∧ (∀ x ∈ xs, x.q.nm.size ≤ 40) := by
  have hl := congrArg List.length h
  simp only [List.length_map, List.length_cons, List.length_nil] at hl
  match xs, h, hl with
  | [], _, hl => cases hl
  | [_], _, hl => cases hl
  | _ :: _ :: _ :: _, _, hl => simp at hl
  | [x0, x1], h, _ =>
    simp only [List.map_cons, List.map_nil, List.cons.injEq, and_true] at h
    obtain ⟨h0, h1⟩ := h
    refine ⟨x0, x1, rfl, congrArg (fun x : Gr.No => x.q.ca) h1, congrArg (fun x : Gr.No => x.nl) h1, ?_⟩
    have e0 : x0.q.nm = ba [97] := congrArg (fun x : Gr.No => x.q.nm) h0
    have e1 : x1.q.nm = ba [98] := congrArg (fun x : Gr.No => x.q.nm) h1
    intro x hx
    simp at hx
    rcases hx with rfl | rfl
    · rw [e0]; decide
    · rw [e1]; decide
set_option maxRecDepth 100000 in
set_option maxHeartbeats 4000000 in
theorem known_any (w : World) (hA : EnvA w) (hI : EnvI w) :
    Calls Tryz.prog 4 #[] w fun e w' => e = .returned (.bool true) ∧ Below w.heap.size w w' := by
  have P1 : Hid (∀ w, EnvA w → Calls Tryz.prog 11 #[.string (ba tK)] w fun e w' => ∃ va vc, e = .returned (.tuple #[.agg #[.string (ba [112]), .int .i64 100, .slice va 2 vc], .int .i64 0, .int .i64 0]) ∧ Below w.heap.size w w' ∧ NdsAt w.heap.size w' (.slice va 2 vc) [nKa, nKc]) := fun w hE => (parse_ok tK _ parseK (by decide) w hE).mono fun e w' ⟨va, vc, h1, h2, h3, _⟩ => ⟨va, vc, h1, h2, h3⟩
  have P2 : Hid (∀ w, EnvA w → Calls Tryz.prog 11 #[.string (ba (tK ++ tKn))] w fun e w' => e = .returned (.tuple #[zPlan, .int .i64 5, .int .i64 111]) ∧ Below w.heap.size w w') := parse_no (tK ++ tKn) _ _ parseN (by decide)
  have HA := hide hA
  have HI := hide hI
  clear hA hI
  go_enter Tryz.func4, Tryz.ntmps4
  go_upto_region 2 with fail
  generalize hS : (ByteArray.mk (List.toArray (List.append _ _))) = S at *
  have hS2 : S = ba tK := by rw [← hS]; rfl
  have HS := hide hS2
  have HS3 : Hid (S ++ ⟨#[110, 101, 101, 100, 115, 32, 97]⟩ = ba (tK ++ tKn)) := by
    show _ = _
    rw [hS2]
    apply ByteArray.ext
    rw [ByteArray.data_append]
    simp [ba, tKn]
  have hsS : S.size = 124 := by rw [hS2, ba_size]; rfl
  clear hS
  rw [← hS2] at P1
  rw [← HS3.out] at P2
  clear hS2
  go_wp2_with fail
  go_at_call 11
  refine (P1.out w HA.out).mono ?_
  rintro e w1 ⟨va, vc, rfl, b1, n1⟩
  have HB1 := hide b1
  have HN1 := hide n1
  have hz1 := b1.size
  clear b1 n1
  go_upto_region 3 with fail
  have HBX := hide (heap_alloc_new w1 (.cells #[.string (ba [112]), .int .i64 100, .slice va 2 vc] 24))
  have BL : Hid (Below w1.heap.size w1 (w1.alloc (.cells #[.string (ba [112]), .int .i64 100, .slice va 2 vc] 24))) := (Below.refl _ w1).alloc (Nat.le_refl _) _
  have hz2 : (w1.alloc (.cells #[.string (ba [112]), .int .i64 100, .slice va 2 vc] 24)).heap.size = w1.heap.size + 1 := by simp
  generalize w1.alloc (.cells #[.string (ba [112]), .int .i64 100, .slice va 2 vc] 24) = w2 at *
  have HB2 : Hid (Below w.heap.size w w2) := HB1.out.trans (BL.out.mono hz1)
  obtain ⟨xs, hxs, hrp⟩ := HN1.out.rd (by decide)
  obtain ⟨x0, x1, hxx, hca, hnl, hsm⟩ := xsK hxs
  have hrp2 := rdp_below hrp BL.out (Nat.le_refl _)
  have T := text_any [112] 100 (va, 2, vc) xs w1.heap.size w2 hrp2 (by omega) (HI.out.below HB2.out) ⟨by rw [ba_size]; decide, fun x hx => Nat.le_trans (hsm x hx) (by decide)⟩
  have hck : Gr.chk (ba [112]) 100 xs = (0, 0) := by rw [← chk_er, hxs, chkK]
  have htx : txt [112] 100 xs = tK := by rw [← txt_er, hxs, textK]
  rw [hck, htx, ← HS.out] at T
  have T2 : Hid (Calls Tryz.prog 7 #[.agg #[.string (ba [112]), .int .i64 100, .slice va 2 vc]] w2 fun e w' => e = .returned (.tuple #[.string S, .int .i64 0]) ∧ Below w2.heap.size w2 w') := T
  obtain ⟨g, off, y, hy1, hy2, hy3, hy4, hy5, _⟩ := hrp2.at (i := 1) (by show 1 < 2; decide)
  rw [hxx] at hy3
  simp at hy3
  subst hy3
  simp only at hy1
  subst hy1
  obtain ⟨y, hya⟩ : ∃ z, z = x1.q.ne := ⟨_, rfl⟩
  obtain ⟨ya, yn, yc⟩ := y
  obtain ⟨g3, off3, z0, hw1, hw2, hw3, hw4⟩ := hy5.at (i := 0) (by rw [hy5.1, hnl]; decide)
  rw [hnl] at hw3
  simp at hw3
  subst hw3
  have hnl1 := hy5.1
  rw [← hya, hnl] at hnl1
  rw [← hya] at hw1
  simp at hnl1 hw1
  subst hnl1
  subst hw1
  have ks := hy4.all.2.2.2.2.2.2.1
  have kn := hy4.all.2.2.2.2.2.2.2.2.1
  rw [hca] at ks
  rw [← hya] at kn
  simp only at kn
  have p0 := cell_blk HBX.out 0 (v := .string (ba [112])) rfl
  have p1 := cell_blk HBX.out 1 (v := .int .i64 100) rfl
  have p2 := cell_blk HBX.out 2 (v := .slice (some ⟨g, off, none⟩) 2 vc) rfl
  have CELLS : Hid (∀ W, Below w2.heap.size w2 W → W.cell? ⟨w1.heap.size, 0, none⟩ = some (.string (ba [112])) ∧ W.cell? ⟨w1.heap.size, 2, none⟩ = some (.slice (some ⟨g, off, none⟩) 2 vc) ∧ W.cell? ⟨g, off + 1 * 10 + 6, none⟩ = some (.int .i64 8) ∧ W.cell? ⟨g, off + 1 * 10 + 8, none⟩ = some (.slice (some ⟨g3, off3, none⟩) 1 yc) ∧ W.cell? ⟨g3, off3, none⟩ = some (.int .i64 0)) := fun W hb => by
    have kk : ∀ (p : Addr) v, w2.cell? p = some v → W.cell? p = some v := fun p v h => (hb.cell (p := p) (World.block_lt_of_cell? _ _ h)).trans h
    exact ⟨kk _ _ p0, kk _ _ p2, kk _ _ ks, kk _ _ kn, kk _ _ hw4⟩
  clear T hck htx hrp hrp2 hsm hxs hxx hy4 hy5 hw4 hnl hca hya ks kn HN1 HBX
  go_wp2_with fail
  go_at_call 7
  refine T2.out.mono ?_
  rintro e w3 ⟨rfl, b3⟩
  have HB3 := hide b3
  have HW3 : Hid (Below w.heap.size w w3) := HB2.out.trans (b3.mono HB2.out.size)
  clear b3 p0 p1 p2 T2
  go_wp2_with fail
  go_at_call 11
  refine (P2.out w3 (HA.out.below HW3.out)).mono ?_
  rintro e w4 ⟨rfl, b4⟩
  have HB4 := hide (HB3.out.trans (b4.mono HB3.out.size))
  clear b4 HB3 HW3 P1 P2
  unfold zPlan
  go_upto_region 5 with fail
  have HB5 : Hid (Below w2.heap.size w2 (w4.alloc (.cells #[.string ⟨#[]⟩, .int .i64 0, .slice none 0 0] 24))) := HB4.out.alloc HB4.out.size _
  generalize w4.alloc (.cells #[.string ⟨#[]⟩, .int .i64 0, .slice none 0 0] 24) = w5 at *
  obtain ⟨p0, p2, ks, kn, kz⟩ := CELLS.out _ HB5.out
  simp only [Nat.one_mul] at ks kn
  clear CELLS
  have hb112 : (ba [112]).toList = [112] := by kernel_rfl
  go_wp2_with fail
  go_ret
  exact ⟨rfl, HB2.out.trans (HB5.out.mono HB2.out.size)⟩
end U
end Go.Proofs.YtfoahfgehmghcaaGreatDoor
