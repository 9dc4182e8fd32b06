/- DiskOwns: a script's course: its codes, its states. -/
import Derived.Test.YtmaeaibphggceaaDOwM
namespace Go.Proofs.Ytmaeaibphggceaa
open Go.RowKit Go.Lib

/-- steps, one behind the other, with the codes that they answer -/
def RunTo : St → List Stp → List Int → St → Prop
  | s, [], [], t => s = t
  | s, q :: qs, c :: cs, t => ∃ m, StepTo s q c m ∧ RunTo m qs cs t
  | _, _, _, _ => False
theorem RunTo.len : ∀ {qs : List Stp} {cs : List Int} {s t : St}, RunTo s qs cs t → qs.length = cs.length
  | [], [], _, _, _ => rfl
  | [], _ :: _, _, _, h => h.elim
  | _ :: _, [], _, _, h => h.elim
  | _ :: _, _ :: _, _, _, ⟨_, _, h⟩ => congrArg (· + 1) h.len
theorem RunTo.snoc : ∀ {qs : List Stp} {cs : List Int} {s t u : St} {q : Stp} {c : Int}, RunTo s qs cs t → StepTo t q c u → RunTo s (qs ++ [q]) (cs ++ [c]) u
  | [], [], _, _, _, _, _, h, g => by
    subst h
    exact ⟨_, g, rfl⟩
  | [], _ :: _, _, _, _, _, _, h, _ => h.elim
  | _ :: _, [], _, _, _, _, _, h, _ => h.elim
  | _ :: _, _ :: _, _, _, _, _, _, ⟨m, h1, h2⟩, g => ⟨m, h1, h2.snoc g⟩
/-- the next step of a course that is known: the same code, the same state -/
theorem RunTo.next : ∀ {qs : List Stp} {cs : List Int} {s t : St}, RunTo s qs cs t → ∀ (k : Nat) {q : Stp} {m m' : St} {c' : Int}, qs[k]? = some q → RunTo s (qs.take k) (cs.take k) m → StepTo m q c' m' → cs[k]? = some c' ∧ RunTo s (qs.take (k + 1)) (cs.take (k + 1)) m'
  | [], _, _, _, _, k, _, _, _, _, hq, _, _ => by simp at hq
  | _ :: _, [], _, _, h, _, _, _, _, _, _, _, _ => h.elim
  | q0 :: qs, c0 :: cs, s, t, ⟨m0, h1, h2⟩, 0, q, m, m', c', hq, hm, hs => by
    simp only [List.take_zero] at hm
    have hm : s = m := hm
    subst hm
    simp only [List.getElem?_cons_zero, Option.some.injEq] at hq
    subst hq
    obtain ⟨e1, e2⟩ := h1.uniq hs
    subst e1 e2
    exact ⟨rfl, by simp only [List.take_succ_cons, List.take_zero]; exact ⟨m0, h1, rfl⟩⟩
  | q0 :: qs, c0 :: cs, s, t, ⟨m0, h1, h2⟩, k + 1, q, m, m', c', hq, hm, hs => by
    simp only [List.take_succ_cons] at hm
    obtain ⟨m1, g1, g2⟩ := hm
    obtain ⟨_, e2⟩ := h1.uniq g1
    subst e2
    have hq' : qs[k]? = some q := by simpa using hq
    obtain ⟨e3, e4⟩ := h2.next k hq' g2 hs
    refine ⟨by simpa using e3, ?_⟩
    rw [List.take_succ_cons, List.take_succ_cons]
    exact ⟨m0, h1, e4⟩
/-- the same course from the same beginning ends in the same state -/
theorem RunTo.uniq : ∀ {qs : List Stp} {cs cs' : List Int} {s t t' : St}, RunTo s qs cs t → RunTo s qs cs' t' → cs = cs' ∧ t = t'
  | [], [], [], _, _, _, h, g => ⟨rfl, by have h : _ = _ := h; have g : _ = _ := g; rw [← h, ← g]⟩
  | [], _ :: _, _, _, _, _, h, _ => h.elim
  | [], [], _ :: _, _, _, _, _, g => g.elim
  | _ :: _, [], _, _, _, _, h, _ => h.elim
  | _ :: _, _ :: _, [], _, _, _, _, g => g.elim
  | _ :: _, _ :: _, _ :: _, _, _, _, ⟨m, h1, h2⟩, ⟨m', g1, g2⟩ => by
    obtain ⟨e1, e2⟩ := h1.uniq g1
    subst e1 e2
    obtain ⟨e3, e4⟩ := h2.uniq g2
    exact ⟨by rw [e3], e4⟩
/-- between two steps of the law's first loop: the disk d in just its own blocks, e as it was made, the codes, the two rooms -/
structure OwI (W : World) (lo1 lo2 : Nat) (w5 : World) (gR gY m2 l1 p p2 : Nat) (s0 : St) (E : Nat → Prop) (qs : List Stp) (i : Nat) (cs : List Int) (s : St) (cv : Value) (wr : World) : Prop where
  d : ∃ S, Dk S wr p s ∧ (∀ k, S k → lo1 ≤ k ∧ (k < lo2 ∨ w5.heap.size ≤ k)) ∧ ∀ k, cv.ownBlock = some k → ¬ S k
  e : Dk E wr p2 s0
  g : Good i s
  run : RunTo s0 (qs.take i) cs s
  cd : wr.ownsRow w5.heap.size 31 1 cv i (Zv cs)
  rm : ∃ X, wr.ownsRow 0 5 1 (.slice (some ⟨gR, 0, none⟩) m2 m2) m2 (B8 X) ∧ ∀ x ∈ X, x < 256
  wy : ∃ Z, wr.ownsRow 0 3 1 (.slice (some ⟨gY, 0, none⟩) l1 l1) l1 (Zv Z) ∧ ∀ x ∈ Z, -9223372036854775808 ≤ x ∧ x ≤ 9223372036854775807
  k : Keep (fun k => lo1 ≤ k ∧ k < lo2 ∨ k = gR ∨ k = gY) w5 wr
  wk : Keep (fun k => W.heap.size ≤ k) W wr
end Go.Proofs.Ytmaeaibphggceaa
