/- A range over a function that itself changes memory between its rounds (no round leaves it early). -/
import Derived.Test.YtobmnkoohgkiiaaWBase
import Derived.RangeFuncNested
import Derived.RangeFuncBound
import Derived.RangeFuncCalls
import Derived.RangeFuncLeaves
import Derived.RangeFuncRecord
namespace Go.Proofs.Ytobmnkoohgkiiaa
open Go.RowKit

/-- the two blocks of the loop's own are as they were -/
def Same2 (b : Nat) (A B : World) : Prop := B.heap[b]? = A.heap[b]? ∧ B.heap[b + 1]? = A.heap[b + 1]?
theorem Same2.refl (b : Nat) (A : World) : Same2 b A A := ⟨rfl, rfl⟩
theorem Same2.trans {b : Nat} {A B C : World} (h : Same2 b A B) (k : Same2 b B C) : Same2 b A C := ⟨k.1.trans h.1, k.2.trans h.2⟩
theorem Keep.same2 {S : Nat → Prop} {A B : World} {b : Nat} (h : Keep S A B) (hb : b + 1 < A.heap.size) (h1 : ¬ S b) (h2 : ¬ S (b + 1)) : Same2 b A B := ⟨h.block b (by omega) h1, h.block (b + 1) hb h2⟩

attribute [local go_sem] Oper.semAt_some

theorem wp_range1 {α : Type} {P : Program} {n : Nat} {g : Operand} {ps : Array Tmp} {assign body : Code} {Q : Exit → Act → World → Prop} {a : Act} {w : World}
    {gf : Nat} {lb : Array Value} (hg : a.eval g = .func (.func gf) #[] lb) (eg : ∀ args w, (callFunc gf args).run P w = .ok (.enter gf args) w)
    {encs : α → Array Value} (hps : ∀ x, (encs x).size = ps.size)
    (I : List α → World → Prop) (Y : List α → α → World → Prop) (Y' : List α → α → Act → World → Prop) (R : List α → World → Prop)
    (h0 : ∀ r, I [] ((w.alloc (.deferred (some []))).alloc (.loop r)))
    (hY : ∀ pre x a' W r, Y' pre x a' W → Y' pre x a' (W.putObj (w.heap.size + 1) (.loop r)))
    (hI : ∀ pre W r, I pre W → I pre (W.putObj (w.heap.size + 1) (.loop r)))
    (hassign : ∀ (l : Nat) (pre : List α) (x : α) (W : World) (K : Act → World → Prop), Y pre x W → w.heap.size + 1 < W.heap.size → (∀ a' W', Same2 w.heap.size W W' → Y' pre x a' W' → K a' W') →
      assign.wpIn (Fence.wide.inRound l) n P (Exit.then K (fun _ _ _ => False)) { tmps := (ps.zip (encs x)).foldl (fun t (p, v) => t.setIfInBounds p v) a.tmps, defers := [] } W)
    (hbody : ∀ (l : Nat) (pre : List α) (x : α) (a' : Act) (W : World), Y' pre x a' W → w.heap.size + 1 < W.heap.size → body.wpIn (Fence.wide.inRound l) n P (fun e _ W' => e = .normal ∧ Same2 w.heap.size W W' ∧ I (pre ++ [x]) W') a' W)
    (hiter : ∀ (L : World → Prop), (∀ A B, L A → Same2 w.heap.size A B → L B) → (∀ A, L A → w.heap.size + 1 < A.heap.size) →
      (∀ pre x W1, Y pre x W1 → L W1 → YieldAt Fence.wide n P (w.heap.size + 1) (encs x) W1 fun e W' => e = .returned (.bool true) ∧ I (pre ++ [x]) W' ∧ L W') →
      ∀ W, I [] W → L W → CallsIn Fence.wide n P gf (#[.func (.yield (w.heap.size + 1)) #[] #[]] ++ lb) W fun e W' => (∃ v, e = .returned v) ∧ (∃ xs, R xs W') ∧ L W')
    (hdone : ∀ xs W r, R xs W → w.heap.size + 1 < W.heap.size → W.heap[w.heap.size]? = some (.deferred (some [])) → Q .normal { a with defers := { target := .collected w.heap.size, args := #[] } :: a.defers } (W.putObj (w.heap.size + 1) (.loop r))) :
    (Code.rangeFunc g ps assign body).wpIn Fence.wide n P Q a w := by
  refine wpIn_rangeFunc ?_
  intro fn _
  obtain ⟨rec, hrec⟩ : ∃ rec : LoopState → Option Code → Loop, rec = fun st pe => { state := st, pending := pe, fn, tmps := a.tmps, params := ps, assign, body, defers := w.heap.size } := ⟨_, rfl⟩
  obtain ⟨W1, hW1⟩ : ∃ W1, (w.alloc (.deferred (some []))).alloc (.loop (rec .ready none)) = W1 := ⟨_, rfl⟩
  have hL1 : W1.heap[w.heap.size + 1]? = some (.loop (rec .ready none)) := by
    rw [← hW1]; have := World.alloc_heap_new (w.alloc (.deferred (some []))) (.loop (rec .ready none)); rwa [World.size_alloc] at this
  have hK1 : W1.heap[w.heap.size]? = some (.deferred (some [])) := by
    rw [← hW1]; exact (Below.heap_alloc _ _ _ (by simp)).trans (World.alloc_heap_new w _)
  refine ⟨w.heap.size + 1, [{ target := .collected w.heap.size, args := #[] }], W1, { target := .fn (.func gf) lb, args := #[.func (.yield (w.heap.size + 1)) #[] #[]] }, W1, gf,
    #[.func (.yield (w.heap.size + 1)) #[] #[]] ++ lb, W1, ?_, ?_, fun _ _ => trivial, ?_, (fun h => by cases h), ?_⟩
  · rw [← hW1, hrec]; exact run_enterLoop_outer _ _ _ _ _
  · simp only [resolve, hg]
    simp [go_sem]
  · simp [invoke, go_sem, eg]
  · have hcall := hiter (fun W => W.heap[w.heap.size + 1]? = some (.loop (rec .ready none)) ∧ W.heap[w.heap.size]? = some (.deferred (some []))) (fun A B h k => ⟨k.2.trans h.1, k.1.trans h.2⟩) (fun A h => (Array.getElem?_eq_some_iff.1 h.1).1) ?_ W1 (by rw [← hW1]; exact h0 _) ⟨hL1, hK1⟩
    · refine callsIn_wide.2 ((callsIn_wide.1 hcall).mono ?_)
      rintro e W' ⟨⟨v, rfl⟩, ⟨xs, hR⟩, hl, hk⟩
      have hlt := (Array.getElem?_eq_some_iff.1 hl).1
      have hend := run_endLoop (P := P) hl (by rw [hrec]; simp)
      refine ⟨_, _, hend, ?_⟩
      rw [hrec]
      exact hdone xs W' _ hR hlt hk
    · rintro pre x W hy ⟨hl, hk⟩
      have hlt : w.heap.size + 1 < W.heap.size := (Array.getElem?_eq_some_iff.1 hl).1
      have hyr := run_yield (P := P) (args := encs x) hl (by rw [hrec]; exact hps x)
      rw [hrec] at hyr
      refine ⟨fn, _, assign, body, hyr, roundIn_of_wpIn trivial (hassign _ pre x W _ hy hlt ?_)⟩
      intro a' Wa hsa hya
      have hl2 : Wa.heap[w.heap.size + 1]? = some (.loop (rec .ready none)) := hsa.2.trans hl
      have hk2 : Wa.heap[w.heap.size]? = some (.deferred (some [])) := hsa.1.trans hk
      have hlt2 : w.heap.size + 1 < Wa.heap.size := (Array.getElem?_eq_some_iff.1 hl2).1
      refine ⟨_, run_beginRound hl2 (by rw [hrec]), ?_⟩
      have hl3 : (Wa.putObj (w.heap.size + 1) (.loop { rec .ready none with state := .busy })).heap[w.heap.size + 1]? = some (.loop { rec .ready none with state := .busy }) := World.putObj_heap_same hlt2
      have hk3 : (Wa.putObj (w.heap.size + 1) (.loop { rec .ready none with state := .busy })).heap[w.heap.size]? = some (.deferred (some [])) := (World.putObj_heap_other (by omega)).trans hk2
      refine wpIn_mono (hbody _ pre x a' _ (hY _ _ _ _ _ hya) (by simpa using hlt2)) ?_
      rintro e a3 W3 ⟨rfl, hs3, hi3⟩
      have hl4 := hs3.2.trans hl3
      have hlt4 := (Array.getElem?_eq_some_iff.1 hl4).1
      have hend := run_endRound (P := P) none hl4
      refine ⟨_, _, hend, rfl, hI _ _ _ hi3, ?_, ?_⟩
      · rw [World.putObj_heap_same hlt4, hrec]; rfl
      · exact (World.putObj_heap_other (by omega)).trans (hs3.1.trans hk3)

end Go.Proofs.Ytobmnkoohgkiiaa
