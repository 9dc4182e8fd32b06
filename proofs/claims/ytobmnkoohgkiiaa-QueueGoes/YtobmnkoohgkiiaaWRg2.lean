/- A range over a function that a round may leave early; and one within a round of another. -/
import Derived.Test.YtobmnkoohgkiiaaWRng
namespace Go.Proofs.Ytobmnkoohgkiiaa
open Go.RowKit


/-- the outermost one: a round ends normally, or leaves by a jump -/
theorem wp_range2 {α : Type} {P : Program} {n : Nat} {g : Operand} {ps : Array Tmp} {assign body : Code} {Q : Exit → Act → World → Prop} {a : Act} {w : World}
    {gf : Nat} {lb : Array Value} (hg : a.eval g = .func (.func gf) #[] lb) (eg : ∀ args w, (callFunc gf args).run P w = .ok (.enter gf args) w)
    {encs : α → Array Value} (hps : ∀ x, (encs x).size = ps.size)
    (I : List α → World → Prop) (Ix : Nat → List α → World → Prop) (Y : List α → α → World → Prop) (Y' : List α → α → Act → World → Prop) (R : List α → World → Prop)
    (h0 : ∀ r, I [] ((w.alloc (.deferred (some []))).alloc (.loop r)))
    (hY : ∀ pre x a' W r, Y' pre x a' W → Y' pre x a' (W.putObj (w.heap.size + 1) (.loop r)))
    (hI : ∀ pre W r, I pre W → I pre (W.putObj (w.heap.size + 1) (.loop r)))
    (hIx : ∀ c pre W r, Ix c pre W → Ix c pre (W.putObj (w.heap.size + 1) (.loop r)))
    (hassign : ∀ (l : Nat) (pre : List α) (x : α) (W : World) (K : Act → World → Prop), Y pre x W → w.heap.size + 1 < W.heap.size → (∀ a' W', Same2 w.heap.size W W' → Y' pre x a' W' → K a' W') →
      assign.wpIn (Fence.wide.inRound l) n P (Exit.then K (fun _ _ _ => False)) { tmps := (ps.zip (encs x)).foldl (fun t (p, v) => t.setIfInBounds p v) a.tmps, defers := [] } W)
    (hbody : ∀ (pre : List α) (x : α) (a' : Act) (W : World), Y' pre x a' W → w.heap.size + 1 < W.heap.size → (∃ r, W.heap[w.heap.size + 1]? = some (.loop r)) →
      body.wpIn (Fence.wide.inRound (w.heap.size + 1)) n P (fun e _ W' => Same2 w.heap.size W W' ∧ ((e = .normal ∧ I (pre ++ [x]) W') ∨ ∃ c, e = .exit c ∧ Ix c (pre ++ [x]) W')) a' W)
    (hiter : ∀ (L : World → Prop) (L' : Nat → World → Prop), (∀ A B, L A → Keep (fun _ => False) A B → L B) →
      (∀ pre x W1, Y pre x W1 → L W1 → YieldAt Fence.wide n P (w.heap.size + 1) (encs x) W1 fun e W' => (e = .returned (.bool true) ∧ I (pre ++ [x]) W' ∧ L W') ∨ (e = .returned (.bool false) ∧ ∃ c, Ix c (pre ++ [x]) W' ∧ L' c W')) →
      ∀ W, I [] W → L W → CallsIn Fence.wide n P gf (#[.func (.yield (w.heap.size + 1)) #[] #[]] ++ lb) W fun e W' => (∃ v, e = .returned v) ∧ ((∃ xs, R xs W' ∧ L W') ∨ ∃ c pre, Ix c pre W' ∧ L' c W'))
    (hdone : ∀ xs W r, R xs W → w.heap.size + 1 < W.heap.size → W.heap[w.heap.size]? = some (.deferred (some [])) → Q .normal { a with defers := { target := .collected w.heap.size, args := #[] } :: a.defers } (W.putObj (w.heap.size + 1) (.loop r)))
    (hstop : ∀ c pre W r, Ix c pre W → w.heap.size + 1 < W.heap.size → W.heap[w.heap.size]? = some (.deferred (some [])) → (Code.exit c).wpIn Fence.wide n P Q { a with defers := { target := .collected w.heap.size, args := #[] } :: a.defers } (W.putObj (w.heap.size + 1) (.loop r))) :
    (Code.rangeFunc g ps assign body).wpIn Fence.wide n P Q a w := by
  refine wpIn_rangeFunc ?_
  intro fn _
  obtain ⟨rec, hrec⟩ : ∃ rec : LoopState → Option Code → Loop, rec = fun st pe => { state := st, pending := pe, fn, tmps := a.tmps, params := ps, assign, body, defers := w.heap.size } := ⟨_, rfl⟩
  obtain ⟨W1, hW1⟩ : ∃ W1, (w.alloc (.deferred (some []))).alloc (.loop (rec .ready none)) = W1 := ⟨_, rfl⟩
  have hL1 : W1.heap[w.heap.size + 1]? = some (.loop (rec .ready none)) := by
    rw [← hW1]; have := World.alloc_heap_new (w.alloc (.deferred (some []))) (.loop (rec .ready none)); rwa [World.size_alloc] at this
  have hK1 : W1.heap[w.heap.size]? = some (.deferred (some [])) := by
    rw [← hW1]; exact (Below.heap_alloc _ _ _ (by simp)).trans (World.alloc_heap_new w _)
  refine ⟨w.heap.size + 1, [{ target := .collected w.heap.size, args := #[] }], W1, { target := .fn (.func gf) lb, args := #[.func (.yield (w.heap.size + 1)) #[] #[]] }, W1, gf,
    #[.func (.yield (w.heap.size + 1)) #[] #[]] ++ lb, W1, ?_, ?_, fun _ _ => trivial, ?_, (fun h => by cases h), ?_⟩
  · rw [← hW1, hrec]; exact run_enterLoop_outer _ _ _ _ _
  · simp only [resolve, hg]
    simp [go_sem]
  · simp [invoke, go_sem, eg]
  · have hcall := hiter (fun W => W.heap[w.heap.size + 1]? = some (.loop (rec .ready none)) ∧ W.heap[w.heap.size]? = some (.deferred (some []))) (fun c W => W.heap[w.heap.size + 1]? = some (.loop (rec .done (some (.exit c)))) ∧ W.heap[w.heap.size]? = some (.deferred (some [])))
      (fun A B h k => ⟨k.blk h.1 fun f => f, k.blk h.2 fun f => f⟩) ?_ W1 (by rw [← hW1]; exact h0 _) ⟨hL1, hK1⟩
    · refine callsIn_wide.2 ((callsIn_wide.1 hcall).mono ?_)
      rintro e W' ⟨⟨v, rfl⟩, (⟨xs, hR, hl, hk⟩ | ⟨c, pre, hR, hl, hk⟩)⟩
      · have hlt := (Array.getElem?_eq_some_iff.1 hl).1
        have hend := run_endLoop (P := P) hl (by rw [hrec]; simp)
        refine ⟨_, _, hend, ?_⟩
        rw [hrec]
        exact hdone xs W' _ hR hlt hk
      · have hlt := (Array.getElem?_eq_some_iff.1 hl).1
        have hend := run_endLoop (P := P) hl (by rw [hrec]; simp)
        refine ⟨_, _, hend, ?_⟩
        rw [hrec]
        exact hstop c pre W' _ hR hlt hk
    · rintro pre x W hy ⟨hl, hk⟩
      have hlt : w.heap.size + 1 < W.heap.size := (Array.getElem?_eq_some_iff.1 hl).1
      have hyr := run_yield (P := P) (args := encs x) hl (by rw [hrec]; exact hps x)
      rw [hrec] at hyr
      refine ⟨fn, _, assign, body, hyr, roundIn_of_wpIn trivial (hassign _ pre x W _ hy hlt ?_)⟩
      intro a' Wa hsa hya
      have hl2 : Wa.heap[w.heap.size + 1]? = some (.loop (rec .ready none)) := hsa.2.trans hl
      have hk2 : Wa.heap[w.heap.size]? = some (.deferred (some [])) := hsa.1.trans hk
      have hlt2 : w.heap.size + 1 < Wa.heap.size := (Array.getElem?_eq_some_iff.1 hl2).1
      refine ⟨_, run_beginRound hl2 (by rw [hrec]), ?_⟩
      have hl3 : (Wa.putObj (w.heap.size + 1) (.loop { rec .ready none with state := .busy })).heap[w.heap.size + 1]? = some (.loop { rec .ready none with state := .busy }) := World.putObj_heap_same hlt2
      have hk3 : (Wa.putObj (w.heap.size + 1) (.loop { rec .ready none with state := .busy })).heap[w.heap.size]? = some (.deferred (some [])) := (World.putObj_heap_other (by omega)).trans hk2
      refine wpIn_mono (hbody pre x a' _ (hY _ _ _ _ _ hya) (by simpa using hlt2) ⟨_, hl3⟩) ?_
      rintro e a3 W3 ⟨hs3, (⟨rfl, hi3⟩ | ⟨c, rfl, hi3⟩)⟩
      · have hl4 := hs3.2.trans hl3
        have hlt4 := (Array.getElem?_eq_some_iff.1 hl4).1
        have hend := run_endRound (P := P) none hl4
        refine ⟨_, _, hend, .inl ⟨rfl, hI _ _ _ hi3, ?_, ?_⟩⟩
        · rw [World.putObj_heap_same hlt4, hrec]; rfl
        · exact (World.putObj_heap_other (by omega)).trans (hs3.1.trans hk3)
      · have hl4 := hs3.2.trans hl3
        have hlt4 := (Array.getElem?_eq_some_iff.1 hl4).1
        have hend := run_endRound (P := P) (some (.exit c)) hl4
        refine ⟨_, _, hend, .inr ⟨rfl, c, hIx _ _ _ _ hi3, ?_, ?_⟩⟩
        · rw [World.putObj_heap_same hlt4, hrec]; rfl
        · exact (World.putObj_heap_other (by omega)).trans (hs3.1.trans hk3)

/-- its two ways out as one -/
theorem wp_range2E {α : Type} {P : Program} {n : Nat} {g : Operand} {ps : Array Tmp} {assign body : Code} {Q : Exit → Act → World → Prop} {a : Act} {w : World}
    {gf : Nat} {lb : Array Value} (hg : a.eval g = .func (.func gf) #[] lb) (eg : ∀ args w, (callFunc gf args).run P w = .ok (.enter gf args) w)
    {encs : α → Array Value} (hps : ∀ x, (encs x).size = ps.size)
    (I : List α → World → Prop) (Ix : Nat → List α → World → Prop) (Y : List α → α → World → Prop) (Y' : List α → α → Act → World → Prop) (R : List α → World → Prop) (E : World → Prop)
    (h0 : ∀ r, I [] ((w.alloc (.deferred (some []))).alloc (.loop r)))
    (hY : ∀ pre x a' W r, Y' pre x a' W → Y' pre x a' (W.putObj (w.heap.size + 1) (.loop r)))
    (hI : ∀ pre W r, I pre W → I pre (W.putObj (w.heap.size + 1) (.loop r)))
    (hIx : ∀ c pre W r, Ix c pre W → Ix c pre (W.putObj (w.heap.size + 1) (.loop r)))
    (hassign : ∀ (l : Nat) (pre : List α) (x : α) (W : World) (K : Act → World → Prop), Y pre x W → w.heap.size + 1 < W.heap.size → (∀ a' W', Same2 w.heap.size W W' → Y' pre x a' W' → K a' W') →
      assign.wpIn (Fence.wide.inRound l) n P (Exit.then K (fun _ _ _ => False)) { tmps := (ps.zip (encs x)).foldl (fun t (p, v) => t.setIfInBounds p v) a.tmps, defers := [] } W)
    (hbody : ∀ (pre : List α) (x : α) (a' : Act) (W : World), Y' pre x a' W → w.heap.size + 1 < W.heap.size → (∃ r, W.heap[w.heap.size + 1]? = some (.loop r)) →
      body.wpIn (Fence.wide.inRound (w.heap.size + 1)) n P (fun e _ W' => Same2 w.heap.size W W' ∧ ((e = .normal ∧ I (pre ++ [x]) W') ∨ ∃ c, e = .exit c ∧ Ix c (pre ++ [x]) W')) a' W)
    (hiter : ∀ (L : World → Prop) (L' : Nat → World → Prop), (∀ A B, L A → Keep (fun _ => False) A B → L B) →
      (∀ pre x W1, Y pre x W1 → L W1 → YieldAt Fence.wide n P (w.heap.size + 1) (encs x) W1 fun e W' => (e = .returned (.bool true) ∧ I (pre ++ [x]) W' ∧ L W') ∨ (e = .returned (.bool false) ∧ ∃ c, Ix c (pre ++ [x]) W' ∧ L' c W')) →
      ∀ W, I [] W → L W → CallsIn Fence.wide n P gf (#[.func (.yield (w.heap.size + 1)) #[] #[]] ++ lb) W fun e W' => (∃ v, e = .returned v) ∧ ((∃ xs, R xs W' ∧ L W') ∨ ∃ c pre, Ix c pre W' ∧ L' c W'))
    (hRE : ∀ xs W, R xs W → E W) (hXE : ∀ c pre W, Ix c pre W → E W)
    (hx : ∀ c pre W a W', Ix c pre W → Q .normal a W' → (Code.exit c).wpIn Fence.wide n P Q a W')
    (hrest : ∀ W r, E W → w.heap.size + 1 < W.heap.size → W.heap[w.heap.size]? = some (.deferred (some [])) → Q .normal { a with defers := { target := .collected w.heap.size, args := #[] } :: a.defers } (W.putObj (w.heap.size + 1) (.loop r))) :
    (Code.rangeFunc g ps assign body).wpIn Fence.wide n P Q a w :=
  wp_range2 hg eg hps I Ix Y Y' R h0 hY hI hIx hassign hbody hiter (fun xs W r h1 h2 h3 => hrest W r (hRE xs W h1) h2 h3) fun c pre W r h1 h2 h3 => hx c pre W _ _ h1 (hrest W r (hXE c pre W h1) h2 h3)

/-- one within a round of another: it lays one block, its own record -/
theorem wp_range2N {α : Type} {P : Program} {n : Nat} {g : Operand} {ps : Array Tmp} {assign body : Code} {Q : Exit → Act → World → Prop} {a : Act} {w : World}
    {l₀ : Nat} {r₀ : Loop} (hl₀ : w.heap[l₀]? = some (.loop r₀)) {gf : Nat} {lb : Array Value} (hg : a.eval g = .func (.func gf) #[] lb) (eg : ∀ args w, (callFunc gf args).run P w = .ok (.enter gf args) w)
    {encs : α → Array Value} (hps : ∀ x, (encs x).size = ps.size)
    (I : List α → World → Prop) (Ix : Nat → List α → World → Prop) (Y : List α → α → World → Prop) (Y' : List α → α → Act → World → Prop) (R : List α → World → Prop)
    (h0 : ∀ r, I [] (w.alloc (.loop r)))
    (hY : ∀ pre x a' W r, Y' pre x a' W → Y' pre x a' (W.putObj w.heap.size (.loop r)))
    (hI : ∀ pre W r, I pre W → I pre (W.putObj w.heap.size (.loop r)))
    (hIx : ∀ c pre W r, Ix c pre W → Ix c pre (W.putObj w.heap.size (.loop r)))
    (hassign : ∀ (l : Nat) (pre : List α) (x : α) (W : World) (K : Act → World → Prop), Y pre x W → w.heap.size < W.heap.size → (∀ a' W', W'.heap[w.heap.size]? = W.heap[w.heap.size]? → Y' pre x a' W' → K a' W') →
      assign.wpIn (Fence.wide.inRound l) n P (Exit.then K (fun _ _ _ => False)) { tmps := (ps.zip (encs x)).foldl (fun t (p, v) => t.setIfInBounds p v) a.tmps, defers := [] } W)
    (hbody : ∀ (pre : List α) (x : α) (a' : Act) (W : World), Y' pre x a' W → w.heap.size < W.heap.size →
      body.wpIn (Fence.wide.inRound w.heap.size) n P (fun e _ W' => W'.heap[w.heap.size]? = W.heap[w.heap.size]? ∧ ((e = .normal ∧ I (pre ++ [x]) W') ∨ ∃ c, e = .exit c ∧ Ix c (pre ++ [x]) W')) a' W)
    (hiter : ∀ (L : World → Prop) (L' : Nat → World → Prop), (∀ A B, L A → Keep (fun _ => False) A B → L B) →
      (∀ pre x W1, Y pre x W1 → L W1 → YieldAt Fence.wide n P w.heap.size (encs x) W1 fun e W' => (e = .returned (.bool true) ∧ I (pre ++ [x]) W' ∧ L W') ∨ (e = .returned (.bool false) ∧ ∃ c, Ix c (pre ++ [x]) W' ∧ L' c W')) →
      ∀ W, I [] W → L W → CallsIn Fence.wide n P gf (#[.func (.yield w.heap.size) #[] #[]] ++ lb) W fun e W' => (∃ v, e = .returned v) ∧ ((∃ xs, R xs W' ∧ L W') ∨ ∃ c pre, Ix c pre W' ∧ L' c W'))
    (hdone : ∀ xs W r, R xs W → w.heap.size < W.heap.size → Q .normal a (W.putObj w.heap.size (.loop r)))
    (hstop : ∀ c pre W r, Ix c pre W → w.heap.size < W.heap.size → (Code.exit c).wpIn (Fence.wide.inRound l₀) n P Q a (W.putObj w.heap.size (.loop r))) :
    (Code.rangeFunc g ps assign body).wpIn (Fence.wide.inRound l₀) n P Q a w := by
  refine wpIn_rangeFunc ?_
  intro fn hfn
  rw [show (Fence.wide.inRound l₀).round = some l₀ from rfl]
  obtain ⟨rec, hrec⟩ : ∃ rec : LoopState → Option Code → Loop, rec = fun st pe => { state := st, pending := pe, fn, tmps := a.tmps, params := ps, assign, body, defers := r₀.defers } := ⟨_, rfl⟩
  obtain ⟨W1, hW1⟩ : ∃ W1, w.alloc (.loop (rec .ready none)) = W1 := ⟨_, rfl⟩
  have hL1 : W1.heap[w.heap.size]? = some (.loop (rec .ready none)) := by rw [← hW1]; exact World.alloc_heap_new w _
  refine ⟨w.heap.size, [], W1, { target := .fn (.func gf) lb, args := #[.func (.yield w.heap.size) #[] #[]] }, W1, gf,
    #[.func (.yield w.heap.size) #[] #[]] ++ lb, W1, ?_, ?_, fun _ _ => trivial, ?_, (fun h => by cases h), ?_⟩
  · rw [← hW1, hrec]; exact run_enterLoop_inner hl₀ _ _ _ _ _
  · simp only [resolve, hg]
    simp [go_sem]
  · simp [invoke, go_sem, eg]
  · have hcall := hiter (fun W => W.heap[w.heap.size]? = some (.loop (rec .ready none))) (fun c W => W.heap[w.heap.size]? = some (.loop (rec .done (some (.exit c)))))
      (fun A B h k => k.blk h fun f => f) ?_ W1 (by rw [← hW1]; exact h0 _) hL1
    · refine CallsIn.inRound l₀ (callsIn_wide.2 ((callsIn_wide.1 hcall).mono ?_))
      rintro e W' ⟨⟨v, rfl⟩, (⟨xs, hR, hl⟩ | ⟨c, pre, hR, hl⟩)⟩
      · have hlt := (Array.getElem?_eq_some_iff.1 hl).1
        have hend := run_endLoop (P := P) hl (by rw [hrec]; simp)
        refine ⟨_, _, hend, ?_⟩
        rw [hrec]
        exact hdone xs W' _ hR hlt
      · have hlt := (Array.getElem?_eq_some_iff.1 hl).1
        have hend := run_endLoop (P := P) hl (by rw [hrec]; simp)
        refine ⟨_, _, hend, ?_⟩
        rw [hrec]
        exact hstop c pre W' _ hR hlt
    · rintro pre x W hy hl
      have hlt : w.heap.size < W.heap.size := (Array.getElem?_eq_some_iff.1 hl).1
      have hyr := run_yield (P := P) (args := encs x) hl (by rw [hrec]; exact hps x)
      rw [hrec] at hyr
      refine ⟨fn, _, assign, body, hyr, roundIn_of_wpIn trivial (hassign _ pre x W _ hy hlt ?_)⟩
      intro a' Wa hsa hya
      have hl2 : Wa.heap[w.heap.size]? = some (.loop (rec .ready none)) := hsa.trans hl
      have hlt2 : w.heap.size < Wa.heap.size := (Array.getElem?_eq_some_iff.1 hl2).1
      refine ⟨_, run_beginRound hl2 (by rw [hrec]), ?_⟩
      have hl3 : (Wa.putObj w.heap.size (.loop { rec .ready none with state := .busy })).heap[w.heap.size]? = some (.loop { rec .ready none with state := .busy }) := World.putObj_heap_same hlt2
      refine wpIn_mono (hbody pre x a' _ (hY _ _ _ _ _ hya) (by simpa using hlt2)) ?_
      rintro e a3 W3 ⟨hs3, (⟨rfl, hi3⟩ | ⟨c, rfl, hi3⟩)⟩
      · have hl4 := hs3.trans hl3
        have hlt4 := (Array.getElem?_eq_some_iff.1 hl4).1
        have hend := run_endRound (P := P) none hl4
        refine ⟨_, _, hend, .inl ⟨rfl, hI _ _ _ hi3, ?_⟩⟩
        rw [World.putObj_heap_same hlt4, hrec]; rfl
      · have hl4 := hs3.trans hl3
        have hlt4 := (Array.getElem?_eq_some_iff.1 hl4).1
        have hend := run_endRound (P := P) (some (.exit c)) hl4
        refine ⟨_, _, hend, .inr ⟨rfl, c, hIx _ _ _ _ hi3, ?_⟩⟩
        rw [World.putObj_heap_same hlt4, hrec]; rfl

/-- its two ways out as one -/
theorem wp_range2NE {α : Type} {P : Program} {n : Nat} {g : Operand} {ps : Array Tmp} {assign body : Code} {Q : Exit → Act → World → Prop} {a : Act} {w : World}
    {l₀ : Nat} {r₀ : Loop} (hl₀ : w.heap[l₀]? = some (.loop r₀)) {gf : Nat} {lb : Array Value} (hg : a.eval g = .func (.func gf) #[] lb) (eg : ∀ args w, (callFunc gf args).run P w = .ok (.enter gf args) w)
    {encs : α → Array Value} (hps : ∀ x, (encs x).size = ps.size)
    (I : List α → World → Prop) (Ix : Nat → List α → World → Prop) (Y : List α → α → World → Prop) (Y' : List α → α → Act → World → Prop) (R : List α → World → Prop) (E : World → Prop)
    (h0 : ∀ r, I [] (w.alloc (.loop r)))
    (hY : ∀ pre x a' W r, Y' pre x a' W → Y' pre x a' (W.putObj w.heap.size (.loop r)))
    (hI : ∀ pre W r, I pre W → I pre (W.putObj w.heap.size (.loop r)))
    (hIx : ∀ c pre W r, Ix c pre W → Ix c pre (W.putObj w.heap.size (.loop r)))
    (hassign : ∀ (l : Nat) (pre : List α) (x : α) (W : World) (K : Act → World → Prop), Y pre x W → w.heap.size < W.heap.size → (∀ a' W', W'.heap[w.heap.size]? = W.heap[w.heap.size]? → Y' pre x a' W' → K a' W') →
      assign.wpIn (Fence.wide.inRound l) n P (Exit.then K (fun _ _ _ => False)) { tmps := (ps.zip (encs x)).foldl (fun t (p, v) => t.setIfInBounds p v) a.tmps, defers := [] } W)
    (hbody : ∀ (pre : List α) (x : α) (a' : Act) (W : World), Y' pre x a' W → w.heap.size < W.heap.size →
      body.wpIn (Fence.wide.inRound w.heap.size) n P (fun e _ W' => W'.heap[w.heap.size]? = W.heap[w.heap.size]? ∧ ((e = .normal ∧ I (pre ++ [x]) W') ∨ ∃ c, e = .exit c ∧ Ix c (pre ++ [x]) W')) a' W)
    (hiter : ∀ (L : World → Prop) (L' : Nat → World → Prop), (∀ A B, L A → Keep (fun _ => False) A B → L B) →
      (∀ pre x W1, Y pre x W1 → L W1 → YieldAt Fence.wide n P w.heap.size (encs x) W1 fun e W' => (e = .returned (.bool true) ∧ I (pre ++ [x]) W' ∧ L W') ∨ (e = .returned (.bool false) ∧ ∃ c, Ix c (pre ++ [x]) W' ∧ L' c W')) →
      ∀ W, I [] W → L W → CallsIn Fence.wide n P gf (#[.func (.yield w.heap.size) #[] #[]] ++ lb) W fun e W' => (∃ v, e = .returned v) ∧ ((∃ xs, R xs W' ∧ L W') ∨ ∃ c pre, Ix c pre W' ∧ L' c W'))
    (hRE : ∀ xs W, R xs W → E W) (hXE : ∀ c pre W, Ix c pre W → E W)
    (hx : ∀ c pre W a W', Ix c pre W → Q .normal a W' → (Code.exit c).wpIn (Fence.wide.inRound l₀) n P Q a W')
    (hrest : ∀ W r, E W → w.heap.size < W.heap.size → Q .normal a (W.putObj w.heap.size (.loop r))) :
    (Code.rangeFunc g ps assign body).wpIn (Fence.wide.inRound l₀) n P Q a w :=
  wp_range2N hl₀ hg eg hps I Ix Y Y' R h0 hY hI hIx hassign hbody hiter (fun xs W r h1 h2 => hrest W r (hRE xs W h1) h2) fun c pre W r h1 h2 => hx c pre W _ _ h1 (hrest W r (hXE c pre W h1) h2)

end Go.Proofs.Ytobmnkoohgkiiaa
