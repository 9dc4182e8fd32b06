/- The laws' turned. -/
import Derived.Test.YtejbacgkipbmeaaDScr
namespace Go.Proofs.Ytejbacgkipbmeaa
open Go.RowKit Go.Lib

/-- segments, with bits of one byte turned, if it is there -/
def turn1 (q : Stp) (b : List Nat) (k : Int) : List Nat := if k = q.seg ∧ 0 ≤ q.n ∧ q.n < (b.length : Int) then flip b q.n.toNat q.mask else b
def turnL (q : Stp) (L : List (Int × List Nat)) : List (Int × List Nat) := L.map fun x => (x.1, turn1 q x.2 x.1)

/-- append onto nothing, as one step of a region that draws -/
theorem step_copy {w : World} {ops : Array Oper} {o : Oper} {a : Act} {K : Act → World → Prop} {Q : Exit → Act → World → Prop} {E : Prop} (hgd : o.guard = none) (s x : Operand)
    (ho : o.op = .call { callee := .builtin .append, args := #[s, x], argTypes := #[23, 23] }) (g0 : Nat) (hs : a.eval s = .slice (some ⟨g0, 0, none⟩) 0 0) (hg : w.heap[g0]? = some (.cells #[] 5 (0, 0)))
    (v : Value) (l : List Nat) (hx : a.eval x = v) (hr : Row w v l) (hl : l.length ≤ 67108864)
    (h : ∀ ra rc w', Row w' (.slice ra l.length rc) l → Keep (fun i => i = g0) w w' → (∀ g, (Value.slice ra l.length rc).ownBlock = some g → g = g0 ∨ w.heap.size ≤ g) → K (a.put o.dst (.slice ra l.length rc)) w') :
    if Region.wanted o (yielded ops a.tmps) = true then Oper.wp Try.prog o a w K Q else E := by
  have hw : Region.wanted o (yielded ops a.tmps) = true := by simp [Region.wanted, hgd]
  rw [if_pos hw]
  obtain ⟨i0, hi, hz0, hz1, hz2⟩ := info_parts info_u8
  have hown : w.ownsRow 0 5 1 (.slice (some ⟨g0, 0, none⟩) 0 0) 0 [] := ⟨rfl, .inr ⟨g0, 0, #[], rfl, Nat.zero_le _, hg, Nat.le_refl _, Nat.zero_le _, rfl, rfl⟩⟩
  rcases hr.parts with ⟨rfl, rfl⟩ | ⟨g, cap, cur, rfl, h1, h2, h3, h4, h5⟩
  · have hrun := run_append_owned_none (P := Try.prog) (w := w) 0 23 o.type 5 i0 1 Try.underlying23 hi _ 0 [] hown
    unfold Oper.wp
    simp [execOp, ho, resolve, invoke, builtin, hs, hx, hrun, Result.andThen]
    exact h _ _ _ ⟨hown, fun d hd => by cases hd⟩ (Keep.refl _ _) fun g e => .inl (by injection e with e; exact e.symm)
  · obtain ⟨a', c', e', hrd, _⟩ := hr.rd (by omega)
    injection e' with e1 _ e3
    subst e1 e3
    obtain ⟨v', w', hrun, o1, o2, _, o4⟩ := run_append_own_at (P := Try.prog) w 0 23 o.type 5 i0 (.int .u8 0) 1 1 Try.underlying23 hi hz0 hz1 hz2 rfl (by decide) _ 0 [] hown ⟨g, 0, none⟩ l.length cap (B8 l) (by rw [B8_length]; simp) hrd.cells (B8_one l) (by unfold maxLen; omega) (by omega) (Nat.zero_le _)
    rw [Nat.zero_add, List.nil_append] at o1
    obtain ⟨ra, rc, hv⟩ := ownsRow_shape o1
    subst hv
    unfold Oper.wp
    simp [execOp, ho, resolve, invoke, builtin, hs, hx, hrun, Result.andThen]
    refine h _ _ _ ⟨o1, hr.2⟩ (Keep.grown o2 fun k e => by injection e with e; exact e.symm) fun g e => ?_
    rcases o4 with o4 | o4
    · rw [o4] at e; injection e with e; exact .inl e.symm
    · rw [o4] at e; injection e with e; exact .inr (by omega)

/-- a segment stored where one lies, as one step of a region that draws -/
theorem step_seg {w : World} {ops : Array Oper} {o : Oper} {a : Act} {K : Act → World → Prop} {Q : Exit → Act → World → Prop} {E : Prop} (hgd : o.guard = none) (x y : Operand)
    (ho : o.op = .store 63 x y) (hd : o.dst = none) (gx : Nat) (hx : a.eval x = .pointer (some ⟨gx, 0, none⟩)) (k : Int) (ra : Option Addr) (n rc : Nat) (hy : a.eval y = .agg #[.int .i64 k, .slice ra n rc])
    (hg : w.heap[gx]? = some (.cells #[.int .i64 0, .slice none 0 0] 63 (0, 0)))
    (h : ∀ w', w'.heap[gx]? = some (.cells #[.int .i64 k, .slice ra n rc] 63 (0, 0)) → Keep (fun i => i = gx) w w' → K a w') :
    if Region.wanted o (yielded ops a.tmps) = true then Oper.wp Try.prog o a w K Q else E := by
  have hw : Region.wanted o (yielded ops a.tmps) = true := by simp [Region.wanted, hgd]
  rw [if_pos hw]
  refine wp_store_row 63 x y ho gx _ hx hy _ _ hg (by kernel_rfl) rfl (by simp [Value.oneCell']) ?_
  have he : a.put o.dst undef = a := by rw [hd]; rfl
  rw [he]
  refine h _ ?_ ⟨rfl, rfl, rfl, ?_, fun i hi hn => ?_⟩
  · exact setRow_heap w gx _ _ _ _ hg
  · simp [World.setRow]
  · show (w.heap.modify gx _)[i]? = _
    rw [Array.getElem?_modify, if_neg (fun e => hn e.symm)]

/-- a segment of the call's own in memory: its struct, its bytes -/
def SegNew (wr w2 : World) (gx : Nat) (k : Int) (ra : Option Addr) (rc : Nat) (b : List Nat) : Prop :=
  w2.cell? ⟨gx, 0, none⟩ = some (.int .i64 k) ∧ w2.cell? ⟨gx, 1, none⟩ = some (.slice ra b.length rc) ∧ Row w2 (.slice ra b.length rc) b ∧ Keep (fun _ => False) wr w2 ∧ wr.heap.size ≤ gx ∧ ∀ h, (Value.slice ra b.length rc).ownBlock = some h → wr.heap.size ≤ h ∧ h ≠ gx

theorem segNew_set {wr W w1 w2 : World} {g0 gx : Nat} {k : Int} {ra : Option Addr} {rc : Nat} {b : List Nat} (hW : Keep (fun _ => False) wr W) (hk : Keep (fun i => i = g0) W w1) (hr : Row w1 (.slice ra b.length rc) b)
    (hl : ∀ g, (Value.slice ra b.length rc).ownBlock = some g → g = g0 ∨ W.heap.size ≤ g) (h0 : wr.heap.size ≤ g0) (hx : wr.heap.size ≤ gx) (hxW : gx < W.heap.size) (hne : gx ≠ g0) (hk2 : Keep (fun i => i = gx) w1 w2)
    (c0 : w2.cell? ⟨gx, 0, none⟩ = some (.int .i64 k)) (c1 : w2.cell? ⟨gx, 1, none⟩ = some (.slice ra b.length rc)) : SegNew wr w2 gx k ra rc b := by
  have hn : ∀ h, (Value.slice ra b.length rc).ownBlock = some h → wr.heap.size ≤ h ∧ h ≠ gx := fun h e => by
    have := hW.size
    rcases hl h e with e | e <;> omega
  refine ⟨c0, c1, hr.keep hk2 fun g e => (hn g e).2, ?_, hx, hn⟩
  refine (hW.trans hk fun i e => .inr ?_).trans hk2 fun i e => .inr ?_
  · have e : i = g0 := e
    omega
  · have e : i = gx := e
    omega
theorem segNew_new {wr W w1 : World} {g0 : Nat} {k : Int} {ra : Option Addr} {rc : Nat} {b : List Nat} (hW : Keep (fun _ => False) wr W) (hk : Keep (fun i => i = g0) W w1) (hr : Row w1 (.slice ra b.length rc) b)
    (hl : ∀ g, (Value.slice ra b.length rc).ownBlock = some g → g = g0 ∨ W.heap.size ≤ g) (h0 : wr.heap.size ≤ g0) :
    SegNew wr (w1.alloc (.cells #[.int .i64 k, .slice ra b.length rc] 63 (0, 0))) w1.heap.size k ra rc b := by
  have hs := hW.size
  have hs1 := hk.size
  refine ⟨by rw [cell_of_row _ _ _ _ _ _ (heap_alloc_new w1 _)]; rfl, by rw [cell_of_row _ _ _ _ _ _ (heap_alloc_new w1 _)]; rfl, hr.keep (Keep.alloc (fun _ => False) w1 _) fun _ _ f => f, ?_, by omega, fun h e => ?_⟩
  · refine (hW.trans hk fun i e => .inr ?_).more (Keep.alloc _ _ _)
    have e : i = g0 := e
    omega
  · have := (hr.1.lt h e).2
    rcases hl h e with e | e <;> omega

theorem SegNew.turn {wr w2 : World} {gx gb cap : Nat} {k : Int} {b : List Nat} (h : SegNew wr w2 gx k (some ⟨gb, 0, none⟩) cap b) (i m : Nat) (hi : i < b.length) (hm : m < 256) :
    SegNew wr (w2.setCell ⟨gb, i, none⟩ (.int .u8 ((b.getD i 0 ^^^ m : Nat) : Int))) gx k (some ⟨gb, 0, none⟩) cap (flip b i m) := by
  obtain ⟨c0, c1, hr, hk, hx, ho⟩ := h
  have hg := ho gb rfl
  have ks : Keep (fun j => j = gb) w2 (w2.setCell ⟨gb, i, none⟩ (.int .u8 ((b.getD i 0 ^^^ m : Nat) : Int))) := Keep.setCell (S := fun j => j = gb) _ rfl _
  unfold SegNew
  rw [flip_length]
  exact ⟨ks.cell c0 fun e => hg.2 (Eq.symm e), ks.cell c1 fun e => hg.2 (Eq.symm e), hr.turn i m hi hm, hk.trans ks fun j e => .inr (by have e : j = gb := e; omega), hx, ho⟩

theorem RdS.row_ {lo : Nat} {w : World} {a : Option Addr} {L : List (Int × List Nat)} (h : RdS lo w a L) (j : Nat) (hj : j < L.length) (hb : ∀ x ∈ L, x.2.length < 281474976710656) :
    ∃ g, a = some ⟨g, 0, none⟩ ∧ w.cell? ⟨g, j * 2, none⟩ = some (.int .i64 L[j].1) ∧ ∃ ba bc, w.cell? ⟨g, j * 2 + 1, none⟩ = some (.slice ba L[j].2.length bc) ∧ Row w (.slice ba L[j].2.length bc) L[j].2 := by
  obtain ⟨g, e, _, h2, v, h3, h4, _⟩ := h.2 j hj
  obtain ⟨ba, bc, hv, _⟩ := h4.rd (hb _ (List.getElem_mem hj))
  subst hv
  rw [Nat.mul_comm] at h2 h3
  exact ⟨g, e, h2, ba, bc, h3, h4⟩

end Go.Proofs.Ytejbacgkipbmeaa
