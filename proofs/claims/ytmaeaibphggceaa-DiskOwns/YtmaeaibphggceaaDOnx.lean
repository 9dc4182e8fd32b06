/- DiskOwns: from one step of the first loop to the next. -/
import Derived.Test.YtmaeaibphggceaaDOsq
import Derived.Test.YtmaeaibphggceaaDOin
namespace Go.Proofs.Ytmaeaibphggceaa
open Go.RowKit Go.Lib

theorem Keep.low {P U : Nat → Prop} {w w1 w2 : World} (h : Keep P w w1) (k : Keep U w1 w2) (hU : ∀ b, b < w.heap.size → U b → P b) : Keep P w w2 :=
  ⟨k.os.trans h.os, k.tape.trans h.tape, k.output.trans h.output, Nat.le_trans h.size k.size, fun b hb hn => (k.block b (Nat.lt_of_lt_of_le hb h.size) fun hu => hn (hU b hb hu)).trans (h.block b hb hn)⟩
theorem info_errno : (Try.prog.info? 31).map (fun i => (i.zero, i.size, i.bytes)) = some (some (.int .i64 0), 1, 8) := by kernel_rfl
theorem wp_appendE {w : World} {ops : Array Oper} {rest : List Oper} {o : Oper} {a : Act} {Q : Exit → Act → World → Prop} (hgd : o.guard = none) (s x : Operand)
    (ho : o.op = .call { callee := .builtin .append, args := #[s, x], argTypes := #[30, 30] })
    (base : Nat) (v : Value) (n : Nat) (cs : List Int) (hs : a.eval s = v) (hown : w.ownsRow base 31 1 v n (Zv cs)) (ad : Addr) (y : Int) (hx : a.eval x = .slice (some ad) 1 1) (hc : w.cell? ad = some (.int .i64 y)) (hn : n + 1 ≤ 17592186044416) (hbase : base ≤ w.heap.size)
    (h : ∀ v' w', w'.ownsRow base 31 1 v' (n + 1) (Zv (cs ++ [y])) → Keep (fun k => v.ownBlock = some k) w w' → NewBlk w v v' → wpList Try.prog ops Q rest (a.put o.dst v') w') : wpList Try.prog ops Q (o :: rest) a w := by
  obtain ⟨i0, hi, hz0, hz1, hz2⟩ := info_parts info_errno
  refine wpList_append_own2 hgd s x 30 ho base 31 i0 (.int .i64 0) 1 8 Try.underlying30 hi hz0 hz1 hz2 rfl (by decide) v n (Zv cs) hs hown ad 1 1 [.int .i64 y] hx rfl (fun j u hu => ?_) (fun u hu => by rw [List.mem_singleton.1 hu]; rfl) (by unfold maxLen; omega) (by omega) hbase ?_
  · cases j with
    | zero =>
      have : u = .int .i64 y := by simpa using hu.symm
      subst this
      simpa [Addr.add] using hc
    | succ j => simp at hu
  · intro v' w' h1 h2 h3
    refine h v' w' ?_ (Keep.grown h2 fun k e => e) h3
    rw [Zv_append]
    exact h1
variable {W : World} {lo1 lo2 : Nat} {w5 : World} {gR gY m2 l1 p p2 : Nat} {s0 : St} {qs : List Stp} {i : Nat} {cs : List Int} {s : St} {cv : Value} {wr : World}
/-- how the law's blocks lie -/
structure Ord5 (W : World) (lo1 lo2 : Nat) (w5 : World) (gR gY : Nat) : Prop where
  a : W.heap.size ≤ lo1
  b : lo1 ≤ lo2
  c : lo2 ≤ gR
  d : gR < gY
  e : gY < w5.heap.size
theorem OwI.turn {w w' : World} (h : OwI W lo1 lo2 w5 gR gY m2 l1 p p2 s0 (fun i => lo2 ≤ i ∧ i < gR) qs i cs s cv w) (o : Ord5 W lo1 lo2 w5 gR gY) (k : Keep (fun b => b = gR ∨ b = gY) w w')
    (hR : ∃ X, w'.ownsRow 0 5 1 (.slice (some ⟨gR, 0, none⟩) m2 m2) m2 (B8 X) ∧ ∀ x ∈ X, x < 256)
    (hY : ∃ Z, w'.ownsRow 0 3 1 (.slice (some ⟨gY, 0, none⟩) l1 l1) l1 (Zv Z) ∧ ∀ x ∈ Z, -9223372036854775808 ≤ x ∧ x ≤ 9223372036854775807) : OwI W lo1 lo2 w5 gR gY m2 l1 p p2 s0 (fun i => lo2 ≤ i ∧ i < gR) qs i cs s cv w' := by
  obtain ⟨oa, ob, oc, od, oe⟩ := o
  obtain ⟨S, hd, hr, hc⟩ := h.d
  refine ⟨⟨S, hd.stay k fun b hb hT => ?_, hr, hc⟩, h.e.stay k fun b hb hT => ?_, h.g, h.run, ownsRow_keep h.cd k fun b e hT => ?_, hR, hY, h.k.low k fun b hb hT => ?_, h.wk.low k fun b hb hT => ?_⟩
  · have := hr b hb
    rcases hT with e | e <;> omega
  · rcases hT with e | e <;> omega
  · have := (h.cd.lt b e).1
    rcases hT with e | e <;> omega
  · exact .inr hT
  · rcases hT with e | e <;> omega
theorem OwI.putR {w : World} (h : OwI W lo1 lo2 w5 gR gY m2 l1 p p2 s0 (fun i => lo2 ≤ i ∧ i < gR) qs i cs s cv w) (o : Ord5 W lo1 lo2 w5 gR gY) (j : Nat) (hj : j < m2) :
    (∃ x : Nat, w.cell? ⟨gR, j, none⟩ = some (.int .u8 (x : Nat))) ∧ w.frozen? ⟨gR, j, none⟩ = false ∧ OwI W lo1 lo2 w5 gR gY m2 l1 p p2 s0 (fun i => lo2 ≤ i ∧ i < gR) qs i cs s cv (w.setCell ⟨gR, j, none⟩ (.int .u8 255)) := by
  obtain ⟨X, hX, hXb⟩ := h.rm
  obtain ⟨Z, hZ, hZb⟩ := h.wy
  have hd := o.d
  have k := Keep.setCell (S := fun i => i = gR) w (p := ⟨gR, j, none⟩) rfl (.int .u8 255)
  refine ⟨⟨_, row_cellB hX j hj⟩, hX.frozenAt j, h.turn o (k.mono fun b e => .inl e) ⟨X.set j 255, row_setB hX j 255, fun x hx => ?_⟩ ⟨Z, ownsRow_keep hZ k fun b e => by cases e; exact fun (e : gY = gR) => by omega, hZb⟩⟩
  rcases List.mem_or_eq_of_mem_set hx with h | h
  · exact hXb x h
  · omega
theorem OwI.putY {w : World} (h : OwI W lo1 lo2 w5 gR gY m2 l1 p p2 s0 (fun i => lo2 ≤ i ∧ i < gR) qs i cs s cv w) (o : Ord5 W lo1 lo2 w5 gR gY) (j : Nat) (hj : j < l1) :
    (∃ x : Int, w.cell? ⟨gY, j, none⟩ = some (.int .i64 x)) ∧ w.frozen? ⟨gY, j, none⟩ = false ∧ OwI W lo1 lo2 w5 gR gY m2 l1 p p2 s0 (fun i => lo2 ≤ i ∧ i < gR) qs i cs s cv (w.setCell ⟨gY, j, none⟩ (.int .i64 99)) := by
  obtain ⟨X, hX, hXb⟩ := h.rm
  obtain ⟨Z, hZ, hZb⟩ := h.wy
  have hd := o.d
  have k := Keep.setCell (S := fun i => i = gY) w (p := ⟨gY, j, none⟩) rfl (.int .i64 99)
  refine ⟨⟨_, row_cellI hZ j hj⟩, hZ.frozenAt j, h.turn o (k.mono fun b e => .inr e) ⟨X, ownsRow_keep hX k fun b e => by cases e; exact fun (e : gR = gY) => by omega, hXb⟩ ⟨Z.set j 99, row_setI hZ j 99, fun x hx => ?_⟩⟩
  rcases List.mem_or_eq_of_mem_set hx with h | h
  · exact hZb x h
  · omega
theorem OwI.stay {w w' : World} (h : OwI W lo1 lo2 w5 gR gY m2 l1 p p2 s0 (fun i => lo2 ≤ i ∧ i < gR) qs i cs s cv w) (o : Ord5 W lo1 lo2 w5 gR gY) (k : Keep (fun _ => False) w w') : OwI W lo1 lo2 w5 gR gY m2 l1 p p2 s0 (fun i => lo2 ≤ i ∧ i < gR) qs i cs s cv w' := by
  obtain ⟨X, hX, hXb⟩ := h.rm
  obtain ⟨Z, hZ, hZb⟩ := h.wy
  exact h.turn o (k.mono fun _ f => f.elim) ⟨X, ownsRow_keep hX k fun _ _ f => f, hXb⟩ ⟨Z, ownsRow_keep hZ k fun _ _ f => f, hZb⟩
theorem OwI.next {S S' : Nat → Prop} {w13 w14 w15 w16 : World} {t : St} {qq : Stp} {c' : Int} {v' : Value} {X : List Nat} {Z : List Int} (h : OwI W lo1 lo2 w5 gR gY m2 l1 p p2 s0 (fun i => lo2 ≤ i ∧ i < gR) qs i cs s cv wr) (o : Ord5 W lo1 lo2 w5 gR gY)
    (hq : qs[i]? = some qq) (hSr : ∀ k, S k → lo1 ≤ k ∧ (k < lo2 ∨ w5.heap.size ≤ k)) (hScv : ∀ k, cv.ownBlock = some k → ¬ S k)
    (k13 : Keep (fun k => k = gR ∨ k = gY ∨ k = wr.heap.size) wr w13) (hn : Dn S w13 S' w14 p t (i + 1)) (hst : StepTo s qq c' t) (k15 : Keep (fun _ => False) w14 w15)
    (hrow : w16.ownsRow w5.heap.size 31 1 v' (i + 1) (Zv (cs ++ [c']))) (k16 : Keep (fun k => cv.ownBlock = some k) w15 w16) (nb : NewBlk w15 cv v')
    (hX : w13.ownsRow 0 5 1 (.slice (some ⟨gR, 0, none⟩) m2 m2) m2 (B8 X)) (hXb : ∀ x ∈ X, x < 256)
    (hZ : w13.ownsRow 0 3 1 (.slice (some ⟨gY, 0, none⟩) l1 l1) l1 (Zv Z)) (hZb : ∀ x ∈ Z, -9223372036854775808 ≤ x ∧ x ≤ 9223372036854775807) :
    OwI W lo1 lo2 w5 gR gY m2 l1 p p2 s0 (fun i => lo2 ≤ i ∧ i < gR) qs (i + 1) (cs ++ [c']) t v' w16 ∧ w16.ownsRow 0 5 1 (.slice (some ⟨gR, 0, none⟩) m2 m2) m2 (B8 X) ∧ w16.ownsRow 0 3 1 (.slice (some ⟨gY, 0, none⟩) l1 l1) l1 (Zv Z) := by
  obtain ⟨oa, ob, oc, od, oe⟩ := o
  have h5 : w5.heap.size ≤ wr.heap.size := h.k.size
  have hcl : ∀ k, cv.ownBlock = some k → w5.heap.size ≤ k ∧ k < wr.heap.size := fun k e => h.cd.lt k e
  have s13 := k13.size
  have s14 := hn.k.size
  have s15 := k15.size
  -- from wr to w16
  have kk : Keep (fun k => k = gR ∨ k = gY ∨ w5.heap.size ≤ k ∨ lo1 ≤ k ∧ k < lo2) wr w16 := by
    refine (((k13.mono fun k e => ?_).more (hn.k.mono fun k e => ?_)).more (k15.mono fun _ f => f.elim)).more (k16.mono fun k e => ?_)
    · rcases e with e | e | e
      · exact .inl e
      · exact .inr (.inl e)
      · exact .inr (.inr (.inl (by omega)))
    · have := hSr k e
      rcases this.2 with e' | e'
      · exact .inr (.inr (.inr ⟨this.1, e'⟩))
      · exact .inr (.inr (.inl e'))
    · exact .inr (.inr (.inl (hcl k e).1))
  have hX14 := ownsRow_keep hX hn.k fun k e => by cases e; exact fun (hs : S gR) => by have := hSr _ hs; omega
  have hX15 := ownsRow_keep hX14 k15 fun _ _ f => f
  have hX16 := ownsRow_keep hX15 k16 fun k e => by cases e; exact fun (hs : cv.ownBlock = some gR) => by have := hcl _ hs; omega
  have hZ14 := ownsRow_keep hZ hn.k fun k e => by cases e; exact fun (hs : S gY) => by have := hSr _ hs; omega
  have hZ15 := ownsRow_keep hZ14 k15 fun _ _ f => f
  have hZ16 := ownsRow_keep hZ15 k16 fun k e => by cases e; exact fun (hs : cv.ownBlock = some gY) => by have := hcl _ hs; omega
  refine ⟨⟨⟨S', ((hn.d.new k15).stay k16 fun b hb e => ?_), fun b hb => ?_, fun b e hb => ?_⟩, ⟨(h.e.stay kk fun b hb hT => ?_).d, fun b e => ?_⟩, hn.g, ?_, hrow, ⟨X, hX16, hXb⟩, ⟨Z, hZ16, hZb⟩, h.k.low kk fun b hb hT => ?_, h.wk.low kk fun b hb hT => ?_⟩, hX16, hZ16⟩
  · rcases hn.sub b hb with e' | e'
    · exact hScv b e e'
    · have := hcl b e; omega
  · rcases hn.sub b hb with e' | e'
    · exact hSr b e'
    · exact ⟨by omega, .inr (by omega)⟩
  · have hl := hn.d.lt b hb
    rcases nb with e' | e'
    · rw [e'] at e
      rcases hn.sub b hb with e'' | e''
      · exact hScv b e e''
      · have := hcl b e; omega
    · have := e' b e; omega
  · have hE : lo2 ≤ b ∧ b < gR := hb
    rcases hT with e | e | e | e <;> omega
  · have := h.e.lt b e
    have := kk.size
    omega
  · rw [List.take_add_one, hq]
    exact h.run.snoc hst
  · rcases hT with e | e | e | e
    · exact .inr (.inl e)
    · exact .inr (.inr e)
    · omega
    · exact .inl e
  · rcases hT with e | e | e | e <;> omega
end Go.Proofs.Ytmaeaibphggceaa
