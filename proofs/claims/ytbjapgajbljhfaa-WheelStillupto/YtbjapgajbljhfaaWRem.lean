/- Package wheel: a timer taken out of its row. -/
import Derived.Test.YtbjapgajbljhfaaWAdd
namespace Go.Proofs.Ytbjapgajbljhfaa
namespace Wh
open Go.RowKit

theorem getLast_mid (xs c : List Nat) (id : Nat) (hc : c ≠ []) : (xs ++ id :: c).getLast? = c.getLast? ∧ (xs ++ c).getLast? = c.getLast? := by
  obtain ⟨q, t, rfl⟩ := List.exists_cons_of_ne_nil hc
  rw [List.getLast?_append, List.getLast?_append, List.getLast?_cons_cons]
  cases h : (q :: t).getLast? with
  | none => simp at h
  | some u => simp
theorem head_mid (c ys : List Nat) (id : Nat) (hc : c ≠ []) : (c ++ id :: ys).head? = c.head? ∧ (c ++ ys).head? = c.head? := by
  obtain ⟨q, t, rfl⟩ := List.exists_cons_of_ne_nil hc
  exact ⟨rfl, rfl⟩

/-- the rows behind a remove -/
def Removed (tw te : TypeId) (S : Nat → Prop) (w : World) (P m : Nat) (at_ : Nat → Nat) (row : Nat → Nat → List Nat) (s : St) (l i id : Nat) (xs ys : List Nat) (w' : World) : Prop :=
  WIn tw te S w' P m at_ (put2 row l i (xs ++ ys)) s ∧ Ent te w' at_ s id (ptr at_ xs.getLast?) (ptr at_ ys.head?) ∧ Keep (fun k => k = P ∨ ∃ z ∈ row l i, k = at_ z) w w' ∧ w'.heap.size = w.heap.size

theorem Removed.drew {tw te : TypeId} {S : Nat → Prop} {w w' : World} {P m : Nat} {at_ : Nat → Nat} {row : Nat → Nat → List Nat} {s : St} {l i id : Nat} {xs ys : List Nat} (h : Removed tw te S w P m at_ row s l i id xs ys w') : Removed tw te S w P m at_ row s l i id xs ys w'.drew :=
  ⟨h.1.drew, h.2.1, h.2.2.1.more (Keep.drew _ _), h.2.2.2⟩

theorem removed {tw te : TypeId} (ht : te ≠ tw) {S : Nat → Prop} {w w' : World} {P m : Nat} {at_ : Nat → Nat} {row : Nat → Nat → List Nat} {s : St} {l i id : Nat} {xs ys : List Nat} (h : WIn tw te S w P m at_ row s) (hr : Rows1 row s)
    (hrow : row l i = xs ++ id :: ys) {T : Nat → Prop} (hk : Keep T w w') (hT : ∀ k, T k → k = P ∨ (∃ p, xs.getLast? = some p ∧ k = at_ p) ∨ (∃ q, ys.head? = some q ∧ k = at_ q)) (hsz : w'.heap.size = w.heap.size)
    (hP : ∃ cs', w'.heap[P]? = some (.cells cs' tw (0, 0)) ∧ WCells cs' m at_ (put2 row l i (xs ++ ys)) s.now s.last)
    (hp : ∀ xs' p, xs = xs' ++ [p] → Ent te w' at_ s p (ptr at_ xs'.getLast?) (ptr at_ ys.head?))
    (hq : ∀ q ys', ys = q :: ys' → Ent te w' at_ s q (ptr at_ xs.getLast?) (ptr at_ ys'.head?)) : Removed tw te S w P m at_ row s l i id xs ys w' := by
  have hnd : (xs ++ id :: ys).Nodup := hrow ▸ hr.nd l i
  have memx : ∀ a ∈ xs, a ∈ row l i := fun a ha => by rw [hrow]; simp [ha]
  have memy : ∀ a ∈ ys, a ∈ row l i := fun a ha => by rw [hrow]; simp [ha]
  have memi : id ∈ row l i := by rw [hrow]; simp
  have hlast : ∀ p, xs.getLast? = some p → p ∈ xs := fun p e => List.mem_of_getLast? e
  have hhead : ∀ q, ys.head? = some q → q ∈ ys := fun q e => List.mem_of_mem_head? e
  obtain ⟨dx, dy, dxy⟩ := List.nodup_append.1 hnd
  obtain ⟨diy, dyy⟩ := List.nodup_cons.1 dy
  -- who is not touched
  have free : ∀ l' i' a, a ∈ row l' i' → (∀ p, xs.getLast? = some p → a ≠ p) → (∀ q, ys.head? = some q → a ≠ q) → ¬ T (at_ a) := by
    intro l' i' a ha h1 h2 ht'
    have hs := hr.sub _ _ _ ha
    rcases hT _ ht' with e | ⟨p, e1, e2⟩ | ⟨q, e1, e2⟩
    · exact h.eeP ht hs e
    · exact h1 p e1 (h.inj a hs p (hr.sub _ _ _ (memx p (hlast p e1))) e2)
    · exact h2 q e1 (h.inj a hs q (hr.sub _ _ _ (memy q (hhead q e1))) e2)
  have hlnk : ∀ l' i' ps qs a, put2 row l i (xs ++ ys) l' i' = ps ++ a :: qs → Ent te w' at_ s a (ptr at_ ps.getLast?) (ptr at_ qs.head?) := by
    intro l' i' ps qs a hx
    by_cases hc : l' = l ∧ i' = i
    · obtain ⟨rfl, rfl⟩ := hc
      rw [put2_same] at hx
      rcases List.append_eq_append_iff.1 hx with ⟨c, e1, e2⟩ | ⟨c, e1, e2⟩
      · -- a lies behind
        by_cases hc : c = []
        · subst hc
          simp only [List.append_nil, List.nil_append] at e1 e2
          subst e1
          exact hq a qs e2
        · have e3 : row l' i' = (xs ++ id :: c) ++ a :: qs := by rw [hrow, e2]; simp
          have hay : a ∈ ys := by rw [e2]; simp
          have := (h.lnk _ _ _ _ _ e3).keep hk (free l' i' a (memy a hay) (fun p e4 e5 => dxy p (hlast p e4) a (by simp [hay]) e5.symm) (fun q e4 e5 => by
            obtain ⟨q', t, rfl⟩ := List.exists_cons_of_ne_nil hc
            rw [e2] at e4
            simp at e4
            subst e4 e5
            rw [e2] at dyy
            have := (List.nodup_cons.1 dyy).1
            simp at this))
          obtain ⟨g1, g2⟩ := getLast_mid xs c id hc
          rw [e1, g2, ← g1]
          exact this
      · by_cases hc : c = []
        · subst hc
          simp only [List.append_nil, List.nil_append] at e1 e2
          subst e1
          exact hq a qs e2.symm
        · obtain ⟨a', c', rfl⟩ := List.exists_cons_of_ne_nil hc
          simp only [List.cons_append, List.cons.injEq] at e2
          obtain ⟨rfl, rfl⟩ := e2
          by_cases hc' : c' = []
          · subst hc'
            rw [List.nil_append]
            exact hp ps a e1
          · have e3 : row l' i' = ps ++ a :: (c' ++ id :: ys) := by rw [hrow, e1]; simp
            have hax : a ∈ xs := by rw [e1]; simp
            have := (h.lnk _ _ _ _ _ e3).keep hk (free l' i' a (memx a hax) (fun p e4 e5 => by
              have hpc : p ∈ c' := by
                rw [e1, (getLast_mid ps c' a hc').1] at e4
                exact List.mem_of_getLast? e4
              rw [e1] at dx
              exact (List.nodup_cons.1 (List.nodup_append.1 dx).2.1).1 (e5 ▸ hpc)) (fun q e4 e5 => dxy a hax q (by simp [hhead q e4]) e5))
            obtain ⟨g1, g2⟩ := head_mid c' ys id hc'
            rw [g2, ← g1]
            exact this
    · rw [put2_other _ _ hc] at hx
      have ha : a ∈ row l' i' := by rw [hx]; simp
      refine (h.lnk _ _ _ _ _ hx).keep hk (free l' i' a ha (fun p e4 e5 => hc ?_) (fun q e4 e5 => hc ?_))
      · exact hr.dis _ _ _ _ a ha (e5 ▸ memx p (hlast p e4))
      · exact hr.dis _ _ _ _ a ha (e5 ▸ memy q (hhead q e4))
  refine ⟨h.relink hP hk (fun e => ?_) hlnk (fun a ha e => ?_), (h.lnk _ _ _ _ _ hrow).keep hk (free l i id memi (fun p e4 e5 => dxy p (hlast p e4) id (by simp) e5.symm) (fun q e4 e5 => diy (e5 ▸ hhead q e4))), hk.mono fun k hk' => ?_, hsz⟩
  · rcases hT _ e with e | ⟨p, e1, e2⟩ | ⟨q, e1, e2⟩
    · exact h.ePm e.symm
    · exact h.eem (hr.sub _ _ _ (memx p (hlast p e1))) e2.symm
    · exact h.eem (hr.sub _ _ _ (memy q (hhead q e1))) e2.symm
  · rcases hT _ e with e | ⟨p, e1, e2⟩ | ⟨q, e1, e2⟩
    · exact absurd e (h.eeP ht ha)
    · obtain ⟨xs', rfl⟩ : ∃ xs', xs = xs' ++ [p] := by
        rcases List.eq_nil_or_concat xs with rfl | ⟨xs', p', rfl⟩
        · simp at e1
        · simp at e1; subst e1; exact ⟨xs', by simp⟩
      rw [e2]; exact ⟨_, hp _ _ rfl⟩
    · obtain ⟨ys', rfl⟩ : ∃ ys', ys = q :: ys' := by
        cases ys with
        | nil => simp at e1
        | cons q' t => simp at e1; subst e1; exact ⟨t, rfl⟩
      rw [e2]; exact ⟨_, hq _ _ rfl⟩
  · rcases hT _ hk' with e | ⟨p, e1, e2⟩ | ⟨q, e1, e2⟩
    · exact .inl e
    · exact .inr ⟨p, memx p (hlast p e1), e2⟩
    · exact .inr ⟨q, memy q (hhead q e1), e2⟩

set_option maxRecDepth 100000 in
set_option maxHeartbeats 4000000 in
theorem sremI {S : Nat → Prop} {P m : Nat} {at_ : Nat → Nat} {row : Nat → Nat → List Nat} {s : St} (l i id : Nat) (xs ys : List Nat) (w : World) (h : WIn 75 80 S w P m at_ row s) (hr : Rows1 row s)
    (hl : l < 11) (hi : i < 64) (hrow : row l i = xs ++ id :: ys) :
    Calls Try.prog 47 #[.pointer (some ⟨P, so l i, none⟩), .pointer (some ⟨at_ id, 0, none⟩)] w fun e w' => e = .returned (.tuple #[]) ∧
      Removed 75 80 S w P m at_ row s l i id xs ys w' := by
  have hnd : (xs ++ id :: ys).Nodup := hrow ▸ hr.nd l i
  obtain ⟨dx, dy, dxy⟩ := List.nodup_append.1 hnd
  obtain ⟨diy, dyy⟩ := List.nodup_cons.1 dy
  have hmi : id ∈ row l i := by rw [hrow]; simp
  have hid := hr.sub _ _ _ hmi
  have he := h.lnk _ _ _ _ _ hrow
  have c1 := h.cfst hl hi
  have c2 := h.clst hl hi
  have f1 := h.fz (so l i)
  have f2 := h.fz (so l i + 1)
  have e3 := he.c3
  have e4 := he.c4
  have n1 : at_ id ≠ P := h.eeP (by decide) hid
  have n2 : P ≠ at_ id := Ne.symm n1
  have hso := so_lt hl hi
  rcases List.eq_nil_or_concat xs with rfl | ⟨xs', p, rfl⟩
  · cases ys with
    | nil =>
      rw [hrow] at c1 c2
      simp only [List.nil_append, List.head?_cons, List.getLast?_singleton, List.head?_nil, List.getLast?_nil, ptr] at c1 c2 e3 e4
      have HF : Hid (Removed 75 80 S w P m at_ row s l i id [] [] ((w.setCell ⟨P, so l i, none⟩ (.pointer none)).setCell ⟨P, so l i + 1, none⟩ (.pointer none))) := by
        refine removed (by decide) h hr hrow (T := fun k => k = P) ((keep_cell _ _ _ _).more (keep_cell _ _ _ _)) (fun k e => .inl e) (by simp [World.setCell]) ?_ (fun _ _ e => by simp at e) (fun _ _ e => by cases e)
        obtain ⟨cs, b1, b2⟩ := h.wb
        have hsz := b2.1
        refine ⟨_, set_blk (set_blk b1 (so l i) (.pointer none)) (so l i + 1) (.pointer none), b2.set hi _ (by simp) (fun j j1 j2 => ?_) ?_ ?_⟩
        · rw [set_get _ _ _ _ (by simp; omega), set_get _ _ _ _ (by omega), if_neg j2, if_neg j1]
        · rw [set_get _ _ _ _ (by simp; omega), set_get _ _ _ _ (by omega), if_neg (by omega), if_pos rfl]; rfl
        · rw [set_get _ _ _ _ (by simp; omega), if_pos rfl]; rfl
      clear h he hr hrow hnd dx dy dxy diy dyy hmi hid
      go_enter Try.func47, Try.ntmps47
      go_wp2_with (first | go_region | go_in)
      go_end0
      exact ⟨rfl, HF.out⟩
    | cons q ys' =>
      have hmq : q ∈ row l i := by rw [hrow]; simp
      have hq := h.lnk l i [id] ys' q hrow
      have q3 := hq.c3
      have qf := hq.fz 3
      have m1 : at_ q ≠ P := h.eeP (by decide) (hr.sub _ _ _ hmq)
      have m2 : P ≠ at_ q := Ne.symm m1
      have m3 : at_ id ≠ at_ q := fun e => by have := h.inj id hid q (hr.sub _ _ _ hmq) e; subst this; simp at diy
      have m4 : at_ q ≠ at_ id := Ne.symm m3
      have HF : Hid (Removed 75 80 S w P m at_ row s l i id [] (q :: ys') ((w.setCell ⟨P, so l i, none⟩ (.pointer (some ⟨at_ q, 0, none⟩))).setCell ⟨at_ q, 3, none⟩ (.pointer none))) := by
        refine removed (by decide) h hr hrow (T := fun k => k = P ∨ k = at_ q) ((Keep.setCell _ (.inl rfl) _).more (Keep.setCell _ (.inr rfl) _)) (fun k e => e.imp (fun x => x) fun e => .inr ⟨q, rfl, e⟩) (by simp [World.setCell]) ?_ (fun _ _ e => by simp at e) (fun q' t e => ?_)
        · obtain ⟨cs, b1, b2⟩ := h.wb
          have hsz := b2.1
          refine ⟨_, (keep_cell _ (at_ q) 3 (.pointer none)).blk (set_blk b1 (so l i) (.pointer (some ⟨at_ q, 0, none⟩))) m2, b2.set hi _ (by simp) (fun j j1 j2 => ?_) ?_ ?_⟩
          · rw [set_get _ _ _ _ (by omega), if_neg j1]
          · rw [set_get _ _ _ _ (by omega), if_pos rfl]; rfl
          · rw [set_get _ _ _ _ (by omega), if_neg (by omega), (b2.2.2.2.2 l i hl hi).2, hrow]; rfl
        · injection e with e1 e2
          subst e1 e2
          exact (hq.other _ _ m1).setB _
      rw [hrow] at c1 c2
      simp only [List.nil_append, List.head?_cons, List.getLast?_nil, ptr] at c1 e3 e4
      clear h he hr hrow hnd dx dy dxy diy dyy hmi hid hq hmq
      go_enter Try.func47, Try.ntmps47
      go_wp2_with (first | go_region | go_in)
      go_end0
      exact ⟨rfl, HF.out.drew⟩
  · rw [List.concat_eq_append] at *
    have hmp : p ∈ row l i := by rw [hrow]; simp
    have hp := h.lnk l i xs' (id :: ys) p (by rw [hrow]; simp)
    have p4 := hp.c4
    have pf := hp.fz 4
    have m1 : at_ p ≠ P := h.eeP (by decide) (hr.sub _ _ _ hmp)
    have m2 : P ≠ at_ p := Ne.symm m1
    have m3 : at_ id ≠ at_ p := fun e => dxy p (by simp) id (by simp) (h.inj id hid p (hr.sub _ _ _ hmp) e).symm
    have m4 : at_ p ≠ at_ id := Ne.symm m3
    cases ys with
    | nil =>
      have HF : Hid (Removed 75 80 S w P m at_ row s l i id (xs' ++ [p]) [] ((w.setCell ⟨at_ p, 4, none⟩ (.pointer none)).setCell ⟨P, so l i + 1, none⟩ (.pointer (some ⟨at_ p, 0, none⟩)))) := by
        refine removed (by decide) h hr hrow (T := fun k => k = P ∨ k = at_ p) ((Keep.setCell _ (.inr rfl) _).more (Keep.setCell _ (.inl rfl) _)) (fun k e => e.imp (fun x => x) fun e => .inl ⟨p, by simp, e⟩) (by simp [World.setCell]) ?_ (fun xs2 p2 e => ?_) (fun _ _ e => by cases e)
        · obtain ⟨cs, b1, b2⟩ := h.wb
          have hsz := b2.1
          refine ⟨_, set_blk ((keep_cell _ (at_ p) 4 (.pointer none)).blk b1 m2) (so l i + 1) (.pointer (some ⟨at_ p, 0, none⟩)), b2.set hi _ (by simp) (fun j j1 j2 => ?_) ?_ ?_⟩
          · rw [set_get _ _ _ _ (by omega), if_neg j2]
          · rw [set_get _ _ _ _ (by omega), if_neg (by omega), (b2.2.2.2.2 l i hl hi).1, hrow, show ((xs' ++ [p]) ++ [id]).head? = ((xs' ++ [p]) ++ []).head? by cases xs' <;> rfl]
          · rw [set_get _ _ _ _ (by omega), if_pos rfl]
            simp [ptr]
        · obtain ⟨rfl, rfl⟩ := snoc_inj e
          exact (hp.setE _).other _ _ m1
      rw [hrow] at c1 c2
      simp only [List.getLast?_concat, List.head?_nil, ptr] at c2 e3 e4
      clear h he hr hrow hnd dx dy dxy diy dyy hmi hid hp hmp
      go_enter Try.func47, Try.ntmps47
      go_wp2_with (first | go_region | go_in)
      go_end0
      exact ⟨rfl, HF.out.drew⟩
    | cons q ys' =>
      have hmq : q ∈ row l i := by rw [hrow]; simp
      have hq := h.lnk l i (xs' ++ [p] ++ [id]) ys' q (by rw [hrow]; simp)
      have q3 := hq.c3
      have qf := hq.fz 3
      have r1 : at_ q ≠ P := h.eeP (by decide) (hr.sub _ _ _ hmq)
      have r2 : P ≠ at_ q := Ne.symm r1
      have r3 : at_ id ≠ at_ q := fun e => by have := h.inj id hid q (hr.sub _ _ _ hmq) e; subst this; simp at diy
      have r4 : at_ q ≠ at_ id := Ne.symm r3
      have r5 : at_ p ≠ at_ q := fun e => dxy p (by simp) q (by simp) (h.inj p (hr.sub _ _ _ hmp) q (hr.sub _ _ _ hmq) e)
      have r6 : at_ q ≠ at_ p := Ne.symm r5
      have HF : Hid (Removed 75 80 S w P m at_ row s l i id (xs' ++ [p]) (q :: ys') ((w.setCell ⟨at_ p, 4, none⟩ (.pointer (some ⟨at_ q, 0, none⟩))).setCell ⟨at_ q, 3, none⟩ (.pointer (some ⟨at_ p, 0, none⟩)))) := by
        refine removed (by decide) h hr hrow (T := fun k => k = at_ p ∨ k = at_ q) ((Keep.setCell _ (.inl rfl) _).more (Keep.setCell _ (.inr rfl) _)) (fun k e => .inr (e.imp (fun e => ⟨p, by simp, e⟩) fun e => ⟨q, rfl, e⟩)) (by simp [World.setCell]) ?_ (fun xs2 p2 e => ?_) (fun q2 t e => ?_)
        · obtain ⟨cs, b1, b2⟩ := h.wb
          have hsz := b2.1
          refine ⟨_, (keep_cell _ (at_ q) 3 _).blk ((keep_cell _ (at_ p) 4 _).blk b1 m2) r2, b2.set hi _ rfl (fun j j1 j2 => rfl) ?_ ?_⟩
          · rw [(b2.2.2.2.2 l i hl hi).1, hrow, show ((xs' ++ [p]) ++ id :: q :: ys').head? = ((xs' ++ [p]) ++ q :: ys').head? by cases xs' <;> rfl]
          · rw [(b2.2.2.2.2 l i hl hi).2, hrow, (getLast_mid (xs' ++ [p]) (q :: ys') id (by simp)).1, (getLast_mid (xs' ++ [p]) (q :: ys') id (by simp)).2]
        · obtain ⟨rfl, rfl⟩ := snoc_inj e
          exact (hp.setE _).other _ _ r5
        · injection e with e1 e2
          subst e1 e2
          rw [List.getLast?_concat]
          exact (hq.other _ _ r6).setB _
      rw [hrow] at c1 c2
      simp only [List.getLast?_concat, List.head?_cons, ptr] at e3 e4
      clear h he hr hrow hnd dx dy dxy diy dyy hmi hid hp hmp hq hmq
      go_enter Try.func47, Try.ntmps47
      go_wp2_with (first | go_region | go_in)
      go_end0
      exact ⟨rfl, HF.out.drew.drew⟩
set_option maxRecDepth 100000 in
set_option maxHeartbeats 4000000 in
theorem sremS {S : Nat → Prop} {P m : Nat} {at_ : Nat → Nat} {row : Nat → Nat → List Nat} {s : St} (l i id : Nat) (xs ys : List Nat) (w : World) (h : WIn 95 97 S w P m at_ row s) (hr : Rows1 row s)
    (hl : l < 11) (hi : i < 64) (hrow : row l i = xs ++ id :: ys) :
    Calls Try.prog 53 #[.pointer (some ⟨P, so l i, none⟩), .pointer (some ⟨at_ id, 0, none⟩)] w fun e w' => e = .returned (.tuple #[]) ∧
      Removed 95 97 S w P m at_ row s l i id xs ys w' := by
  have hnd : (xs ++ id :: ys).Nodup := hrow ▸ hr.nd l i
  obtain ⟨dx, dy, dxy⟩ := List.nodup_append.1 hnd
  obtain ⟨diy, dyy⟩ := List.nodup_cons.1 dy
  have hmi : id ∈ row l i := by rw [hrow]; simp
  have hid := hr.sub _ _ _ hmi
  have he := h.lnk _ _ _ _ _ hrow
  have c1 := h.cfst hl hi
  have c2 := h.clst hl hi
  have f1 := h.fz (so l i)
  have f2 := h.fz (so l i + 1)
  have e3 := he.c3
  have e4 := he.c4
  have n1 : at_ id ≠ P := h.eeP (by decide) hid
  have n2 : P ≠ at_ id := Ne.symm n1
  have hso := so_lt hl hi
  rcases List.eq_nil_or_concat xs with rfl | ⟨xs', p, rfl⟩
  · cases ys with
    | nil =>
      rw [hrow] at c1 c2
      simp only [List.nil_append, List.head?_cons, List.getLast?_singleton, List.head?_nil, List.getLast?_nil, ptr] at c1 c2 e3 e4
      have HF : Hid (Removed 95 97 S w P m at_ row s l i id [] [] ((w.setCell ⟨P, so l i, none⟩ (.pointer none)).setCell ⟨P, so l i + 1, none⟩ (.pointer none))) := by
        refine removed (by decide) h hr hrow (T := fun k => k = P) ((keep_cell _ _ _ _).more (keep_cell _ _ _ _)) (fun k e => .inl e) (by simp [World.setCell]) ?_ (fun _ _ e => by simp at e) (fun _ _ e => by cases e)
        obtain ⟨cs, b1, b2⟩ := h.wb
        have hsz := b2.1
        refine ⟨_, set_blk (set_blk b1 (so l i) (.pointer none)) (so l i + 1) (.pointer none), b2.set hi _ (by simp) (fun j j1 j2 => ?_) ?_ ?_⟩
        · rw [set_get _ _ _ _ (by simp; omega), set_get _ _ _ _ (by omega), if_neg j2, if_neg j1]
        · rw [set_get _ _ _ _ (by simp; omega), set_get _ _ _ _ (by omega), if_neg (by omega), if_pos rfl]; rfl
        · rw [set_get _ _ _ _ (by simp; omega), if_pos rfl]; rfl
      clear h he hr hrow hnd dx dy dxy diy dyy hmi hid
      go_enter Try.func53, Try.ntmps53
      go_wp2_with (first | go_region | go_in)
      go_end0
      exact ⟨rfl, HF.out⟩
    | cons q ys' =>
      have hmq : q ∈ row l i := by rw [hrow]; simp
      have hq := h.lnk l i [id] ys' q hrow
      have q3 := hq.c3
      have qf := hq.fz 3
      have m1 : at_ q ≠ P := h.eeP (by decide) (hr.sub _ _ _ hmq)
      have m2 : P ≠ at_ q := Ne.symm m1
      have m3 : at_ id ≠ at_ q := fun e => by have := h.inj id hid q (hr.sub _ _ _ hmq) e; subst this; simp at diy
      have m4 : at_ q ≠ at_ id := Ne.symm m3
      have HF : Hid (Removed 95 97 S w P m at_ row s l i id [] (q :: ys') ((w.setCell ⟨P, so l i, none⟩ (.pointer (some ⟨at_ q, 0, none⟩))).setCell ⟨at_ q, 3, none⟩ (.pointer none))) := by
        refine removed (by decide) h hr hrow (T := fun k => k = P ∨ k = at_ q) ((Keep.setCell _ (.inl rfl) _).more (Keep.setCell _ (.inr rfl) _)) (fun k e => e.imp (fun x => x) fun e => .inr ⟨q, rfl, e⟩) (by simp [World.setCell]) ?_ (fun _ _ e => by simp at e) (fun q' t e => ?_)
        · obtain ⟨cs, b1, b2⟩ := h.wb
          have hsz := b2.1
          refine ⟨_, (keep_cell _ (at_ q) 3 (.pointer none)).blk (set_blk b1 (so l i) (.pointer (some ⟨at_ q, 0, none⟩))) m2, b2.set hi _ (by simp) (fun j j1 j2 => ?_) ?_ ?_⟩
          · rw [set_get _ _ _ _ (by omega), if_neg j1]
          · rw [set_get _ _ _ _ (by omega), if_pos rfl]; rfl
          · rw [set_get _ _ _ _ (by omega), if_neg (by omega), (b2.2.2.2.2 l i hl hi).2, hrow]; rfl
        · injection e with e1 e2
          subst e1 e2
          exact (hq.other _ _ m1).setB _
      rw [hrow] at c1 c2
      simp only [List.nil_append, List.head?_cons, List.getLast?_nil, ptr] at c1 e3 e4
      clear h he hr hrow hnd dx dy dxy diy dyy hmi hid hq hmq
      go_enter Try.func53, Try.ntmps53
      go_wp2_with (first | go_region | go_in)
      go_end0
      exact ⟨rfl, HF.out.drew⟩
  · rw [List.concat_eq_append] at *
    have hmp : p ∈ row l i := by rw [hrow]; simp
    have hp := h.lnk l i xs' (id :: ys) p (by rw [hrow]; simp)
    have p4 := hp.c4
    have pf := hp.fz 4
    have m1 : at_ p ≠ P := h.eeP (by decide) (hr.sub _ _ _ hmp)
    have m2 : P ≠ at_ p := Ne.symm m1
    have m3 : at_ id ≠ at_ p := fun e => dxy p (by simp) id (by simp) (h.inj id hid p (hr.sub _ _ _ hmp) e).symm
    have m4 : at_ p ≠ at_ id := Ne.symm m3
    cases ys with
    | nil =>
      have HF : Hid (Removed 95 97 S w P m at_ row s l i id (xs' ++ [p]) [] ((w.setCell ⟨at_ p, 4, none⟩ (.pointer none)).setCell ⟨P, so l i + 1, none⟩ (.pointer (some ⟨at_ p, 0, none⟩)))) := by
        refine removed (by decide) h hr hrow (T := fun k => k = P ∨ k = at_ p) ((Keep.setCell _ (.inr rfl) _).more (Keep.setCell _ (.inl rfl) _)) (fun k e => e.imp (fun x => x) fun e => .inl ⟨p, by simp, e⟩) (by simp [World.setCell]) ?_ (fun xs2 p2 e => ?_) (fun _ _ e => by cases e)
        · obtain ⟨cs, b1, b2⟩ := h.wb
          have hsz := b2.1
          refine ⟨_, set_blk ((keep_cell _ (at_ p) 4 (.pointer none)).blk b1 m2) (so l i + 1) (.pointer (some ⟨at_ p, 0, none⟩)), b2.set hi _ (by simp) (fun j j1 j2 => ?_) ?_ ?_⟩
          · rw [set_get _ _ _ _ (by omega), if_neg j2]
          · rw [set_get _ _ _ _ (by omega), if_neg (by omega), (b2.2.2.2.2 l i hl hi).1, hrow, show ((xs' ++ [p]) ++ [id]).head? = ((xs' ++ [p]) ++ []).head? by cases xs' <;> rfl]
          · rw [set_get _ _ _ _ (by omega), if_pos rfl]
            simp [ptr]
        · obtain ⟨rfl, rfl⟩ := snoc_inj e
          exact (hp.setE _).other _ _ m1
      rw [hrow] at c1 c2
      simp only [List.getLast?_concat, List.head?_nil, ptr] at c2 e3 e4
      clear h he hr hrow hnd dx dy dxy diy dyy hmi hid hp hmp
      go_enter Try.func53, Try.ntmps53
      go_wp2_with (first | go_region | go_in)
      go_end0
      exact ⟨rfl, HF.out.drew⟩
    | cons q ys' =>
      have hmq : q ∈ row l i := by rw [hrow]; simp
      have hq := h.lnk l i (xs' ++ [p] ++ [id]) ys' q (by rw [hrow]; simp)
      have q3 := hq.c3
      have qf := hq.fz 3
      have r1 : at_ q ≠ P := h.eeP (by decide) (hr.sub _ _ _ hmq)
      have r2 : P ≠ at_ q := Ne.symm r1
      have r3 : at_ id ≠ at_ q := fun e => by have := h.inj id hid q (hr.sub _ _ _ hmq) e; subst this; simp at diy
      have r4 : at_ q ≠ at_ id := Ne.symm r3
      have r5 : at_ p ≠ at_ q := fun e => dxy p (by simp) q (by simp) (h.inj p (hr.sub _ _ _ hmp) q (hr.sub _ _ _ hmq) e)
      have r6 : at_ q ≠ at_ p := Ne.symm r5
      have HF : Hid (Removed 95 97 S w P m at_ row s l i id (xs' ++ [p]) (q :: ys') ((w.setCell ⟨at_ p, 4, none⟩ (.pointer (some ⟨at_ q, 0, none⟩))).setCell ⟨at_ q, 3, none⟩ (.pointer (some ⟨at_ p, 0, none⟩)))) := by
        refine removed (by decide) h hr hrow (T := fun k => k = at_ p ∨ k = at_ q) ((Keep.setCell _ (.inl rfl) _).more (Keep.setCell _ (.inr rfl) _)) (fun k e => .inr (e.imp (fun e => ⟨p, by simp, e⟩) fun e => ⟨q, rfl, e⟩)) (by simp [World.setCell]) ?_ (fun xs2 p2 e => ?_) (fun q2 t e => ?_)
        · obtain ⟨cs, b1, b2⟩ := h.wb
          have hsz := b2.1
          refine ⟨_, (keep_cell _ (at_ q) 3 _).blk ((keep_cell _ (at_ p) 4 _).blk b1 m2) r2, b2.set hi _ rfl (fun j j1 j2 => rfl) ?_ ?_⟩
          · rw [(b2.2.2.2.2 l i hl hi).1, hrow, show ((xs' ++ [p]) ++ id :: q :: ys').head? = ((xs' ++ [p]) ++ q :: ys').head? by cases xs' <;> rfl]
          · rw [(b2.2.2.2.2 l i hl hi).2, hrow, (getLast_mid (xs' ++ [p]) (q :: ys') id (by simp)).1, (getLast_mid (xs' ++ [p]) (q :: ys') id (by simp)).2]
        · obtain ⟨rfl, rfl⟩ := snoc_inj e
          exact (hp.setE _).other _ _ r5
        · injection e with e1 e2
          subst e1 e2
          rw [List.getLast?_concat]
          exact (hq.other _ _ r6).setB _
      rw [hrow] at c1 c2
      simp only [List.getLast?_concat, List.head?_cons, ptr] at e3 e4
      clear h he hr hrow hnd dx dy dxy diy dyy hmi hid hp hmp hq hmq
      go_enter Try.func53, Try.ntmps53
      go_wp2_with (first | go_region | go_in)
      go_end0
      exact ⟨rfl, HF.out.drew.drew⟩

end Wh
end Go.Proofs.Ytbjapgajbljhfaa
