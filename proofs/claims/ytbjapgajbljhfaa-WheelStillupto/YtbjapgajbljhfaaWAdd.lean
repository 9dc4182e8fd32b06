/- Package wheel: a timer laid behind a row, and taken out of it. -/
import Derived.Test.YtbjapgajbljhfaaWPrim
namespace Go.Proofs.Ytbjapgajbljhfaa
namespace Wh
open Go.RowKit

/-- rows that share nothing -/
structure Rows1 (row : Nat → Nat → List Nat) (s : St) : Prop where
  sub : ∀ l i id, id ∈ row l i → id ∈ s.ids
  dis : ∀ l i l' i' z, z ∈ row l i → z ∈ row l' i' → l = l' ∧ i = i'
  nd : ∀ l i, (row l i).Nodup

def put2 (row : Nat → Nat → List Nat) (l i : Nat) (r : List Nat) (l' i' : Nat) : List Nat := if l' = l ∧ i' = i then r else row l' i'

theorem snoc_inj {r q : List Nat} {a b : Nat} (h : r ++ [a] = q ++ [b]) : r = q ∧ a = b := by
  have := List.append_inj' h rfl
  simpa using this
theorem put2_same (row : Nat → Nat → List Nat) (l i : Nat) (r : List Nat) : put2 row l i r l i = r := by simp [put2]
theorem put2_other (row : Nat → Nat → List Nat) {l i l' i' : Nat} (r : List Nat) (h : ¬ (l' = l ∧ i' = i)) : put2 row l i r l' i' = row l' i' := by simp [put2, h]

theorem WCells.set {cs cs' : Array Value} {m : Nat} {at_ : Nat → Nat} {row : Nat → Nat → List Nat} {n last : Nat} (h : WCells cs m at_ row n last) {l i : Nat} (hi : i < 64) (r : List Nat) (h0 : cs'.size = cs.size)
    (h1 : ∀ j, j ≠ so l i → j ≠ so l i + 1 → cs'[j]? = cs[j]?) (h2 : cs'[so l i]? = some (ptr at_ r.head?)) (h3 : cs'[so l i + 1]? = some (ptr at_ r.getLast?)) : WCells cs' m at_ (put2 row l i r) n last := by
  obtain ⟨a0, a1, a2, a3, a4⟩ := h
  refine ⟨h0.trans a0, (h1 0 (by unfold so; omega) (by unfold so; omega)).trans a1, (h1 1 (by unfold so; omega) (by unfold so; omega)).trans a2, (h1 2 (by unfold so; omega) (by unfold so; omega)).trans a3, fun l' i' hl' hi' => ?_⟩
  by_cases hc : l' = l ∧ i' = i
  · obtain ⟨rfl, rfl⟩ := hc
    rw [put2_same]
    exact ⟨h2, h3⟩
  · rw [put2_other _ _ hc]
    have n1 : so l' i' ≠ so l i := fun e => hc (so_inj hi' hi e)
    exact ⟨(h1 _ n1 (fun e => so_ne e)).trans (a4 l' i' hl' hi').1, (h1 _ (fun e => so_ne e.symm) (by omega)).trans (a4 l' i' hl' hi').2⟩

section
variable {tw te : TypeId} {S : Nat → Prop} {w w' : World} {P m : Nat} {at_ : Nat → Nat} {row row' : Nat → Nat → List Nat} {s : St}
theorem Ent.setB {id : Nat} {b e : Value} (h : Ent te w at_ s id b e) (v : Value) : Ent te (w.setCell ⟨at_ id, 3, none⟩ v) at_ s id v e := by
  have := set_blk h 3 v
  exact this
theorem Ent.setE {id : Nat} {b e : Value} (h : Ent te w at_ s id b e) (v : Value) : Ent te (w.setCell ⟨at_ id, 4, none⟩ v) at_ s id b v := by
  have := set_blk h 4 v
  exact this
theorem Ent.keep {id : Nat} {b e : Value} (h : Ent te w at_ s id b e) {T : Nat → Prop} (hk : Keep T w w') (hT : ¬ T (at_ id)) : Ent te w' at_ s id b e := hk.blk h hT
theorem Ent.other {id : Nat} {b e : Value} (h : Ent te w at_ s id b e) {k : Nat} (j : Nat) (v : Value) (hT : at_ id ≠ k) : Ent te (w.setCell ⟨k, j, none⟩ v) at_ s id b e := h.keep (keep_cell w k j v) hT

/-- a wheel whose rows were linked anew -/
theorem WIn.relink (h : WIn tw te S w P m at_ row s) (hP : ∃ cs', w'.heap[P]? = some (.cells cs' tw (0, 0)) ∧ WCells cs' m at_ row' s.now s.last) {T : Nat → Prop} (hk : Keep T w w') (hTm : ¬ T m)
    (hlnk : ∀ l i xs ys a, row' l i = xs ++ a :: ys → Ent te w' at_ s a (ptr at_ xs.getLast?) (ptr at_ ys.head?)) (hent : ∀ id ∈ s.ids, T (at_ id) → ∃ cs, w'.heap[at_ id]? = some (.cells cs te (0, 0))) : WIn tw te S w' P m at_ row' s where
  wb := hP
  lnk := hlnk
  mp := by
    obtain ⟨f, h1, h2⟩ := h.mp
    exact ⟨f, h1.keep hk hTm, h2⟩
  inj := h.inj
  ent id hid := by
    rcases Classical.em (T (at_ id)) with ht | ht
    · exact hent id hid ht
    · obtain ⟨cs, h1⟩ := h.ent id hid
      exact ⟨cs, hk.blk h1 ht⟩
  own := h.own
  sp := h.sp
  sm := h.sm
end

theorem set_get (cs : Array Value) (j k : Nat) (v : Value) (hj : j < cs.size) : (cs.setIfInBounds j v)[k]? = if k = j then some v else cs[k]? := by
  rw [Array.getElem?_setIfInBounds]
  by_cases h : j = k
  · subst h; simp [hj]
  · rw [if_neg h, if_neg (Ne.symm h)]

/-- the rows behind an add to an empty one -/
def Added (tw te : TypeId) (S : Nat → Prop) (w : World) (P m : Nat) (at_ : Nat → Nat) (row : Nat → Nat → List Nat) (s : St) (l i id : Nat) (w' : World) : Prop :=
  WIn tw te S w' P m at_ (put2 row l i (row l i ++ [id])) s ∧ Keep (fun k => k = P ∨ k = at_ id ∨ ∃ z ∈ row l i, k = at_ z) w w'
theorem added_nil {tw te : TypeId} (ht : te ≠ tw) {S : Nat → Prop} {w : World} {P m : Nat} {at_ : Nat → Nat} {row : Nat → Nat → List Nat} {s : St} {l i id : Nat} {b e : Value} (h : WIn tw te S w P m at_ row s) (hr : Rows1 row s)
    (hl : l < 11) (hi : i < 64) (hid : id ∈ s.ids) (hnot : ∀ l i, id ∉ row l i) (he : Ent te w at_ s id b e) (hr0 : row l i = []) :
    Added tw te S w P m at_ row s l i id ((((w.setCell ⟨at_ id, 3, none⟩ (.pointer none)).setCell ⟨at_ id, 4, none⟩ (.pointer none)).setCell ⟨P, so l i, none⟩ (.pointer (some ⟨at_ id, 0, none⟩))).setCell ⟨P, so l i + 1, none⟩ (.pointer (some ⟨at_ id, 0, none⟩))) := by
  have n1 : at_ id ≠ P := h.eeP ht hid
  have n2 : P ≠ at_ id := Ne.symm n1
  have nm : at_ id ≠ m := h.eem hid
  have hso := so_lt hl hi
  have hne : ∀ l' i' a, a ∈ row l' i' → at_ a ≠ at_ id := fun l' i' a ha ee => hnot l' i' (h.inj a (hr.sub l' i' a ha) id hid ee ▸ ha)
  have k1 : Keep (fun k => k = P ∨ k = at_ id) w (((w.setCell ⟨at_ id, 3, none⟩ (.pointer none)).setCell ⟨at_ id, 4, none⟩ (.pointer none)).setCell ⟨P, so l i, none⟩ (.pointer (some ⟨at_ id, 0, none⟩))) :=
    ((Keep.setCell _ (.inr rfl) _).more (Keep.setCell _ (.inr rfl) _)).more (Keep.setCell _ (.inl rfl) _)
  have k2 := k1.more (Keep.setCell (p := ⟨P, so l i + 1, none⟩) _ (.inl rfl) (.pointer (some ⟨at_ id, 0, none⟩)))
  have hen := (((he.setB (.pointer none)).setE (.pointer none)).other (so l i) (.pointer (some ⟨at_ id, 0, none⟩)) n1).other (so l i + 1) (.pointer (some ⟨at_ id, 0, none⟩)) n1
  refine ⟨h.relink ?_ k2 ?_ ?_ ?_, k2.mono fun k hk => hk.imp (fun x => x) .inl⟩
  · obtain ⟨cs, b1, b2⟩ := h.wb
    have b3 := (keep_cell (w.setCell ⟨at_ id, 3, none⟩ (.pointer none)) (at_ id) 4 (.pointer none)).blk ((keep_cell w (at_ id) 3 (.pointer none)).blk b1 n2) n2
    have b4 := set_blk (set_blk b3 (so l i) (.pointer (some ⟨at_ id, 0, none⟩))) (so l i + 1) (.pointer (some ⟨at_ id, 0, none⟩))
    refine ⟨_, b4, ?_⟩
    rw [hr0]
    have hsz := b2.1
    refine b2.set hi _ (by simp) (fun j j1 j2 => ?_) ?_ ?_
    · rw [set_get _ _ _ _ (by simp; omega), set_get _ _ _ _ (by omega), if_neg j2, if_neg j1]
    · rw [set_get _ _ _ _ (by simp; omega), set_get _ _ _ _ (by omega), if_neg (by omega), if_pos rfl]; rfl
    · rw [set_get _ _ _ _ (by simp; omega), if_pos rfl]; rfl
  · rintro (hc | hc)
    · exact h.ePm hc.symm
    · exact nm hc.symm
  · intro l' i' xs ys a hx
    by_cases hc : l' = l ∧ i' = i
    · obtain ⟨rfl, rfl⟩ := hc
      rw [put2_same, hr0] at hx
      obtain ⟨rfl, rfl, rfl⟩ : xs = [] ∧ a = id ∧ ys = [] := by
        cases xs with
        | nil => simp at hx; exact ⟨rfl, hx.1.symm, hx.2⟩
        | cons y r => simp at hx
      exact hen
    · rw [put2_other _ _ hc] at hx
      have hm : a ∈ row l' i' := by rw [hx]; simp
      refine (h.lnk l' i' xs ys a hx).keep k2 ?_
      rintro (hd | hd)
      · exact h.eeP ht (hr.sub _ _ _ hm) hd
      · exact hne l' i' a hm hd
  · rintro a ha (hd | hd)
    · exact absurd hd (h.eeP ht ha)
    · rw [hd]; exact ⟨_, hen⟩
set_option maxHeartbeats 1000000 in
theorem added_more {tw te : TypeId} (ht : te ≠ tw) {S : Nat → Prop} {w : World} {P m : Nat} {at_ : Nat → Nat} {row : Nat → Nat → List Nat} {s : St} {l i id z : Nat} {xs : List Nat} {b e : Value} (h : WIn tw te S w P m at_ row s) (hr : Rows1 row s)
    (hl : l < 11) (hi : i < 64) (hid : id ∈ s.ids) (hnot : ∀ l i, id ∉ row l i) (he : Ent te w at_ s id b e) (hrz : row l i = xs ++ [z]) :
    Added tw te S w P m at_ row s l i id ((((w.setCell ⟨at_ id, 3, none⟩ (.pointer (some ⟨at_ z, 0, none⟩))).setCell ⟨at_ id, 4, none⟩ (.pointer none)).setCell ⟨at_ z, 4, none⟩ (.pointer (some ⟨at_ id, 0, none⟩))).setCell ⟨P, so l i + 1, none⟩ (.pointer (some ⟨at_ id, 0, none⟩))) := by
  have n1 : at_ id ≠ P := h.eeP ht hid
  have n2 : P ≠ at_ id := Ne.symm n1
  have nm : at_ id ≠ m := h.eem hid
  have hso := so_lt hl hi
  have hne : ∀ l' i' a, a ∈ row l' i' → at_ a ≠ at_ id := fun l' i' a ha ee => hnot l' i' (h.inj a (hr.sub l' i' a ha) id hid ee ▸ ha)
  have hz : z ∈ row l i := by rw [hrz]; simp
  have hzE := h.lnk l i xs [] z hrz
  have n3 : at_ z ≠ at_ id := hne l i z hz
  have n4 : at_ id ≠ at_ z := Ne.symm n3
  have n5 : at_ z ≠ P := h.eeP ht (hr.sub l i z hz)
  have n6 : P ≠ at_ z := Ne.symm n5
  have k2 : Keep (fun k => k = P ∨ k = at_ id ∨ k = at_ z) w ((((w.setCell ⟨at_ id, 3, none⟩ (.pointer (some ⟨at_ z, 0, none⟩))).setCell ⟨at_ id, 4, none⟩ (.pointer none)).setCell ⟨at_ z, 4, none⟩ (.pointer (some ⟨at_ id, 0, none⟩))).setCell ⟨P, so l i + 1, none⟩ (.pointer (some ⟨at_ id, 0, none⟩))) :=
    (((Keep.setCell _ (.inr (.inl rfl)) _).more (Keep.setCell _ (.inr (.inl rfl)) _)).more (Keep.setCell _ (.inr (.inr rfl)) _)).more (Keep.setCell _ (.inl rfl) _)
  have hen := (((he.setB (.pointer (some ⟨at_ z, 0, none⟩))).setE (.pointer none)).other 4 (.pointer (some ⟨at_ id, 0, none⟩)) n4).other (so l i + 1) (.pointer (some ⟨at_ id, 0, none⟩)) n1
  have hzn := (((hzE.other 3 (.pointer (some ⟨at_ z, 0, none⟩)) n3).other 4 (.pointer none) n3).setE (.pointer (some ⟨at_ id, 0, none⟩))).other (so l i + 1) (.pointer (some ⟨at_ id, 0, none⟩)) n5
  refine ⟨h.relink ?_ k2 ?_ ?_ ?_, k2.mono fun k hk => hk.imp (fun x => x) fun hk => hk.imp (fun x => x) fun hk => ⟨z, hz, hk⟩⟩
  · obtain ⟨cs, b1, b2⟩ := h.wb
    have b3 := (keep_cell _ (at_ z) 4 (.pointer (some ⟨at_ id, 0, none⟩))).blk ((keep_cell (w.setCell ⟨at_ id, 3, none⟩ (.pointer (some ⟨at_ z, 0, none⟩))) (at_ id) 4 (.pointer none)).blk ((keep_cell w (at_ id) 3 (.pointer (some ⟨at_ z, 0, none⟩))).blk b1 n2) n2) n6
    have b4 := set_blk b3 (so l i + 1) (.pointer (some ⟨at_ id, 0, none⟩))
    refine ⟨_, b4, ?_⟩
    have hsz := b2.1
    refine b2.set hi _ (by simp) (fun j j1 j2 => ?_) ?_ ?_
    · rw [set_get _ _ _ _ (by omega), if_neg j2]
    · rw [set_get _ _ _ _ (by omega), if_neg (by omega), (b2.2.2.2.2 l i hl hi).1, hrz, show (xs ++ [z] ++ [id]).head? = (xs ++ [z]).head? by cases xs <;> rfl]
    · rw [set_get _ _ _ _ (by omega), if_pos rfl]
      simp [ptr]
  · rintro (hc | hc | hc)
    · exact h.ePm hc.symm
    · exact nm hc.symm
    · exact h.eem (hr.sub l i z hz) hc.symm
  · intro l' i' ps ys a hx
    by_cases hc : l' = l ∧ i' = i
    · obtain ⟨rfl, rfl⟩ := hc
      rw [put2_same] at hx
      rcases List.eq_nil_or_concat ys with rfl | ⟨ys', q, rfl⟩
      · have hx2 : row l' i' ++ [id] = ps ++ [a] := hx
        obtain ⟨e1, rfl⟩ := snoc_inj hx2
        rw [← e1, hrz]
        simpa [ptr] using hen
      · rw [List.concat_eq_append] at hx ⊢
        have hx' : row l' i' ++ [id] = (ps ++ a :: ys') ++ [q] := by rw [hx]; simp
        obtain ⟨e1, rfl⟩ := snoc_inj hx'
        by_cases hy : ys' = []
        · subst hy
          have e3 : xs ++ [z] = ps ++ [a] := by rw [← hrz, e1]
          obtain ⟨rfl, rfl⟩ := snoc_inj e3
          exact hzn
        · have hza : a ≠ z := by
            intro ea
            have hnd := hr.nd l' i'
            rw [e1] at hnd
            have hzl : z ∈ ys' := by
              have e6 : (ps ++ a :: ys').getLast? = some z := by rw [← e1, hrz]; simp
              rw [List.getLast?_append] at e6
              obtain ⟨q, t, rfl⟩ := List.exists_cons_of_ne_nil hy
              rw [List.getLast?_cons_cons] at e6
              have : (q :: t).getLast? = some z := by
                cases hq : (q :: t).getLast? with
                | none => simp at hq
                | some u => rw [hq] at e6; simpa using e6
              exact List.mem_of_getLast? this
            rw [ea] at hnd
            have := (List.nodup_append.1 hnd).2.1
            exact (List.nodup_cons.1 this).1 hzl
          have hm : a ∈ row l' i' := by rw [e1]; simp
          have := (h.lnk l' i' ps ys' a e1).keep k2 (by
            rintro (hd | hd | hd)
            · exact h.eeP ht (hr.sub _ _ _ hm) hd
            · exact hne l' i' a hm hd
            · exact hza (h.inj a (hr.sub _ _ _ hm) z (hr.sub _ _ _ hz) hd))
          have hh : (ys' ++ [id]).head? = ys'.head? := by cases ys' with | nil => exact absurd rfl hy | cons => rfl
          rw [hh]
          exact this
    · rw [put2_other _ _ hc] at hx
      have hm : a ∈ row l' i' := by rw [hx]; simp
      refine (h.lnk l' i' ps ys a hx).keep k2 ?_
      rintro (hd | hd | hd)
      · exact h.eeP ht (hr.sub _ _ _ hm) hd
      · exact hne l' i' a hm hd
      · have := h.inj a (hr.sub _ _ _ hm) z (hr.sub _ _ _ hz) hd
        subst this
        exact hc (hr.dis _ _ _ _ a hm hz)
  · rintro a ha (hd | hd | hd)
    · exact absurd hd (h.eeP ht ha)
    · rw [hd]; exact ⟨_, hen⟩
    · rw [hd]; exact ⟨_, hzn⟩

set_option maxHeartbeats 2000000 in
theorem addI {S : Nat → Prop} {P m : Nat} {at_ : Nat → Nat} {row : Nat → Nat → List Nat} {s : St} (l i id : Nat) (b e : Value) (w : World) (h : WIn 75 80 S w P m at_ row s) (hr : Rows1 row s)
    (hl : l < 11) (hi : i < 64) (hid : id ∈ s.ids) (hnot : ∀ l i, id ∉ row l i) (he : Ent 80 w at_ s id b e) :
    Calls Try.prog 36 #[.pointer (some ⟨P, so l i, none⟩), .pointer (some ⟨at_ id, 0, none⟩)] w fun e w' => e = .returned (.tuple #[]) ∧
      Added 75 80 S w P m at_ row s l i id w' := by
  have c1 := h.cfst hl hi
  have c2 := h.clst hl hi
  have f1 := h.fz (so l i)
  have f2 := h.fz (so l i + 1)
  have e3 := he.c3
  have e4 := he.c4
  have g3 := he.fz 3
  have g4 := he.fz 4
  have n1 : at_ id ≠ P := h.eeP (by decide) hid
  have n2 : P ≠ at_ id := Ne.symm n1
  rcases List.eq_nil_or_concat (row l i) with hr0 | ⟨xs, z, hrz⟩
  · rw [hr0] at c1 c2
    simp only [List.head?_nil, List.getLast?_nil, ptr] at c1 c2
    have HF := hide (added_nil (by decide) h hr hl hi hid hnot he hr0)
    clear h he hr hr0
    go_enter Try.func36, Try.ntmps36
    go_wp2
    go_end0
    exact ⟨rfl, HF.out⟩
  · rw [List.concat_eq_append] at hrz
    have hz : z ∈ row l i := by rw [hrz]; simp
    have hzE := h.lnk l i xs [] z hrz
    have n3 : at_ z ≠ at_ id := fun ee => hnot l i (h.inj z (hr.sub l i z hz) id hid ee ▸ hz)
    have n4 : at_ id ≠ at_ z := Ne.symm n3
    have n5 : at_ z ≠ P := h.eeP (by decide) (hr.sub l i z hz)
    have n6 : P ≠ at_ z := Ne.symm n5
    have HF := hide (added_more (by decide) h hr hl hi hid hnot he hrz)
    rw [hrz] at c1 c2
    simp only [List.getLast?_concat, ptr] at c2
    have z4 := hzE.c4
    have y4 := hzE.fz 4
    clear h he hr hzE hrz hz
    go_enter Try.func36, Try.ntmps36
    go_wp2
    go_end0
    exact ⟨rfl, HF.out⟩
set_option maxHeartbeats 2000000 in
theorem addS {S : Nat → Prop} {P m : Nat} {at_ : Nat → Nat} {row : Nat → Nat → List Nat} {s : St} (l i id : Nat) (b e : Value) (w : World) (h : WIn 95 97 S w P m at_ row s) (hr : Rows1 row s)
    (hl : l < 11) (hi : i < 64) (hid : id ∈ s.ids) (hnot : ∀ l i, id ∉ row l i) (he : Ent 97 w at_ s id b e) :
    Calls Try.prog 40 #[.pointer (some ⟨P, so l i, none⟩), .pointer (some ⟨at_ id, 0, none⟩)] w fun e w' => e = .returned (.tuple #[]) ∧
      Added 95 97 S w P m at_ row s l i id w' := by
  have c1 := h.cfst hl hi
  have c2 := h.clst hl hi
  have f1 := h.fz (so l i)
  have f2 := h.fz (so l i + 1)
  have e3 := he.c3
  have e4 := he.c4
  have g3 := he.fz 3
  have g4 := he.fz 4
  have n1 : at_ id ≠ P := h.eeP (by decide) hid
  have n2 : P ≠ at_ id := Ne.symm n1
  rcases List.eq_nil_or_concat (row l i) with hr0 | ⟨xs, z, hrz⟩
  · rw [hr0] at c1 c2
    simp only [List.head?_nil, List.getLast?_nil, ptr] at c1 c2
    have HF := hide (added_nil (by decide) h hr hl hi hid hnot he hr0)
    clear h he hr hr0
    go_enter Try.func40, Try.ntmps40
    go_wp2
    go_end0
    exact ⟨rfl, HF.out⟩
  · rw [List.concat_eq_append] at hrz
    have hz : z ∈ row l i := by rw [hrz]; simp
    have hzE := h.lnk l i xs [] z hrz
    have n3 : at_ z ≠ at_ id := fun ee => hnot l i (h.inj z (hr.sub l i z hz) id hid ee ▸ hz)
    have n4 : at_ id ≠ at_ z := Ne.symm n3
    have n5 : at_ z ≠ P := h.eeP (by decide) (hr.sub l i z hz)
    have n6 : P ≠ at_ z := Ne.symm n5
    have HF := hide (added_more (by decide) h hr hl hi hid hnot he hrz)
    rw [hrz] at c1 c2
    simp only [List.getLast?_concat, ptr] at c2
    have z4 := hzE.c4
    have y4 := hzE.fz 4
    clear h he hr hzE hrz hz
    go_enter Try.func40, Try.ntmps40
    go_wp2
    go_end0
    exact ⟨rfl, HF.out⟩

end Wh
end Go.Proofs.Ytbjapgajbljhfaa
