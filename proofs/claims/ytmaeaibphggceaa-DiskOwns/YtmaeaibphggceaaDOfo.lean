/- DiskOwns: rows of lists that were told, each list in a block of its own; blocks bear colours, so that what is written of one leaves the others. -/
import Derived.Test.YtmaeaibphggceaaDOst
namespace Go.Proofs.Ytmaeaibphggceaa
open Go.RowKit Go.Lib

/-- what a value's block is coloured -/
def Col (c : Nat → Nat) (v : Value) (x : Nat) : Prop := ∀ k, v.ownBlock = some k → c k = x
/-- new blocks get a colour -/
def ext (c : Nat → Nat) (N x : Nat) (k : Nat) : Nat := if k < N then c k else x
/-- a list of colour x is taken behind a row: it gets the colour of the row's lists; new blocks are the row's -/
def pus (c : Nat → Nat) (N jr je x : Nat) (k : Nat) : Nat := if k < N then if c k = x then je else c k else jr
/-- a row of lists, the row of colour jr, the lists of colour je, each in a block of its own -/
structure Fo (et st : TypeId) (B : Nat) (w : World) (c : Nat → Nat) (jr je : Nat) (v : Value) (vs : List Value) (Ls : List (List Value)) : Prop where
  row : w.ownsRow B st 1 v Ls.length vs
  len : vs.length = Ls.length
  own : ∀ (i : Nat) u l, vs[i]? = some u → Ls[i]? = some l → w.ownsRow B et 1 u l.length l
  ap : ∀ (i k : Nat) u t b, vs[i]? = some u → vs[k]? = some t → i ≠ k → u.ownBlock = some b → t.ownBlock ≠ some b
  cr : Col c v jr
  ce : ∀ (i : Nat) u, vs[i]? = some u → Col c u je
variable {et st : TypeId} {B : Nat} {w w' : World} {c c' : Nat → Nat} {jr je : Nat} {v v' : Value} {vs : List Value} {Ls : List (List Value)}
theorem Fo.nil (et st : TypeId) (B : Nat) (w : World) (c : Nat → Nat) (jr je : Nat) : Fo et st B w c jr je (.slice none 0 0) [] [] :=
  ⟨World.ownsRow_nil _ _ _ _, rfl, (fun i u l h => by simp at h), (fun i k u t b h => by simp at h), (fun k e => by simp [Value.ownBlock] at e), (fun i u h => by simp at h)⟩
theorem Fo.at_ (h : Fo et st B w c jr je v vs Ls) (i : Nat) {u : Value} (hu : vs[i]? = some u) : ∃ l, Ls[i]? = some l ∧ w.ownsRow B et 1 u l.length l := by
  have hi : i < Ls.length := by rw [← h.len]; exact (List.getElem?_eq_some_iff.1 hu).1
  exact ⟨_, List.getElem?_eq_getElem hi, h.own i _ _ hu (List.getElem?_eq_getElem hi)⟩
theorem Fo.keep (h : Fo et st B w c jr je v vs Ls) {U : Nat → Prop} (k : Keep U w w') (hU : ∀ b, U b → c b ≠ jr ∧ c b ≠ je) (hc : ∀ b, b < w.heap.size → (c b = jr → c' b = jr) ∧ (c b = je → c' b = je)) : Fo et st B w' c' jr je v vs Ls :=
  ⟨ownsRow_keep h.row k fun b e hu => (hU b hu).1 (h.cr b e), h.len, fun i u l h1 h2 => ownsRow_keep (h.own i u l h1 h2) k fun b e hu => (hU b hu).2 (h.ce i u h1 b e), h.ap,
    fun b e => (hc b (h.row.lt b e).2).1 (h.cr b e), fun i u h1 b e => by
      obtain ⟨l, _, ho⟩ := h.at_ i h1
      exact (hc b (ho.lt b e).2).2 (h.ce i u h1 b e)⟩
theorem Fo.ext (h : Fo et st B w c jr je v vs Ls) (k : Keep (fun _ => False) w w') (x : Nat) : Fo et st B w' (ext c w.heap.size x) jr je v vs Ls :=
  h.keep k (fun _ f => f.elim) fun b hb => by unfold Ytmaeaibphggceaa.ext; rw [if_pos hb]; exact ⟨id, id⟩
/-- another row, of other colours, is behind it -/
theorem Fo.other (h : Fo et st B w c jr je v vs Ls) {jr' je' x : Nat} {v2 : Value} (k : Keep (fun b => v2.ownBlock = some b) w w') (h2 : Col c v2 jr') (hj : jr' ≠ jr ∧ jr' ≠ je) (hx : x ≠ jr ∧ x ≠ je) : Fo et st B w' (pus c w.heap.size jr' je' x) jr je v vs Ls :=
  h.keep k (fun b e => by rw [h2 b e]; exact hj) fun b hb => by
    unfold pus
    rw [if_pos hb]
    exact ⟨fun e => by rw [e, if_neg (fun e => hx.1 e.symm)], fun e => by rw [e, if_neg (fun e => hx.2 e.symm)]⟩
theorem Fo.push (h : Fo et st B w c jr je v vs Ls) {x : Nat} {u : Value} {l : List Value} (hr : w'.ownsRow B st 1 v' (Ls.length + 1) (vs ++ [u])) (k : Keep (fun b => v.ownBlock = some b) w w') (nb : NewBlk w v v') (hu : w.ownsRow B et 1 u l.length l) (hcu : Col c u x) (hx : x ≠ jr ∧ x ≠ je) (hj : jr ≠ je) : Fo et st B w' (pus c w.heap.size jr je x) jr je v' (vs ++ [u]) (Ls ++ [l]) := by
  have hlast : ∀ (i : Nat) t, (vs ++ [u])[i]? = some t → (i < vs.length ∧ vs[i]? = some t) ∨ (i = vs.length ∧ t = u) := fun i t e => by
    by_cases hi : i < vs.length
    · rw [List.getElem?_append_left hi] at e
      exact .inl ⟨hi, e⟩
    · rw [List.getElem?_append_right (by omega)] at e
      by_cases h0 : i - vs.length = 0
      · rw [h0] at e
        simp at e
        exact .inr ⟨by omega, e.symm⟩
      · rw [List.getElem?_eq_none (by simp; omega)] at e
        cases e
  have hun : ∀ (i : Nat) t b, vs[i]? = some t → t.ownBlock = some b → u.ownBlock ≠ some b := fun i t b e1 e2 e3 => hx.2 ((hcu b e3).symm.trans (h.ce i t e1 b e2))
  refine ⟨by rw [List.length_append]; exact hr, by rw [List.length_append, List.length_append, h.len]; rfl, fun i t m e1 e2 => ?_, fun i q t s b e1 e2 hne e3 e4 => ?_, fun b e => ?_, fun i t e1 b e2 => ?_⟩
  · rcases hlast i t e1 with ⟨hi, e⟩ | ⟨hi, rfl⟩
    · rw [List.getElem?_append_left (by rw [← h.len]; exact hi)] at e2
      refine ownsRow_keep (h.own i t m e e2) k fun b e3 (e4 : v.ownBlock = some b) => ?_
      exact hj ((h.cr b e4).symm.trans (h.ce i t e b e3))
    · have hm : m = l := by
        rw [hi, h.len, List.getElem?_append_right (Nat.le_refl _), Nat.sub_self] at e2
        simpa using e2.symm
      subst hm
      exact ownsRow_keep hu k fun b e3 (e4 : v.ownBlock = some b) => hx.1 ((hcu b e3).symm.trans (h.cr b e4))
  · rcases hlast i t e1 with ⟨hi, e⟩ | ⟨hi, rfl⟩
    · rcases hlast q s e2 with ⟨hq, e'⟩ | ⟨hq, rfl⟩
      · exact h.ap i q t s b e e' hne e3 e4
      · exact hun i t b e e3 e4
    · rcases hlast q s e2 with ⟨hq, e'⟩ | ⟨hq, rfl⟩
      · exact hun q s b e' e4 e3
      · exact hne (hi.trans hq.symm)
  · unfold pus
    rcases nb with e0 | e0
    · rw [e0] at e
      rw [if_pos (h.row.lt b e).2, h.cr b e, if_neg (fun e => hx.1 e.symm)]
    · rw [if_neg (Nat.not_lt.2 (e0 b e))]
  · unfold pus
    rcases hlast i t e1 with ⟨hi, e⟩ | ⟨hi, rfl⟩
    · obtain ⟨m, _, ho⟩ := h.at_ i e
      rw [if_pos (ho.lt b e2).2, h.ce i t e b e2, if_neg (fun e => hx.2 e.symm)]
    · rw [if_pos (hu.lt b e2).2, if_pos (hcu b e2)]
theorem Col.ext {u : Value} {x y : Nat} (h : Col c u y) {base : Nat} {e : TypeId} {s n : Nat} {xs : List Value} (ho : w.ownsRow base e s u n xs) : Col (ext c w.heap.size x) u y := fun b e => by
  unfold Ytmaeaibphggceaa.ext
  rw [if_pos (ho.lt b e).2]
  exact h b e
theorem Col.new {u : Value} {N x : Nat} (h : ∀ b, u.ownBlock = some b → N ≤ b) : Col (Ytmaeaibphggceaa.ext c N x) u x := fun b e => by
  unfold Ytmaeaibphggceaa.ext
  rw [if_neg (Nat.not_lt.2 (h b e))]
theorem Col.push {u : Value} {x y jr je : Nat} (h : Col c u y) (hy : y ≠ x) {base : Nat} {e : TypeId} {s n : Nat} {xs : List Value} (ho : w.ownsRow base e s u n xs) : Col (pus c w.heap.size jr je x) u y := fun b e => by
  unfold pus
  rw [if_pos (ho.lt b e).2, h b e, if_neg hy]
/-- the four rows that the law fills -/
structure Four (B : Nat) (w8 w : World) (c : Nat → Nat) (v1 v2 v3 v4 : Value) (L1 L2 : List (List Int)) (R1 R2 : List (List Nat)) : Prop where
  fa : ∃ vs, Fo 3 27 B w c 1 2 v1 vs (L1.map Zv)
  fb : ∃ vs, Fo 3 27 B w c 3 4 v2 vs (L2.map Zv)
  fc : ∃ vs, Fo 5 26 B w c 5 6 v3 vs (R1.map B8)
  fd : ∃ vs, Fo 5 26 B w c 7 8 v4 vs (R2.map B8)
  k : Keep (fun b => B ≤ b) w8 w
variable {w8 : World} {v1 v2 v3 v4 : Value} {L1 L2 : List (List Int)} {R1 R2 : List (List Nat)}
theorem Four.ext (h : Four B w8 w c v1 v2 v3 v4 L1 L2 R1 R2) (k : Keep (fun _ => False) w w') (x : Nat) : Four B w8 w' (ext c w.heap.size x) v1 v2 v3 v4 L1 L2 R1 R2 := by
  obtain ⟨⟨a, ha⟩, ⟨b, hb⟩, ⟨d, hd⟩, ⟨e, he⟩, hk⟩ := h
  exact ⟨⟨a, ha.ext k x⟩, ⟨b, hb.ext k x⟩, ⟨d, hd.ext k x⟩, ⟨e, he.ext k x⟩, hk.more (k.mono fun _ f => f.elim)⟩
theorem keep_own {B : Nat} {w w' : World} {v : Value} {e : TypeId} {s n : Nat} {xs : List Value} (k : Keep (fun b => v.ownBlock = some b) w w') (h : w.ownsRow B e s v n xs) : Keep (fun b => B ≤ b) w w' := k.mono fun b e => (h.lt b e).1
theorem Four.push1 (h : Four B w8 w c v1 v2 v3 v4 L1 L2 R1 R2) {x : Nat} (hx : 8 < x) {u : Value} {l : List Int} (hu : w.ownsRow B 3 1 u l.length (Zv l)) (hcu : Col c u x) : ∃ vs, w.ownsRow B 27 1 v1 L1.length vs ∧ ∀ v' w', w'.ownsRow B 27 1 v' (L1.length + 1) (vs ++ [u]) → Keep (fun b => v1.ownBlock = some b) w w' → NewBlk w v1 v' → Four B w8 w' (pus c w.heap.size 1 2 x) v' v2 v3 v4 (L1 ++ [l]) L2 R1 R2 := by
  obtain ⟨⟨a, ha⟩, ⟨b, hb⟩, ⟨d, hd⟩, ⟨e, he⟩, hk⟩ := h
  refine ⟨a, by simpa using ha.row, ?_⟩
  intro v' w' hr k nb
  refine ⟨⟨a ++ [u], ?_⟩, ⟨b, hb.other k ha.cr (by omega) (by omega)⟩, ⟨d, hd.other k ha.cr (by omega) (by omega)⟩, ⟨e, he.other k ha.cr (by omega) (by omega)⟩, hk.more (keep_own k ha.row)⟩
  rw [List.map_append]
  exact ha.push (l := Zv l) (by simpa using hr) k nb (by rw [Zv_len]; exact hu) hcu (by omega) (by decide)
theorem Four.push2 (h : Four B w8 w c v1 v2 v3 v4 L1 L2 R1 R2) {x : Nat} (hx : 8 < x) {u : Value} {l : List Int} (hu : w.ownsRow B 3 1 u l.length (Zv l)) (hcu : Col c u x) : ∃ vs, w.ownsRow B 27 1 v2 L2.length vs ∧ ∀ v' w', w'.ownsRow B 27 1 v' (L2.length + 1) (vs ++ [u]) → Keep (fun b => v2.ownBlock = some b) w w' → NewBlk w v2 v' → Four B w8 w' (pus c w.heap.size 3 4 x) v1 v' v3 v4 L1 (L2 ++ [l]) R1 R2 := by
  obtain ⟨⟨a, ha⟩, ⟨b, hb⟩, ⟨d, hd⟩, ⟨e, he⟩, hk⟩ := h
  refine ⟨b, by simpa using hb.row, ?_⟩
  intro v' w' hr k nb
  refine ⟨⟨a, ha.other k hb.cr (by omega) (by omega)⟩, ⟨b ++ [u], ?_⟩, ⟨d, hd.other k hb.cr (by omega) (by omega)⟩, ⟨e, he.other k hb.cr (by omega) (by omega)⟩, hk.more (keep_own k hb.row)⟩
  rw [List.map_append]
  exact hb.push (l := Zv l) (by simpa using hr) k nb (by rw [Zv_len]; exact hu) hcu (by omega) (by decide)
theorem Four.push3 (h : Four B w8 w c v1 v2 v3 v4 L1 L2 R1 R2) {x : Nat} (hx : 8 < x) {u : Value} {l : List Nat} (hu : w.ownsRow B 5 1 u l.length (B8 l)) (hcu : Col c u x) : ∃ vs, w.ownsRow B 26 1 v3 R1.length vs ∧ ∀ v' w', w'.ownsRow B 26 1 v' (R1.length + 1) (vs ++ [u]) → Keep (fun b => v3.ownBlock = some b) w w' → NewBlk w v3 v' → Four B w8 w' (pus c w.heap.size 5 6 x) v1 v2 v' v4 L1 L2 (R1 ++ [l]) R2 := by
  obtain ⟨⟨a, ha⟩, ⟨b, hb⟩, ⟨d, hd⟩, ⟨e, he⟩, hk⟩ := h
  refine ⟨d, by simpa using hd.row, ?_⟩
  intro v' w' hr k nb
  refine ⟨⟨a, ha.other k hd.cr (by omega) (by omega)⟩, ⟨b, hb.other k hd.cr (by omega) (by omega)⟩, ⟨d ++ [u], ?_⟩, ⟨e, he.other k hd.cr (by omega) (by omega)⟩, hk.more (keep_own k hd.row)⟩
  rw [List.map_append]
  exact hd.push (l := B8 l) (by simpa using hr) k nb (by rw [B8_length]; exact hu) hcu (by omega) (by decide)
theorem Four.push4 (h : Four B w8 w c v1 v2 v3 v4 L1 L2 R1 R2) {x : Nat} (hx : 8 < x) {u : Value} {l : List Nat} (hu : w.ownsRow B 5 1 u l.length (B8 l)) (hcu : Col c u x) : ∃ vs, w.ownsRow B 26 1 v4 R2.length vs ∧ ∀ v' w', w'.ownsRow B 26 1 v' (R2.length + 1) (vs ++ [u]) → Keep (fun b => v4.ownBlock = some b) w w' → NewBlk w v4 v' → Four B w8 w' (pus c w.heap.size 7 8 x) v1 v2 v3 v' L1 L2 R1 (R2 ++ [l]) := by
  obtain ⟨⟨a, ha⟩, ⟨b, hb⟩, ⟨d, hd⟩, ⟨e, he⟩, hk⟩ := h
  refine ⟨e, by simpa using he.row, ?_⟩
  intro v' w' hr k nb
  refine ⟨⟨a, ha.other k he.cr (by omega) (by omega)⟩, ⟨b, hb.other k he.cr (by omega) (by omega)⟩, ⟨d, hd.other k he.cr (by omega) (by omega)⟩, ⟨e ++ [u], ?_⟩, hk.more (keep_own k he.row)⟩
  rw [List.map_append]
  exact he.push (l := B8 l) (by simpa using hr) k nb (by rw [B8_length]; exact hu) hcu (by omega) (by decide)
end Go.Proofs.Ytmaeaibphggceaa
