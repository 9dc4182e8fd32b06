import Derived.Test.YtfoahfgehmghcaaGreatDoorUSp6
import Derived.Test.YtfoahfgehmghcaaGreatDoorUSp9
import Derived.Test.YtfoahfgehmghcaaGreatDoorUPar
/- The document's Parse: edges laid into the nodes, in memory. -/
namespace Go.Proofs.YtfoahfgehmghcaaGreatDoor
namespace U
namespace Sp
open Go.RowKit

/-- the nodes, the first of which have their edges -/
def mid (d : Dr) (i : Nat) : List Pn := (d.nds.mapIdx (outN d.nds d.ms)).take i ++ d.nds.drop i
theorem mid_zero (d : Dr) : mid d 0 = d.nds := by simp [mid]
theorem mid_all (d : Dr) : mid d d.nds.length = d.nds.mapIdx (outN d.nds d.ms) := by
  unfold mid
  rw [List.take_of_length_le (by simp), List.drop_eq_nil_of_le (Nat.le_refl _), List.append_nil]
theorem mid_get (d : Dr) {i : Nat} (hi : i ≤ d.nds.length) (j : Nat) : (mid d i)[j]? = if j < i then d.nds[j]?.map (outN d.nds d.ms j) else d.nds[j]? := by
  unfold mid
  have hl : ((d.nds.mapIdx (outN d.nds d.ms)).take i).length = i := by simp; omega
  by_cases h : j < i
  · rw [if_pos h, List.getElem?_append_left (by omega), List.getElem?_take, if_pos h, List.getElem?_mapIdx]
  · rw [if_neg h, List.getElem?_append_right (by omega), hl, List.getElem?_drop]
    congr 1
    omega
theorem mid_len (d : Dr) {i : Nat} (hi : i ≤ d.nds.length) : (mid d i).length = d.nds.length := by
  unfold mid
  simp
  omega
theorem mid_next (d : Dr) {i : Nat} {x : Pn} (hx : d.nds[i]? = some x) : mid d (i + 1) = (mid d i).set i (outN d.nds d.ms i x) := by
  have hi : i < d.nds.length := (List.getElem?_eq_some_iff.1 hx).1
  apply List.ext_getElem?
  intro j
  rw [mid_get d (by omega), List.getElem?_set, mid_get d (by omega), mid_len d (by omega)]
  by_cases e : i = j
  · subst e
    rw [if_pos (by omega), if_pos rfl, if_pos hi, hx]
    rfl
  · rw [if_neg e]
    by_cases h : j < i
    · rw [if_pos (by omega), if_pos h]
    · rw [if_neg (by omega), if_neg h]
theorem mid_nm (d : Dr) {i : Nat} (hi : i ≤ d.nds.length) : (mid d i).map (·.nm) = d.nds.map (·.nm) := by
  apply List.ext_getElem?
  intro j
  rw [List.getElem?_map, List.getElem?_map, mid_get d hi]
  split
  · rw [Option.map_map]; rfl
  · rfl
/-- what stands between two nodes, its places in memory by name -/
structure EdX (B : Nat) (w : World) (D : Nat) (d : Dr) (i : Nat) (vn vl vN vA vL vP : Value) (L M : List (Option Addr × Nat × Nat)) (xs : List Gr.No) : Prop where
  g : DfG B w D (cs9 d.nm d.dl d.place vn vl vN vA vL vP) (rw6 vn vl vN vA vL vP (xs.map (·.q)) d.places L M (rowL d.ms d.nds.length 0) (rowL d.ms d.nds.length 1))
  s1 : Sx w L (rowN d.ms d.nds.length 0)
  s2 : Sx w M (rowN d.ms d.nds.length 1)
  ers : xs.map er = (mid d i).map no
  ls : ∀ x ∈ xs, LsI w x.q.ne x.nl ∧ LsI w x.q.af x.al
def Ed (B : Nat) (w : World) (D : Nat) (d : Dr) (i : Nat) : Prop := ∃ vn vl vN vA vL vP L M xs, EdX B w D d i vn vl vN vA vL vP L M xs
theorem EdX.below {B : Nat} {w w' : World} {D : Nat} {d : Dr} {i : Nat} {vn vl vN vA vL vP : Value} {L M : List (Option Addr × Nat × Nat)} {xs : List Gr.No} (h : EdX B w D d i vn vl vN vA vL vP L M xs) (k : Below w.heap.size w w') : EdX B w' D d i vn vl vN vA vL vP L M xs :=
  ⟨h.g.below k, h.s1.fq (B := B) (Fq.ofBelow k), h.s2.fq (B := B) (Fq.ofBelow k), h.ers, fun x hx => ⟨(h.ls x hx).1.below k, (h.ls x hx).2.below k⟩⟩
theorem EdX.len {B : Nat} {w : World} {D : Nat} {d : Dr} {i : Nat} {vn vl vN vA vL vP : Value} {L M : List (Option Addr × Nat × Nat)} {xs : List Gr.No} (h : EdX B w D d i vn vl vN vA vL vP L M xs) (hi : i ≤ d.nds.length) : xs.length = d.nds.length := by
  have := congrArg List.length h.ers
  rw [List.length_map, List.length_map, mid_len d hi] at this
  exact this
theorem Ed.start {B : Nat} {w : World} {D : Nat} {d : Dr} (h : DfAt B w D d) (hb : ∀ x ∈ d.nds, x.nl = [] ∧ x.al = []) : Ed B w D d 0 := by
  obtain ⟨vn, vl, vN, vA, vL, vP, L, M, X⟩ := h
  refine ⟨vn, vl, vN, vA, vL, vP, L, M, d.nds.map no, ⟨?_, X.2.1, X.2.2, ?_, ?_⟩⟩
  · rw [List.map_map]; exact X.1
  · rw [mid_zero, List.map_map]; rfl
  · intro x hx
    obtain ⟨y, hy, rfl⟩ := List.mem_map.1 hx
    obtain ⟨e1, e2⟩ := hb y hy
    have z : ∀ l : List Int, l = [] → LsI w (none, 0, 0) l := fun l e => by subst e; exact ⟨rfl, by simp, .inl rfl⟩
    exact ⟨z _ e1, z _ e2⟩
theorem EdX.nm {B : Nat} {w : World} {D : Nat} {d : Dr} {i : Nat} {vn vl vN vA vL vP : Value} {L M : List (Option Addr × Nat × Nat)} {xs : List Gr.No} (h : EdX B w D d i vn vl vN vA vL vP L M xs) (hi : i ≤ d.nds.length) : NmAt B w D vn (xs.map (·.q)) d.nds := by
  refine ⟨cell_blk h.g.blk 2 rfl, h.g.rws.own 0 _ rfl, ?_⟩
  have e1 : xs.map (fun x => (er x).q.nm) = (mid d i).map fun x => (no x).q.nm := by
    have := congrArg (List.map fun z : Gr.No => z.q.nm) h.ers
    rw [List.map_map, List.map_map] at this
    exact this
  have e2 : (mid d i).map (fun x => (no x).q.nm) = d.nds.map fun x => ba x.nm := by
    have := congrArg (List.map ba) (mid_nm d hi)
    rw [List.map_map, List.map_map] at this
    exact this
  rw [List.map_map]
  exact e1.trans e2
/-- a node that gets its edges -/
theorem EdX.step {B : Nat} {w : World} {D : Nat} {d : Dr} {i : Nat} {vn vl vN vA vL vP : Value} {L M : List (Option Addr × Nat × Nat)} {xs : List Gr.No} (h : EdX B w D d i vn vl vN vA vL vP L M xs) {x : Pn} (hx : d.nds[i]? = some x) {g cap : Nat} (hv : vn = .slice (some ⟨g, 0, none⟩) xs.length cap) (s t : Option Addr × Nat × Nat) (h1 : LsI w s ((edg d.nds (nmsOf d.ms i 0)).getD [])) (h2 : LsI w t ((edg d.nds (nmsOf d.ms i 1)).getD [])) :
    (∃ xs', EdX B ((w.setCell ⟨g, i * 10 + 8, none⟩ (.slice s.1 s.2.1 s.2.2)).setCell ⟨g, i * 10 + 9, none⟩ (.slice t.1 t.2.1 t.2.2)) D d (i + 1) vn vl vN vA vL vP L M xs') ∧ Fq B w ((w.setCell ⟨g, i * 10 + 8, none⟩ (.slice s.1 s.2.1 s.2.2)).setCell ⟨g, i * 10 + 9, none⟩ (.slice t.1 t.2.1 t.2.2)) := by
  have hi : i < d.nds.length := (List.getElem?_eq_some_iff.1 hx).1
  have hxl := h.len (by omega)
  obtain ⟨y, hy⟩ : ∃ y, xs[i]? = some y := ⟨_, List.getElem?_eq_getElem (by omega)⟩
  have hye : er y = no x := by
    have e1 : (xs.map er)[i]? = some (er y) := by rw [List.getElem?_map, hy]; rfl
    rw [h.ers, List.getElem?_map, mid_get d (by omega), if_neg (by omega), hx] at e1
    exact (Option.some.inj e1).symm
  have hv0 : vn = .slice (some ⟨g, 0, none⟩) (xs.map (·.q)).length cap := by rw [List.length_map]; exact hv
  have r1 := h.g.rws.set (i := 0) rfl hv0 (i * 10 + 8) (.slice s.1 s.2.1 s.2.2)
  have r2 := r1.set (i := 0) rfl hv0 (i * 10 + 9) (.slice t.1 t.2.1 t.2.2)
  have t1 := row_tq h.g.rws (i := 0) rfl (g := g) (by simp only; rw [hv]; rfl)
  have t2 := row_tq r1 (i := 0) rfl (g := g) (by simp only; rw [hv]; rfl)
  have f1 : Fq B w (w.setCell ⟨g, i * 10 + 8, none⟩ (.slice s.1 s.2.1 s.2.2)) := Fq.ofKeep (keep_cell w g _ _) fun i e => by subst e; exact t1
  have f2 : Fq B (w.setCell ⟨g, i * 10 + 8, none⟩ (.slice s.1 s.2.1 s.2.2)) ((w.setCell ⟨g, i * 10 + 8, none⟩ (.slice s.1 s.2.1 s.2.2)).setCell ⟨g, i * 10 + 9, none⟩ (.slice t.1 t.2.1 t.2.2)) := Fq.ofKeep (keep_cell _ g _ _) fun i e => by subst e; exact t2
  have hDg : D ≠ g := h.g.rws.farI h.g.blk draft_ty (i := 0) rfl (g := g) (by simp only; rw [hv]; rfl)
  have kk : Keep (fun k => k = g) w ((w.setCell ⟨g, i * 10 + 8, none⟩ (.slice s.1 s.2.1 s.2.2)).setCell ⟨g, i * 10 + 9, none⟩ (.slice t.1 t.2.1 t.2.2)) := (keep_cell w g _ _).more (keep_cell _ g _ _)
  have hb := kk.blk h.g.blk hDg
  have hint : ∀ (k : Nat) (cur : Array Value), k = g → w.heap[k]? ≠ some (.cells cur 3 (0, 0)) := fun k cur e hc => by
    subst e
    exact own_far (h.g.rws.own 0 _ rfl) hc (by show 3 ≠ 32; decide) (by simp only; rw [hv]; rfl)
  let y' : Gr.No := ⟨{ y.q with ne := s, af := t }, (edg d.nds (nmsOf d.ms i 0)).getD [], (edg d.nds (nmsOf d.ms i 1)).getD []⟩
  refine ⟨⟨xs.set i y', ⟨h.g.lo, hb, ?_⟩, h.s1.fq (f1.trans f2), h.s2.fq (f1.trans f2), ?_, ?_⟩, f1.trans f2⟩
  · have e1 : flat ((xs.set i y').map (·.q)) = ((flat (xs.map (·.q))).set (i * 10 + 8) (.slice s.1 s.2.1 s.2.2)).set (i * 10 + 9) (.slice t.1 t.2.1 t.2.2) := by
      have q0 : (xs.map (·.q))[i]? = some y.q := by rw [List.getElem?_map, hy]; rfl
      rw [flat_set (xs.map (·.q)) i 8 y.q { y.q with ne := s } _ q0 rfl (by decide)]
      rw [flat_set ((xs.map (·.q)).set i { y.q with ne := s }) i 9 { y.q with ne := s } y'.q _ (by rw [List.getElem?_set_self (by rw [List.length_map]; omega)]) rfl (by decide)]
      rw [List.set_set, List.map_set]
    have e2 : ((xs.set i y').map (·.q)).length = (xs.map (·.q)).length := by simp
    unfold rw6
    rw [e1, e2]
    exact r2
  · rw [mid_next d hx, List.map_set, List.map_set, h.ers]
    congr 1
    show Gr.No.mk { y.q with ne := (none, 0, 0), af := (none, 0, 0) } _ _ = _
    have e3 : (er y).q = (no x).q := by rw [hye]
    have e3 : ({ y.q with ne := (none, 0, 0), af := (none, 0, 0) } : Gr.Nd) = (no x).q := e3
    rw [e3]
    rfl
  · intro z hz
    rcases List.mem_or_eq_of_mem_set hz with hz | rfl
    · exact ⟨(h.ls z hz).1.keep kk hint, (h.ls z hz).2.keep kk hint⟩
    · exact ⟨h1.keep kk hint, h2.keep kk hint⟩
theorem EdX.nds {B : Nat} {w : World} {D : Nat} {d : Dr} {vn vl vN vA vL vP : Value} {L M : List (Option Addr × Nat × Nat)} {xs : List Gr.No} (h : EdX B w D d d.nds.length vn vl vN vA vL vP L M xs) : NdsAt B w vn (d.nds.mapIdx (outN d.nds d.ms)) := by
  refine ⟨xs, by rw [← mid_all]; exact h.ers, ?_, h.ls⟩
  have := h.g.rws.own 0 _ rfl
  simpa using this
end Sp
end U
end Go.Proofs.YtfoahfgehmghcaaGreatDoor

/- The document's Parse: what is read of a draft while edges are laid. -/
namespace Go.Proofs.YtfoahfgehmghcaaGreatDoor
namespace U
namespace Sp
open Go.RowKit

/-- a row that is not empty, by its block -/
def vS (g n c : Nat) : Value := .slice (some ⟨g, 0, none⟩) n c
theorem EdX.shape {B : Nat} {w : World} {D : Nat} {d : Dr} {i : Nat} {vn vl vN vA vL vP : Value} {L M : List (Option Addr × Nat × Nat)} {xs : List Gr.No} (h : EdX B w D d i vn vl vN vA vL vP L M xs) (hi : i ≤ d.nds.length) (hn : 0 < d.nds.length) :
    ∃ gV cV gN cN gA cA gL cL gP cP, vn = vS gV d.nds.length cV ∧ vN = vS gN d.nds.length cN ∧ vA = vS gA d.nds.length cA ∧ vL = vS gL d.nds.length cL ∧ vP = vS gP d.nds.length cP := by
  have hxl := h.len hi
  have hL : L.length = d.nds.length := h.s1.1.trans (rowN_len ..)
  have hM : M.length = d.nds.length := h.s2.1.trans (rowN_len ..)
  have r0 := h.g.rws.own 0 _ rfl
  obtain ⟨va, vc, hv⟩ := own_shape r0
  have hv : vn = .slice va (xs.map (·.q)).length vc := hv
  subst hv
  obtain ⟨q, hq⟩ : ∃ q, (xs.map (·.q))[0]? = some q := ⟨_, List.getElem?_eq_getElem (by rw [List.length_map]; omega)⟩
  obtain ⟨gV, e0, _⟩ := own_name r0 hq
  obtain ⟨gN, cN, e1, _, _⟩ := own_some (h.g.rws.own 2 _ rfl) (by show 0 < L.length; omega)
  obtain ⟨gA, cA, e2, _, _⟩ := own_some (h.g.rws.own 3 _ rfl) (by show 0 < M.length; omega)
  obtain ⟨gL, cL, e3, _, _⟩ := own_some (h.g.rws.own 4 _ rfl) (by show 0 < (rowL ..).length; rw [rowL_len]; exact hn)
  obtain ⟨gP, cP, e4, _, _⟩ := own_some (h.g.rws.own 5 _ rfl) (by show 0 < (rowL ..).length; rw [rowL_len]; exact hn)
  have e1 : vN = .slice (some ⟨gN, 0, none⟩) L.length cN := e1
  have e2 : vA = .slice (some ⟨gA, 0, none⟩) M.length cA := e2
  have e3 : vL = .slice (some ⟨gL, 0, none⟩) (rowL d.ms d.nds.length 0).length cL := e3
  have e4 : vP = .slice (some ⟨gP, 0, none⟩) (rowL d.ms d.nds.length 1).length cP := e4
  rw [hL] at e1
  rw [hM] at e2
  rw [rowL_len] at e3 e4
  refine ⟨gV, vc, gN, cN, gA, cA, gL, cL, gP, cP, ?_, e1, e2, e3, e4⟩
  rw [e0, List.length_map, hxl]
  rfl
/-- what is read of node k -/
structure EdC (W : World) (D k n : Nat) (gV cV gN cN gA cA gL cL gP cP : Nat) (sN sA : Option Addr × Nat × Nat) (l0 l1 : Nat) : Prop where
  d2 : W.cell? ⟨D, 2, none⟩ = some (.slice (some ⟨gV, 0, none⟩) n cV)
  d5 : W.cell? ⟨D, 5, none⟩ = some (.slice (some ⟨gN, 0, none⟩) n cN)
  d6 : W.cell? ⟨D, 6, none⟩ = some (.slice (some ⟨gA, 0, none⟩) n cA)
  d7 : W.cell? ⟨D, 7, none⟩ = some (.slice (some ⟨gL, 0, none⟩) n cL)
  d8 : W.cell? ⟨D, 8, none⟩ = some (.slice (some ⟨gP, 0, none⟩) n cP)
  n : W.cell? ⟨gN, k, none⟩ = some (.slice sN.1 sN.2.1 sN.2.2)
  a : W.cell? ⟨gA, k, none⟩ = some (.slice sA.1 sA.2.1 sA.2.2)
  l : W.cell? ⟨gL, k, none⟩ = some (.int .i64 (l0 : Int))
  p : W.cell? ⟨gP, k, none⟩ = some (.int .i64 (l1 : Int))
  v : ∃ cur, W.heap[gV]? = some (.cells cur 32 (0, 0)) ∧ (∃ u, cur[k * 10 + 8]? = some u) ∧ ∃ u, cur[k * 10 + 9]? = some u
  ne : D ≠ gV
theorem EdX.c {B : Nat} {W : World} {D : Nat} {d : Dr} {i : Nat} {vl : Value} {gV cV gN cN gA cA gL cL gP cP : Nat} {L M : List (Option Addr × Nat × Nat)} {xs : List Gr.No} (h : EdX B W D d i (vS gV d.nds.length cV) vl (vS gN d.nds.length cN) (vS gA d.nds.length cA) (vS gL d.nds.length cL) (vS gP d.nds.length cP) L M xs) (hi : i ≤ d.nds.length) {k : Nat} (hk : k < d.nds.length) {sN sA : Option Addr × Nat × Nat} (hN : L[k]? = some sN) (hA : M[k]? = some sA) :
    EdC W D k d.nds.length gV cV gN cN gA cA gL cL gP cP sN sA (lnOf d.ms k 0) (lnOf d.ms k 1) := by
  have hxl := h.len hi
  have one : ∀ {t : TypeId} {g n c : Nat} {xs : List Value}, W.ownsRow B t 1 (vS g n c) n xs → ∀ (j : Nat) u, xs[j]? = some u → W.cell? ⟨g, j, none⟩ = some u := fun {t g n c xs} ho j u hu => by
    rcases ho.2 with ⟨e1, _⟩ | ⟨g', cap, cur, e1, e2, e3, e4, e5, e6, e7⟩
    · cases e1
    · cases e1
      rw [← e7, List.getElem?_take] at hu
      split at hu
      · exact cell_blk e3 _ (by simpa using hu)
      · cases hu
  have hL : L.length = d.nds.length := h.s1.1.trans (rowN_len ..)
  have hM : M.length = d.nds.length := h.s2.1.trans (rowN_len ..)
  have r2 : W.ownsRow B 58 1 (vS gN d.nds.length cN) L.length (svs L) := h.g.rws.own 2 _ rfl
  have r3 : W.ownsRow B 58 1 (vS gA d.nds.length cA) M.length (svs M) := h.g.rws.own 3 _ rfl
  have r4 : W.ownsRow B 3 1 (vS gL d.nds.length cL) (rowL d.ms d.nds.length 0).length (ivs (rowL d.ms d.nds.length 0)) := h.g.rws.own 4 _ rfl
  have r5 : W.ownsRow B 3 1 (vS gP d.nds.length cP) (rowL d.ms d.nds.length 1).length (ivs (rowL d.ms d.nds.length 1)) := h.g.rws.own 5 _ rfl
  rw [hL] at r2
  rw [hM] at r3
  rw [rowL_len] at r4 r5
  refine ⟨cell_blk h.g.blk 2 rfl, cell_blk h.g.blk 5 rfl, cell_blk h.g.blk 6 rfl, cell_blk h.g.blk 7 rfl, cell_blk h.g.blk 8 rfl, one r2 k _ (by simp [svs, hN]), one r3 k _ (by simp [svs, hA]), one r4 k _ (by unfold ivs; rw [List.getElem?_map, rowL_get d.ms 0 hk]; rfl), one r5 k _ (by unfold ivs; rw [List.getElem?_map, rowL_get d.ms 1 hk]; rfl), ?_, h.g.rws.farI h.g.blk draft_ty (i := 0) rfl (g := gV) rfl⟩
  have r0 := h.g.rws.own 0 _ rfl
  rcases r0.2 with ⟨e1, _⟩ | ⟨g', cap, cur, e1, e2, e3, e4, e5, e6, e7⟩
  · cases e1
  · have e1 : vS gV d.nds.length cV = .slice (some ⟨g', 0, none⟩) (xs.map (·.q)).length cap := e1
    unfold vS at e1
    injection e1 with e1 e1' e1''
    injection e1 with e1
    injection e1 with e1
    subst e1
    subst e1''
    have hcs : cur.size = cV * 10 := e6
    have hcn : (xs.map (·.q)).length ≤ cV := e4
    rw [List.length_map, hxl] at hcn
    exact ⟨cur, e3, ⟨_, Array.getElem?_eq_getElem (by omega)⟩, _, Array.getElem?_eq_getElem (by omega)⟩
end Sp
end U
end Go.Proofs.YtfoahfgehmghcaaGreatDoor
