import Derived.Test.YtilpidioengnbaaDPz
/- DiskPlays: the document's turned. -/
namespace Go.Proofs.Ytilpidioengnbaa
namespace DP
open Go.RowKit

theorem B8_flip (l : List Nat) (i m : Nat) : B8 (flip l i m) = (B8 l).set i (.int .u8 ((l.getD i 0 ^^^ m : Nat) : Int)) := by
  unfold B8 flip
  rw [List.map_set]
theorem row_set {w : World} {v : Value} {l : List Nat} {g i m : Nat} (h : Row w v l) (hg : v.ownBlock = some g) (hx : (l.getD i 0 ^^^ m) < 256) :
    Row (w.setCell ⟨g, i, none⟩ (.int .u8 ((l.getD i 0 ^^^ m : Nat) : Int))) v (flip l i m) := by
  rcases h.parts with ⟨rfl, _⟩ | ⟨g', cap, cur, rfl, h1, h2, h3, h4, h5⟩
  · cases hg
  · have e : some g' = some g := hg
    injection e with e
    subst e
    have b := set_blk h1 i (.int .u8 ((l.getD i 0 ^^^ m : Nat) : Int))
    rw [List.setIfInBounds_toArray] at b
    have hr := row_mk (l := flip l i m) b (by rw [flip_length]; exact h2) h3 (by rw [List.length_set]; exact h4) (by rw [flip_length, List.take_set, h5, B8_flip]) (fun d hd => by
      rcases List.mem_or_eq_of_mem_set hd with hd | rfl
      · exact h.2 d hd
      · exact hx)
    rw [flip_length] at hr
    exact hr
set_option maxRecDepth 100000 in
set_option maxHeartbeats 800000 in
theorem turned_any (w : World) (v : Value) (l : List Nat) (i m : Nat) (h : Row w v l) (hi : i < l.length) (hm : m < 256) (hl : l.length ≤ 140737488355328) :
    Calls Try.prog 59 #[v, .int .i64 (i : Nat), .int .u8 (m : Nat)] w fun e w' => ∃ v', e = .returned v' ∧ Row w' v' (flip l i m) ∧ (∀ g, v'.ownBlock = some g → w.heap.size ≤ g) ∧ Keep (fun _ => False) w w' := by
  obtain ⟨a, c, rfl, _⟩ := ownsRow_sh h.1
  have HR := hide h
  have hb : l.getD i 0 < 256 := by
    have : l.getD i 0 = l[i] := by simp [List.getD, hi]
    rw [this]
    exact h.2 _ (List.getElem_mem hi)
  have HGe := hide (show l.getD i 0 = l[i] by simp [List.getD, hi])
  have hx := xor_u8 hb hm
  have HX := hide hx
  have hlt : (i : Int) < (l.length : Int) := by omega
  clear h
  go_enter Try.func59, Try.ntmps59
  go_wp2_with (first
    | (at_builtin
       refine wp_copyB rfl _ _ rfl rfl _ l rfl HR.out hl ?_
       intro a' c' w4 hr4 hn4 hk4
       obtain ⟨g, ha⟩ : ∃ g, a' = some ⟨g, 0, none⟩ := by
         rcases hr4.parts with ⟨e, e2⟩ | ⟨g, cap, cur, e, _⟩
         · rw [e2] at hi; exact absurd hi (by simp)
         · injection e with e; exact ⟨g, e⟩
       subst ha
       have z1 : w4.cell? ⟨g, i, none⟩ = some (.int .u8 ((l.getD i 0 : Nat) : Int)) := by
         have := hr4.1.cells (g := g) rfl i _ (B8_at l i hi)
         rw [Addr.add_lit, Nat.zero_add] at this
         exact this
       have f1 : w4.frozen? ⟨g, i, none⟩ = false := by
         obtain ⟨cs, hc⟩ := row_blk hr4 (g := g) rfl
         exact frozen_blk hc i
       have HR4 := hide hr4
       have HN4 := hide hn4
       have HK4 := hide hk4
       clear hr4 hn4 hk4)
    | go_in)
  go_ret
  have hb' : l[i] < 256 := HGe.out ▸ hb
  rw [u8_xor_nat _ m hb' hm, ← HGe.out]
  refine ⟨_, rfl, row_set HR4.out rfl HX.out, HN4.out, HK4.out.trans (keep_cell w4 g i _) fun k e => .inr ?_⟩
  have := HN4.out g rfl
  omega
end DP
end Go.Proofs.Ytilpidioengnbaa

/- DiskPlays: a segment's bytes exchanged in a list of segments. -/
namespace Go.Proofs.Ytilpidioengnbaa
namespace DP
open Go.RowKit

theorem rowS_set : ∀ {L : List Sv} {i : Nat} {e : Sv} (nb : List Nat) (nv : Value), L[i]? = some e → rowS (L.set i ⟨e.k, nb, nv⟩) = (rowS L).set (i * 2 + 1) nv
  | [], _, _, _, _, h => by simp at h
  | x :: r, 0, e, nb, nv, h => by
    simp at h
    subst h
    rfl
  | x :: r, i + 1, e, nb, nv, h => by
    have ih := rowS_set (L := r) (i := i) (e := e) nb nv (by simpa using h)
    have e1 : rowS (x :: r) = .int .i64 x.k :: x.v :: rowS r := rfl
    have e2 : rowS ((x :: r).set (i + 1) ⟨e.k, nb, nv⟩) = .int .i64 x.k :: x.v :: rowS (r.set i ⟨e.k, nb, nv⟩) := rfl
    rw [e1, e2, ih, show (i + 1) * 2 + 1 = i * 2 + 1 + 1 + 1 by omega]
    rfl
theorem idxK_uniq {L : List Sv} (h : SrtS (L.map Sv.sg)) {i j : Nat} {e x : Sv} (hi : L[i]? = some e) (hj : L[j]? = some x) (hk : e.k = x.k) : i = j := by
  unfold SrtS at h
  rw [List.pairwise_iff_getElem] at h
  have h1 := (List.getElem?_eq_some_iff.1 hi)
  have h2 := (List.getElem?_eq_some_iff.1 hj)
  obtain ⟨l1, e1⟩ := h1
  obtain ⟨l2, e2⟩ := h2
  rcases Nat.lt_trichotomy i j with hlt | heq | hlt
  · have := h i j (by simpa using l1) (by simpa using l2) hlt
    simp only [List.getElem_map, e1, e2] at this
    have h3 : e.k < x.k := this
    omega
  · exact heq
  · have := h j i (by simpa using l2) (by simpa using l1) hlt
    simp only [List.getElem_map, e1, e2] at this
    have h3 : x.k < e.k := this
    omega
/-- one segment's bytes changed, in the list and in the document's -/
theorem set_sg {L : List Sv} (h : SrtS (L.map Sv.sg)) {i : Nat} {e : Sv} (hi : L[i]? = some e) (f : List Nat → List Nat) (nv : Value) : (L.set i ⟨e.k, f e.b, nv⟩).map Sv.sg = modS (L.map Sv.sg) e.k f := by
  apply List.ext_getElem?
  intro j
  unfold modS
  rw [List.map_map, List.getElem?_map, List.getElem?_map, List.getElem?_set]
  have hl := (List.getElem?_eq_some_iff.1 hi).1
  by_cases hij : i = j
  · subst hij
    rw [if_pos rfl, if_pos hl, hi]
    simp [Sv.sg]
  · rw [if_neg hij]
    cases hj : L[j]? with
    | none => rfl
    | some x =>
      have hne : ¬ x.k = e.k := fun e2 => hij (idxK_uniq h hi hj e2.symm)
      simp [Sv.sg, hne]
theorem row_setv {w : World} {B : Nat} {v : Value} {L : List Sv} {g i : Nat} {e : Sv} (h : w.ownsRow B 77 2 v L.length (rowS L)) (hg : v.ownBlock = some g) (hi : L[i]? = some e) (nb : List Nat) (nv : Value) :
    (w.setCell ⟨g, i * 2 + 1, none⟩ nv).ownsRow B 77 2 v L.length (rowS (L.set i ⟨e.k, nb, nv⟩)) := by
  refine ⟨by rw [rowS_len, List.length_set], ?_⟩
  rcases h.2 with ⟨rfl, _⟩ | ⟨g', cap, cur, rfl, h1, h2, h3, h4, h5, h6⟩
  · cases hg
  · have e1 : some g' = some g := hg
    injection e1 with e1
    subst e1
    refine .inr ⟨g', cap, cur.setIfInBounds (i * 2 + 1) nv, rfl, h1, set_blk h2 _ nv, h3, h4, by rw [Array.size_setIfInBounds]; exact h5, ?_⟩
    rw [Array.toList_setIfInBounds, List.take_set, h6, rowS_set nb nv hi]
/-- a segment's bytes exchanged for such in a block of their own -/
theorem LsIn.setv {S : Nat → Prop} {w w1 : World} {v nv : Value} {L : List Sv} {g i : Nat} {e : Sv} {nb : List Nat} (h : LsIn S w v L) (hg : v.ownBlock = some g) (hi : L[i]? = some e) (k1 : Keep (fun _ => False) w w1) (hn : Row w1 nv nb) (hf : ∀ g, nv.ownBlock = some g → w.heap.size ≤ g) (hS : ∀ i, w.heap.size ≤ i → S i) :
    LsIn S (w1.setCell ⟨g, i * 2 + 1, none⟩ nv) v (L.set i ⟨e.k, nb, nv⟩) := by
  have hr1 := ownsRow_keep h.row k1 fun _ _ f => f
  have kc := keep_cell w1 g (i * 2 + 1) nv
  have hmem : ∀ x ∈ L.set i ⟨e.k, nb, nv⟩, x = ⟨e.k, nb, nv⟩ ∨ x ∈ L := fun x hx => (List.mem_or_eq_of_mem_set hx).symm
  refine ⟨?_, fun x hx => ?_, ?_, h.sv, fun x hx g' e2 => ?_⟩
  · rw [List.length_set]
    exact row_setv hr1 hg hi nb nv
  · rcases hmem x hx with rfl | hx
    · exact hn.keep kc fun b hb (e2 : b = g) => seg_ne hr1 hn hb (e2 ▸ hg)
    · have hb1 := (h.by8 x hx).keep k1 fun _ _ f => f
      exact hb1.keep kc fun b hb (e2 : b = g) => seg_ne hr1 hb1 hb (e2 ▸ hg)
  · rw [List.pairwise_iff_getElem]
    intro a b ha hb hab q e1 e2
    have hp := List.pairwise_iff_getElem.1 h.sep
    have ha' : a < L.length := by simpa using ha
    have hb' : b < L.length := by simpa using hb
    rw [List.getElem_set] at e1 e2
    split at e1
    · have h1 := hf q e1
      split at e2
      · omega
      · have := ((h.by8 _ (List.getElem_mem hb')).1.lt q e2).2
        omega
    · split at e2
      · have h1 := hf q e2
        have := ((h.by8 _ (List.getElem_mem ha')).1.lt q e1).2
        omega
      · exact hp a b ha' hb' hab q e1 e2
  · rcases hmem x hx with rfl | hx
    · exact hS _ (hf g' e2)
    · exact h.sb x hx g' e2
end DP
end Go.Proofs.Ytilpidioengnbaa

/- DiskPlays: what the contracts of the document's disk want, from both disks in one state. -/
namespace Go.Proofs.Ytilpidioengnbaa
namespace DP
open Go.RowKit

structure Fit (r : Rf) : Prop where
  cap : r.cap ≤ 67108864
  sum : sumS r.th ≤ 1152921504606846976
  len : r.th.length ≤ 1099511627776
  len2 : r.sf.length ≤ 1099511627776
  by_ : ∀ e ∈ r.th, e.2.length ≤ 67108864
  left : ∀ n, r.left = some n → n ≤ 9223372036854775807
theorem srt_bound {L : List Sg} (h : SrtS L) (hr : ∀ e ∈ L, 1 ≤ e.1 ∧ e.1 ≤ 1099511627776) : L.length ≤ 1099511627776 := by
  have h1 := (srtS_iff L).1 h
  have := keys_bound (l := L.map Prod.fst) (M := 1099511627776) (h1.imp fun h => by omega) fun x hx => by
    obtain ⟨e, he, rfl⟩ := List.mem_map.1 hx
    have := hr e he
    omega
  simpa using this
theorem fit_of {r : Rf} {s : St} {n : Nat} (h : Ag r s) (g : Good n s) (hn : n ≤ 70368744177664) : Fit r := by
  have hth : ∀ e ∈ r.th, s.held e.1 = some e.2 := fun e he => by
    unfold St.held
    rw [h.th, h.srt.mem he]
  have hr : ∀ e ∈ r.th, 1 ≤ e.1 ∧ e.1 ≤ 1099511627776 := fun e he => g.seg e.1 (by rw [hth e he]; simp)
  have hr2 : ∀ e ∈ r.sf, 1 ≤ e.1 ∧ e.1 ≤ 1099511627776 := fun e he => g.seg e.1 (by
    have h1 := h.srt2.mem he
    unfold St.held
    rw [h.sf, h1]
    cases s.there e.1 <;> simp)
  refine ⟨?_, ?_, srt_bound h.srt hr, srt_bound h.srt2 hr2, fun e he => g.len e.1 e.2 (hth e he), fun m hm => g.left m (by rw [h.left]; exact hm)⟩
  · rw [← h.cap]
    exact g.cap
  · have h1 := tot_list h.srt hr
    rw [show lookS r.th = s.there from (funext h.th).symm] at h1
    have h2 := g.bud.held hn
    have h3 := tot_away s
    omega
end DP
end Go.Proofs.Ytilpidioengnbaa
