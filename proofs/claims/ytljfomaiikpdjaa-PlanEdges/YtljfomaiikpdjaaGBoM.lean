/- PlanBounds: a lent plan in which a number is turned. -/
import Derived.Test.YtljfomaiikpdjaaGLnd
import Derived.Test.YtljfomaiikpdjaaGLaw
import Derived.Test.YtljfomaiikpdjaaGBdM
namespace Go.Proofs.Ytljfomaiikpdjaa
namespace Gr
open Go.RowKit

theorem pick_anyB (c : Int) (n : Nat) (h1 : -9223372036854775808 ≤ c) (h2 : c ≤ 9223372036854775807) (hn : 1 ≤ n) (hn2 : n ≤ 64) (w : World) :
    Calls Try.prog 8 #[.int .i64 c, .int .i64 (n : Int)] w fun e w' => (∃ r : Nat, e = .returned (.int .i64 (r : Int)) ∧ r < n) ∧ w' = w := by
  by_cases hc : c < 0
  · go_enter Try.func8, Try.ntmps8
    go_wp2_with fail
    go_ret
    have e : -(c + 1).tmod n = (-(c + 1)) % n := by rw [← Int.neg_tmod, Int.tmod_eq_emod_of_nonneg (by omega)]
    have a1 := Int.emod_nonneg (-(c + 1)) (show (n : Int) ≠ 0 by omega)
    have a2 := Int.emod_lt_of_pos (-(c + 1)) (show (0 : Int) < n by omega)
    exact ⟨⟨((-(c + 1)) % n).toNat, by rw [Int.toNat_of_nonneg a1, ← e]; rfl, by omega⟩, rfl⟩
  · go_enter Try.func8, Try.ntmps8
    go_wp2_with fail
    go_ret
    have a1 := Int.emod_nonneg c (show (n : Int) ≠ 0 by omega)
    have a2 := Int.emod_lt_of_pos c (show (0 : Int) < n by omega)
    refine ⟨⟨(c % n).toNat, ?_, by omega⟩, rfl⟩
    rw [Int.toNat_of_nonneg a1]
    rfl
theorem set_self {α : Type} {l : List α} {i : Nat} {x : α} (h : l[i]? = some x) : l.set i x = l := by
  apply List.ext_getElem?
  intro j
  rw [List.getElem?_set]
  split
  · rename_i e
    subst e
    split
    · exact h.symm
    · rename_i e2
      exact absurd (List.getElem?_eq_some_iff.1 h).1 e2
  · rfl
/-- a lent plan, read -/
theorem lent_rd {w : World} {G c : Nat} {zs : List No} {ms : List Nd} (hr : RowsAt w G (zs.map (·.q) ++ ms)) (hz : ∀ z ∈ zs, RdZ w.heap.size w z.q.ne z.nl ∧ RdZ w.heap.size w z.q.af z.al) (hl : zs.length ≤ 64) : RdP w.heap.size w (some ⟨G, 0, none⟩, zs.length, c) zs := by
  refine ⟨rfl, by show zs.length ≤ _; omega, .inr ⟨G, 0, rfl, hr.lt, fun i x hx => ?_⟩, hz⟩
  rw [Nat.zero_add]
  refine hr.node i x.q ?_
  rw [List.getElem?_append_left (by rw [List.length_map]; exact (List.getElem?_eq_some_iff.1 hx).1), List.getElem?_map, hx]
  rfl
theorem lts_rd {w : World} {xs ys : List No} (h : Lts w xs ys) (hl : ys.length = xs.length) (hz : ∀ x ∈ xs, x.nl.length ≤ 20000 ∧ x.al.length ≤ 20000) : ∀ y ∈ ys, RdZ w.heap.size w y.q.ne y.nl ∧ RdZ w.heap.size w y.q.af y.al := fun y hy => by
  obtain ⟨k, hk⟩ := List.getElem?_of_mem hy
  have hkl : k < xs.length := by rw [← hl]; exact (List.getElem?_eq_some_iff.1 hk).1
  have hx : xs[k]? = some (xs[k]'hkl) := List.getElem?_eq_getElem _
  have ht := h k _ y hx hk
  have hb := hz _ (List.mem_of_getElem? hx)
  obtain ⟨g1, e1, o1⟩ := ht.ne
  obtain ⟨g2, e2, o2⟩ := ht.af
  have h1 := o1.rd (n := xs[k].nl.length) (by simp [marked]) (by simp [marked]; omega) (xs[k].nl.length + 20)
  have h2 := o2.rd (n := xs[k].al.length) (by simp [marked]) (by simp [marked]; omega) (xs[k].al.length + 20)
  rw [e1, e2, ht.nl, ht.al]
  exact ⟨by simpa [marked] using h1, by simpa [marked] using h2⟩
theorem lts_sim {w : World} {xs ys : List No} (h : Lts w xs ys) (hl : ys.length = xs.length) {a : Nat} {y z : No} (hy : ys[a]? = some y) (hz : Sim y z) : Sims xs (ys.set a z) := by
  refine ⟨by simp [hl], fun k x y' hx hy' => ?_⟩
  have hs : ∀ (k : Nat) (x y : No), xs[k]? = some x → ys[k]? = some y → Sim x y := fun k x y hx hy => by
    have ht := h k x y hx hy
    exact ⟨by rw [ht.q], ht.nl.symm, ht.al.symm⟩
  rw [List.getElem?_set] at hy'
  split at hy'
  · rename_i e
    subst e
    split at hy'
    · obtain rfl := Option.some.inj hy'
      have h1 := hs a x y hx hy
      exact ⟨h1.1.trans hz.1, h1.2.1.trans hz.2.1, h1.2.2.trans hz.2.2⟩
    · cases hy'
  · exact hs k x y' hx hy'
/-- the numbers of a lent node are what they were -/
theorem lts_fok {w : World} {nm : ByteArray} {dl : Int} {xs ys : List No} (h : Lts w xs ys) (hl : ys.length = xs.length) (hck : (chk nm dl xs).2 = 0) {k : Nat} {y : No} (hy : ys[k]? = some y) : fOk y.q = true := by
  have hkl : k < xs.length := by rw [← hl]; exact (List.getElem?_eq_some_iff.1 hy).1
  have hx : xs[k]? = some (xs[k]'hkl) := List.getElem?_eq_getElem _
  have ht := h k _ y hx hy
  have := (cN_ok (chk_ok hck).2.1 k _ hx).2.1
  rw [ht.q]
  exact this
/-- a number of one node is turned: what Check says then -/
theorem bounds_core {w w' : World} {nm : ByteArray} {dl : Int} {xs ys : List No} {ms : List Nd} {G a : Nat} {y : No} {q' : Nd} {rs : List Nd} (hl : Lts w xs ys) (hr0 : RowsAt w G (ys.map (·.q) ++ ms)) (hn : ys.length = xs.length) (hck : (chk nm dl xs).2 = 0) (hs : Sz nm xs) (hz : ∀ x ∈ xs, x.nl.length ≤ 20000 ∧ x.al.length ≤ 20000) (hy : ys[a]? = some y) (hq : q'.nm = y.q.nm ∧ q'.ne = y.q.ne ∧ q'.af = y.q.af) (k : Keep (fun j => j = G) w w') (hr : RowsAt w' G rs) (he : rs = (ys.map (·.q) ++ ms).set a q') :
    RdP w'.heap.size w' (some ⟨G, 0, none⟩, xs.length, xs.length + 3) (ys.set a ⟨q', y.nl, y.al⟩) ∧ Sz nm (ys.set a ⟨q', y.nl, y.al⟩) ∧ chk nm dl (ys.set a ⟨q', y.nl, y.al⟩) = if fOk q' then (0, 0) else (a + 1, 104) := by
  have ha := (List.getElem?_eq_some_iff.1 hy).1
  have hl' : Lts w' xs ys := hl.keep k (rows_typ hr0)
  have hv := (chk_ok hck).2.2.2.1.1
  have hrd := lts_rd hl' hn hz
  have hmem : ∀ z ∈ ys.set a ⟨q', y.nl, y.al⟩, z ∈ ys ∨ z = ⟨q', y.nl, y.al⟩ := fun z hz => List.mem_or_eq_of_mem_set hz
  have hsim := lts_sim hl' hn hy (z := ⟨q', y.nl, y.al⟩) ⟨hq.1.symm, rfl, rfl⟩
  refine ⟨?_, ⟨hs.1, fun z hzm => ?_⟩, ?_⟩
  · have e : (ys.set a ⟨q', y.nl, y.al⟩).length = xs.length := by simp [hn]
    rw [← e]
    refine lent_rd (ms := ms) ?_ (fun z hzm => ?_) (by rw [e]; exact hv)
    · rw [he, List.set_append, if_pos (by rw [List.length_map]; exact ha)] at hr
      rw [List.map_set]
      exact hr
    · rcases hmem z hzm with h | h
      · exact hrd z h
      · subst h
        have := hrd y (List.mem_of_getElem? hy)
        show RdZ _ _ q'.ne y.nl ∧ RdZ _ _ q'.af y.al
        rw [hq.2.1, hq.2.2]
        exact this
  · obtain ⟨j, hj⟩ := List.getElem?_of_mem hzm
    have hjx : j < xs.length := by rw [hsim.1]; exact (List.getElem?_eq_some_iff.1 hj).1
    have hx : xs[j]? = some (xs[j]'hjx) := List.getElem?_eq_getElem _
    rw [← (hsim.2 j _ z hx hj).1]
    exact hs.2 _ (List.mem_of_getElem? hx)
  · have hset : (ys.set a ⟨q', y.nl, y.al⟩)[a]? = some ⟨q', y.nl, y.al⟩ := List.getElem?_set_self ha
    have hoth : ∀ (j : Nat) (z : No), (ys.set a ⟨q', y.nl, y.al⟩)[j]? = some z → j ≠ a → fOk z.q = true := fun j z hj hne => by
      rw [List.getElem?_set_ne (fun e => hne e.symm)] at hj
      exact lts_fok hl' hn hck hj
    generalize ys.set a ⟨q', y.nl, y.al⟩ = zs at *
    have h3 := chk_turn (a := a) (y := ⟨q', y.nl, y.al⟩) hck hsim hset hoth
    exact h3
end Gr
end Go.Proofs.Ytljfomaiikpdjaa
