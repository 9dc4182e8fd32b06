/- The laws of crew: awake; rows of rows. -/
import Derived.Test.YtgjiaajeionofaaKWor
namespace Go.Proofs.Ytgjiaajeionofaa
namespace Cw
open Go.RowKit Go.Deep

theorem ins_nil (w : World) : Ins w none 0 [] := ⟨rfl, by decide, .inl rfl⟩
theorem four_lt (s : Nat) : ∀ d ∈ four s, d < 256 := fun d hd => by
  simp only [four, List.mem_cons, List.not_mem_nil, or_false] at hd
  omega
theorem rd_four {w : World} {g s : Nat} (h : w.heap[g]? = some (.cells (B8 (four s)).toArray 5 (0, 0))) : Rd w (some ⟨g, 0, none⟩) 4 (four s) := by
  refine ⟨rfl, by decide, four_lt s, .inr ⟨g, 0, rfl, fun i hi => ?_⟩⟩
  rw [Nat.zero_add, cell_of_row w g i _ _ _ h, List.getElem?_toArray, B8_at _ _ (by show i < 4; omega)]
theorem sum_a : four (M.more 0 (sb ⟨#[97]⟩ ++ txt [])) = [193, 208, 67, 48] := by decide +kernel
theorem str_a : str [193, 208, 67, 48] = ⟨#[193, 208, 67, 48]⟩ := by decide +kernel
set_option maxRecDepth 10000 in
theorem awake_any (w : World) : Calls Try.prog 4 #[] w fun en w' => en = .returned (.bool true) ∧ Below w.heap.size w w' := by
  go_enter Try.func4, Try.ntmps4
  go_wp2_with fail
  refine (work_any ⟨#[97]⟩ (by decide) none 0 0 [] _ (ins_nil _) (by decide) (by decide)).mono ?_
  rintro e w1 ⟨rfl, _, h1, hb1⟩
  rw [sum_a] at h1
  have hc := conv_rd (w := w1) (a := some ⟨w1.heap.size - 1, 0, none⟩) (n := 4) (l := [193, 208, 67, 48]) (by rw [← sum_a] at h1 ⊢; exact rd_four h1) 4
  rw [str_a] at hc
  clear h1
  go_wp2
  go_ret
  exact ⟨rfl, hb1⟩
/-- a row of rows of bytes, each in memory of its own -/
structure Rw (w : World) (B : Nat) (v : Value) (vs : List Value) (ls : List (List Nat)) : Prop where
  row : w.ownsRow B 35 1 v vs.length vs
  len : vs.length = ls.length
  els : ∀ (i : Nat) x l, vs[i]? = some x → ls[i]? = some l → ∃ a c, x = .slice a l.length c ∧ Rd w a l.length l ∧ (a = none → c = 0) ∧ ∀ ad, a = some ad → v.ownBlock ≠ some ad.block ∧ ad.block < w.heap.size
theorem Rw.nil (w : World) (B : Nat) : Rw w B (.slice none 0 0) [] [] := ⟨World.ownsRow_nil _ _ _ _, rfl, fun i x l h => by cases h⟩
theorem Rw.ins {w : World} {B : Nat} {v : Value} {vs : List Value} {ls : List (List Nat)} (h : Rw w B v vs ls) (hn : ls.length < 281474976710656) : ∃ a c, v = .slice a ls.length c ∧ Ins w a ls.length ls := by
  have hl := h.len
  obtain ⟨a, c, e⟩ := ownsRow_shape h.row
  refine ⟨a, c, by rw [e, hl], rfl, hn, ?_⟩
  by_cases h0 : ls.length = 0
  · exact .inl h0
  · right
    rcases h.row.2 with ⟨_, h1⟩ | ⟨g, cap, cur, e2, _⟩
    · omega
    · rw [e] at e2
      injection e2 with e2
      subst e2
      refine ⟨g, 0, rfl, fun i l hi => ?_⟩
      have hi' : i < vs.length := by rw [hl]; exact (List.getElem?_eq_some_iff.1 hi).1
      obtain ⟨a', c', h1, h2, h3, _⟩ := h.els i _ l (List.getElem?_eq_getElem hi') hi
      have := h.row.cells (g := g) (by rw [e]; rfl) i _ (List.getElem?_eq_getElem hi')
      rw [Addr.add_lit] at this
      exact ⟨a', c', by rw [this, h1], h2, h3⟩
theorem Rw.push {w w2 w4 : World} {B : Nat} {v v' x : Value} {vs : List Value} {ls : List (List Nat)} {l : List Nat} {o : Obj} (h : Rw w B v vs ls) (hb2 : Below w.heap.size w w2) (hx : w2.ownsRow w.heap.size 5 1 x l.length (B8 l)) (hd : ∀ d ∈ l, d < 256) (hs : l.length < 281474976710656)
    (hr : w4.ownsRow B 35 1 v' (vs ++ [x]).length (vs ++ [x])) (hg : (w2.alloc o).grownBy w4 v.ownBlock) (hn : NewBlk (w2.alloc o) v v') : Rw w4 B v' (vs ++ [x]) (ls ++ [l]) := by
  have hsz := hb2.size
  have hlt : ∀ k, v.ownBlock = some k → k < w.heap.size := fun k e => (h.row.lt k e).2
  have hk : Keep (fun k => v.ownBlock = some k) (w2.alloc o) w4 := Keep.grown hg fun k e => e
  have hb3 : Below w2.heap.size w2 (w2.alloc o) := (Below.refl _ _).alloc (Nat.le_refl _) o
  refine ⟨hr, by rw [List.length_append, List.length_append, h.len]; rfl, fun i y m hy hm => ?_⟩
  by_cases hi : i < vs.length
  · rw [List.getElem?_append_left hi] at hy
    rw [List.getElem?_append_left (by rw [← h.len]; exact hi)] at hm
    obtain ⟨a, c, e, h1, h2, h3⟩ := h.els i y m hy hm
    have hz := hg.size
    simp at hz
    refine ⟨a, c, e, ((h1.keep hb2).keep hb3).stay hk (fun b off ea eb => (h3 _ ea).1 eb), h2, fun ad ea => ⟨fun eb => ?_, ?_⟩⟩
    · rcases hn with hn | hn
      · rw [hn] at eb; exact (h3 ad ea).1 eb
      · have h5 := hn _ eb
        have h6 := (h3 ad ea).2
        simp at h5
        omega
    · have h6 := (h3 ad ea).2
      omega
  · have hz := hg.size
    simp at hz
    have hi2 : i = vs.length := by
      have := (List.getElem?_eq_some_iff.1 hy).1
      rw [List.length_append] at this
      simp at this
      omega
    subst hi2
    rw [List.getElem?_append_right (Nat.le_refl _), Nat.sub_self] at hy
    rw [List.getElem?_append_right (by rw [h.len]; exact Nat.le_refl _), h.len, Nat.sub_self] at hm
    simp only [List.getElem?_cons_zero, Option.some.injEq] at hy hm
    subst hy hm
    obtain ⟨a, c, e, h1, h2, _, h4⟩ := ownsRow_rd hx hd hs
    refine ⟨a, c, e, (h1.keep hb3).stay hk (fun b off ea eb => ?_), h2, fun ad ea => ?_⟩
    · obtain ⟨g, e1, hge⟩ := h4 _ ea
      injection e1 with e1
      have := hlt _ eb
      omega
    · obtain ⟨g, rfl, hge⟩ := h4 ad ea
      have hgl : g < w2.heap.size := (hx.lt g (by rw [e, ea]; rfl)).2
      refine ⟨fun eb => ?_, ?_⟩
      · rcases hn with hn | hn
        · rw [hn] at eb
          have := hlt _ eb
          simp only at this
          omega
        · have h5 := hn _ eb
          simp at h5
          omega
      · show g < _
        omega
end Cw
end Go.Proofs.Ytgjiaajeionofaa
