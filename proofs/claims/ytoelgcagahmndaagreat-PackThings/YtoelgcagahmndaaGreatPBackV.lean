import Derived.Test.YtoelgcagahmndaaGreatPOneM
import Derived.Test.YtoelgcagahmndaaGreatPWordR
import Derived.Test.YtoelgcagahmndaaGreatPFlag
import Derived.Test.YtoelgcagahmndaaGreatPKnown
import Derived.Deep.QuietTactic
import Derived.BigQuiet
/- What is written is read as it was: the mathematics of P2.8 and P2.10. -/
namespace Go.Proofs.YtoelgcagahmndaaGreat
open Go.RowKit

/-- what f x lays, g takes, and it is x -/
def WR {α : Type} (g : K.RS → K.RS) (val : K.RS → α) (f : α → K.WS → K.WS) : Prop :=
  ∀ (x : α) (s0 : K.WS), s0.fault = 0 → s0.laid.length ≤ s0.most → s0.most ≤ 16777216 → (f x s0).fault = 0 →
    ∃ bs : List Nat, 1 ≤ bs.length ∧ s0.laid.length + bs.length ≤ s0.most ∧ f x s0 = { s0 with laid := s0.laid ++ bs } ∧ ∀ (s : K.RS) (tail : List Nat), s.fault = 0 → rest s = bs ++ tail → g s = s.go bs.length ∧ val s = x

theorem fail_faultW {s : K.WS} {e : Nat} (he : e ≠ 0) (h : (s.fail e).fault = 0) (hz : s.fault = 0) : False := by
  unfold K.WS.fail at h
  rw [if_pos hz] at h
  exact he h

theorem lay_ok {s0 : K.WS} {bs : List Nat} (hz : s0.fault = 0) (h : (s0.lay bs).fault = 0) : s0.laid.length + bs.length ≤ s0.most := by
  unfold K.WS.lay at h
  split at h
  · assumption
  · exact (fail_faultW (by decide) h hz).elim

theorem wr_num (least most : Int) (hm : most ≤ 9223372036854775807) : WR (numR least most) (fun s => ((numV s : Nat) : Int)) (fun x => numW least most x) := by
  intro x s0 hz hl ht hf
  dsimp only at hf ⊢
  unfold numW at hf ⊢
  by_cases hb : x < least ∨ x < 0 ∨ most < x
  · rw [if_pos hb] at hf; exact (fail_faultW (by decide) hf hz).elim
  · rw [if_neg hb] at hf ⊢
    obtain ⟨n, rfl⟩ := Int.eq_ofNat_of_zero_le (show 0 ≤ x by omega)
    rw [Int.toNat_natCast] at hf ⊢
    have hfit := lay_ok hz hf
    refine ⟨K.num n, K.num_pos n, hfit, lay_fits hfit, fun s tail hs hr => ?_⟩
    have hp : K.pk (rest s) = .ok (n, (K.num n).length) := by rw [hr]; exact K.pk_num (by omega) tail
    constructor
    · unfold numR
      rw [hp]
      exact if_neg (by omega)
    · show ((numV s : Nat) : Int) = _
      unfold numV
      rw [hp]

theorem wr_text (most : Int) : WR (rowR most) (fun s => rowV most s) (fun bs => textW most bs) := by
  intro bs s0 hz hl ht hf
  dsimp only at hf ⊢
  unfold textW at hf ⊢
  by_cases hb : most < (bs.length : Int)
  · rw [if_pos hb] at hf; exact (fail_faultW (by decide) hf hz).elim
  · rw [if_neg hb] at hf ⊢
    have hfit := lay_ok hz hf
    refine ⟨K.num bs.length ++ bs, by have := K.num_pos bs.length; rw [List.length_append]; omega, hfit, lay_fits hfit, fun s tail hs hr => ?_⟩
    rw [List.length_append] at hfit
    have hp : K.pk (rest s) = .ok (bs.length, (K.num bs.length).length) := by rw [hr, List.append_assoc]; exact K.pk_num (by omega) _
    have hc : cnt most (rest s) = .ok (bs.length, (K.num bs.length).length) := by
      unfold cnt
      rw [hp]
      show (if most < (bs.length : Int) then _ else if (rest s).length < _ then _ else _) = _
      rw [if_neg hb, if_neg (by rw [hr]; simp only [List.length_append]; omega)]
    constructor
    · unfold rowR
      rw [hc, List.length_append]
    · show rowV most s = bs
      unfold rowV
      rw [hc, hr]
      show ((K.num bs.length ++ bs ++ tail).take ((K.num bs.length).length + bs.length)).drop (K.num bs.length).length = bs
      rw [← List.length_append, List.take_left, List.drop_left]

/-- the values of n things -/
def valsOf {α : Type} (g : K.RS → K.RS) (val : K.RS → α) (n : Nat) (s : K.RS) : List α := (List.range n).map fun i => val (allR g i s)

theorem allR_shift (g : K.RS → K.RS) (s : K.RS) (i : Nat) : allR g (i + 1) s = allR g i (thingR g s) := by
  induction i with
  | zero => rfl
  | succ i ih =>
    show thingR g (allR g (i + 1) s) = thingR g (allR g i (thingR g s))
    rw [ih]

theorem valsOf_succ {α : Type} (g : K.RS → K.RS) (val : K.RS → α) (n : Nat) (s : K.RS) : valsOf g val (n + 1) s = val s :: valsOf g val n (thingR g s) := by
  unfold valsOf
  rw [List.range_succ_eq_map, List.map_cons, List.map_map]
  congr 1
  apply List.map_congr_left
  intro i _
  show val (allR g (i + 1) s) = _
  rw [allR_shift]

theorem allW_cons (f : K.WS → K.WS) (fs : List (K.WS → K.WS)) (s : K.WS) : allW (f :: fs) s = allW fs (thingW f s) := rfl

theorem wr_all {α : Type} {g : K.RS → K.RS} {val : K.RS → α} {f : α → K.WS → K.WS} (h : WR g val f) (xs : List α) : ∀ (s0 : K.WS), s0.fault = 0 → s0.laid.length ≤ s0.most → s0.most ≤ 16777216 → (allW (xs.map f) s0).fault = 0 →
    ∃ bs : List Nat, xs.length ≤ bs.length ∧ s0.laid.length + bs.length ≤ s0.most ∧ allW (xs.map f) s0 = { s0 with laid := s0.laid ++ bs } ∧ ∀ (s : K.RS) (tail : List Nat), s.fault = 0 → rest s = bs ++ tail → allR g xs.length s = s.go bs.length ∧ valsOf g val xs.length s = xs := by
  induction xs with
  | nil =>
    intro s0 hz hl ht _
    refine ⟨[], Nat.le_refl _, by simpa using hl, by simp [allW], fun s tail hs hr => ⟨?_, rfl⟩⟩
    show s = s.go 0
    rfl
  | cons x xs ih =>
    intro s0 hz hl ht hf
    rw [List.map_cons, allW_cons] at hf ⊢
    have hth : (thingW (f x) s0).fault = 0 := by
      rcases Nat.eq_zero_or_pos (thingW (f x) s0).fault with h' | h'
      · exact h'
      · rw [allW_fault _ _ (by omega)] at hf; exact hf
    have hun : thingW (f x) s0 = if (f x s0).laid.length = s0.laid.length then (f x s0).fail 22 else f x s0 := by unfold thingW; rw [if_pos hz]
    have hfx : (f x s0).fault = 0 := by
      rw [hun] at hth
      split at hth
      · rcases Nat.eq_zero_or_pos (f x s0).fault with h' | h'
        · exact h'
        · unfold K.WS.fail at hth; rw [if_neg (by omega)] at hth; exact hth
      · exact hth
    obtain ⟨bs, hb1, hb2, hb3, hb4⟩ := h x s0 hz hl ht hfx
    have hne : ¬ (f x s0).laid.length = s0.laid.length := by rw [hb3]; show ¬ (s0.laid ++ bs).length = _; rw [List.length_append]; omega
    rw [if_neg hne, hb3] at hun
    rw [hun] at hf ⊢
    obtain ⟨cs, hc1, hc2, hc3, hc4⟩ := ih { s0 with laid := s0.laid ++ bs } hz (by show (s0.laid ++ bs).length ≤ _; rw [List.length_append]; exact hb2) ht hf
    have hc2' : s0.laid.length + bs.length + cs.length ≤ s0.most := by have : (s0.laid ++ bs).length + cs.length ≤ s0.most := hc2; rw [List.length_append] at this; exact this
    refine ⟨bs ++ cs, by simp only [List.length_cons, List.length_append]; omega, by rw [List.length_append]; omega, ?_, fun s tail hs hr => ?_⟩
    · rw [hc3]; show K.WS.mk _ _ _ = _; simp only [List.append_assoc]
    · rw [List.append_assoc] at hr
      obtain ⟨hg, hv⟩ := hb4 s (cs ++ tail) hs hr
      have htr : thingR g s = s.go bs.length := by
        unfold thingR
        rw [if_pos hs, hg, if_neg (by show ¬ s.taken + bs.length = s.taken; omega)]
      have hr2 : rest (s.go bs.length) = cs ++ tail := by rw [rest_go, hr, List.drop_left]
      obtain ⟨ha, hvs⟩ := hc4 (s.go bs.length) tail hs hr2
      constructor
      · rw [List.length_cons, allR_shift, htr, ha, List.length_append]
        unfold K.RS.go
        simp only [Nat.add_assoc]
      · rw [List.length_cons, valsOf_succ, hv, htr, hvs]

def listVal {α : Type} (most : Int) (g : K.RS → K.RS) (val : K.RS → α) (s : K.RS) : List α := match cnt most (rest s) with
  | .ok (n, z) => valsOf g val n (s.go z)
  | .error _ => []

theorem wr_list {α : Type} {g : K.RS → K.RS} {val : K.RS → α} {f : α → K.WS → K.WS} (h : WR g val f) (most : Int) : WR (listR most g) (listVal most g val) (fun xs => listW most (xs.map f)) := by
  intro xs s0 hz hl ht hf
  dsimp only at hf ⊢
  unfold listW at hf ⊢
  rw [List.length_map] at hf ⊢
  by_cases hb : most < (xs.length : Int)
  · rw [if_pos hb] at hf; exact (fail_faultW (by decide) hf hz).elim
  · rw [if_neg hb] at hf ⊢
    have hlz : (s0.lay (K.num xs.length)).fault = 0 := by
      rcases Nat.eq_zero_or_pos (s0.lay (K.num xs.length)).fault with h' | h'
      · exact h'
      · rw [allW_fault _ _ (by omega)] at hf; exact hf
    have hfit := lay_ok hz hlz
    rw [lay_fits hfit] at hf ⊢
    obtain ⟨cs, hc1, hc2, hc3, hc4⟩ := wr_all h xs { s0 with laid := s0.laid ++ K.num xs.length } hz (by show (s0.laid ++ _).length ≤ _; rw [List.length_append]; exact hfit) ht hf
    have hc2' : s0.laid.length + (K.num xs.length).length + cs.length ≤ s0.most := by have : (s0.laid ++ K.num xs.length).length + cs.length ≤ s0.most := hc2; rw [List.length_append] at this; exact this
    refine ⟨K.num xs.length ++ cs, by have := K.num_pos xs.length; rw [List.length_append]; omega, by rw [List.length_append]; omega, ?_, fun s tail hs hr => ?_⟩
    · rw [hc3]; show K.WS.mk _ _ _ = _; simp only [List.append_assoc]
    · rw [List.append_assoc] at hr
      have hp : K.pk (rest s) = .ok (xs.length, (K.num xs.length).length) := by rw [hr]; exact K.pk_num (by omega) _
      have hc : cnt most (rest s) = .ok (xs.length, (K.num xs.length).length) := by
        unfold cnt
        rw [hp]
        show (if most < (xs.length : Int) then _ else if (rest s).length < _ then _ else _) = _
        rw [if_neg hb, if_neg (by rw [hr]; simp only [List.length_append]; omega)]
      have hr2 : rest (s.go (K.num xs.length).length) = cs ++ tail := by rw [rest_go, hr, List.drop_left]
      obtain ⟨ha, hvs⟩ := hc4 (s.go (K.num xs.length).length) tail hs hr2
      constructor
      · unfold listR
        rw [hc]
        show allR g xs.length (s.go (K.num xs.length).length) = _
        rw [ha, List.length_append]
        unfold K.RS.go
        simp only [Nat.add_assoc]
      · unfold listVal
        rw [hc]
        exact hvs

/-- no value's bytes begin another one's -/
theorem wr_alone {α : Type} {g : K.RS → K.RS} {val : K.RS → α} {f : α → K.WS → K.WS} (h : WR g val f) (x y : α) (A B : List Nat) (hx : f x ⟨[], 16777216, 0⟩ = ⟨A, 16777216, 0⟩) (hy : f y ⟨[], 16777216, 0⟩ = ⟨B, 16777216, 0⟩) (hp : ∃ t, B = A ++ t) : x = y := by
  obtain ⟨bs, _, _, e1, r1⟩ := h x ⟨[], 16777216, 0⟩ rfl (Nat.zero_le _) (Nat.le_refl _) (by rw [hx])
  obtain ⟨cs, _, _, e2, r2⟩ := h y ⟨[], 16777216, 0⟩ rfl (Nat.zero_le _) (Nat.le_refl _) (by rw [hy])
  rw [hx] at e1
  rw [hy] at e2
  injection e1 with e1
  injection e2 with e2
  rw [List.nil_append] at e1 e2
  subst e1; subst e2
  obtain ⟨t, ht⟩ := hp
  have h1 := (r1 ⟨B, 0, 0⟩ t rfl (by show B = _; exact ht)).2
  have h2 := (r2 ⟨B, 0, 0⟩ [] rfl (by show B = _; simp)).2
  rw [← h1, h2]

end Go.Proofs.YtoelgcagahmndaaGreat

/- Words and flags: written, then read. -/
namespace Go.Proofs.YtoelgcagahmndaaGreat
open Go.RowKit

theorem word_getD (X k : Nat) (hk : k < 8) : (word X).getD k 0 = wbyte X k := by
  unfold word
  rw [List.getD_eq_getElem?_getD, List.getElem?_map, List.getElem?_range hk]
  rfl

theorem wval_word (X : Nat) : ∀ k, k ≤ 8 → wval (word X) k = X % 256 ^ k
  | 0, _ => by simp [wval, Nat.mod_one]
  | k + 1, hk => by
    simp only [wval]
    rw [wval_word X k (by omega), word_getD X k (by omega), Nat.mod_pow_succ, Nat.mul_comm]
    rfl

/-- a word as a value below 2^64 -/
abbrev W64 : Type := Fin 18446744073709551616

theorem wr_word : WR wordR (fun s => (Fin.ofNat 18446744073709551616 (wordV s) : W64)) (fun x => wordW x.val) := by
  intro x s0 hz hl ht hf
  dsimp only at hf ⊢
  unfold wordW at hf ⊢
  have hfit := lay_ok hz hf
  refine ⟨word x.val, by rw [word_len]; decide, hfit, lay_fits hfit, fun s tail hs hr => ?_⟩
  have hlen : (rest s).length = 8 + tail.length := by rw [hr, List.length_append, word_len]
  constructor
  · unfold wordR
    rw [if_pos (by omega)]
    rfl
  · have ht8 : (rest s).take 8 = word x.val := by rw [hr, List.take_append_of_le_length (by rw [word_len]; exact Nat.le_refl _), List.take_of_length_le (by rw [word_len]; exact Nat.le_refl _)]
    have hv : wordV s = x.val := by
      unfold wordV
      rw [ht8, wval_word _ 8 (Nat.le_refl _)]
      exact Nat.mod_eq_of_lt (Nat.lt_of_lt_of_eq x.isLt (by decide))
    rw [hv]
    exact Fin.ext (Nat.mod_eq_of_lt x.isLt)

theorem wr_flag : WR flagR flagV (fun b => flagW b) := by
  intro b s0 hz hl ht hf
  dsimp only at hf ⊢
  unfold flagW at hf ⊢
  have hfit := lay_ok hz hf
  refine ⟨[if b then 1 else 0], Nat.le_refl _, hfit, lay_fits hfit, fun s tail hs hr => ?_⟩
  have hr' : rest s = (if b then 1 else 0) :: tail := hr
  constructor
  · unfold flagR
    rw [hr']
    exact if_neg (by cases b <;> simp)
  · unfold flagV
    rw [hr']
    cases b <;> rfl

/-- what was written at one stroke is read at one stroke -/
theorem wr_back {α : Type} {g : K.RS → K.RS} {val : K.RS → α} {f : α → K.WS → K.WS} (h : WR g val f) (x : α) (m : Nat) (hm : m ≤ 16777216) (s2 : K.WS) (h2 : f x ⟨[], m, 0⟩ = s2) (hz : s2.fault = 0) :
    endR (takeR g (newR (told s2))) = 0 ∧ val (newR (told s2)) = x := by
  obtain ⟨bs, h1, hfit, heq, hread⟩ := h x ⟨[], m, 0⟩ rfl (Nat.zero_le _) hm (by rw [h2]; exact hz)
  have hs2 : s2 = ⟨bs, m, 0⟩ := by rw [← h2, heq]; rfl
  have hfit' : bs.length ≤ m := by simpa using hfit
  have ht : told s2 = bs := by rw [hs2]; rfl
  have hn : newR bs = ⟨bs, 0, 0⟩ := by unfold newR; rw [if_pos (by omega)]
  obtain ⟨hg, hv⟩ := hread (newR bs) [] (by rw [hn]) (by rw [hn, List.append_nil]; rfl)
  rw [ht]
  refine ⟨?_, hv⟩
  unfold takeR
  rw [if_pos (by rw [hn]), hg, hn]
  unfold endR
  rw [if_neg (by rintro ⟨_, h⟩; simp [K.RS.go] at h)]
  rfl

end Go.Proofs.YtoelgcagahmndaaGreat

/- begins, ints, texts, lists of the laws. -/
namespace Go.Proofs.YtoelgcagahmndaaGreat
open Go.RowKit

theorem bytes_eq {a b : ByteArray} (h : a.toList = b.toList) : a = b := by
  rw [ByteArray.toList_eq, ByteArray.toList_eq] at h
  exact ByteArray.ext (Array.toList_inj.1 h)

/-- a slice of slices of numbers -/
def RowsAt (D : Nat → Prop) (w : World) (a : Option Addr) (n : Nat) (zs : List (List Int)) : Prop :=
  ∃ vs, Els D w a n vs ∧ zs.length = n ∧ ∀ (i : Nat) v z, vs[i]? = some v → zs[i]? = some z → ∃ a' c', v = .slice a' z.length c' ∧ Els D w a' z.length (z.map (Value.int .i64))

theorem drewN_add (w : World) (a b : Nat) : (w.drewN a).drewN b = w.drewN (a + b) := by unfold World.drewN; simp only [Nat.add_assoc]

theorem Els.drewN {D : Nat → Prop} {w : World} {a : Option Addr} {n : Nat} {vs : List Value} (h : Els D w a n vs) (m : Nat) : Els D (w.drewN m) a n vs := h

end Go.Proofs.YtoelgcagahmndaaGreat

/- Values that were read, put again. -/
namespace Go.Proofs.YtoelgcagahmndaaGreat
open Go.RowKit

theorem numV_le {s : K.RS} (h : Byt s) : numV s ≤ 9223372036854775807 := by
  unfold numV
  split
  · rename_i n z hp
    exact (K.pk_ok h.rest hp).2.2.2.2
  · decide

theorem vp_num (w : World) (l m : Nat) (least most : Int) (hl : w.cell? ⟨l, 0, none⟩ = some (.int .i64 least)) (hm : w.cell? ⟨m, 0, none⟩ = some (.int .i64 most)) (s : K.RS) (hb : Byt s) (v : Value) (hv : v = .int .i64 (numV s : Nat)) :
    PutsG (fun k => k < w.heap.size) w 103 #[.pointer (some ⟨l, 0, none⟩), .pointer (some ⟨m, 0, none⟩)] v (numW least most (numV s : Nat)) := by
  subst hv
  exact putsNum _ w l m least most _ (by have := numV_le hb; omega) hl hm (numForm_lt hl) (numForm_lt hm)

theorem rowV_byt {s : K.RS} (h : Byt s) (most : Int) : ∀ d ∈ rowV most s, d < 256 := by
  intro d hd
  unfold rowV at hd
  split at hd
  · exact h.rest d (List.mem_of_mem_take (List.mem_of_mem_drop hd))
  · cases hd

theorem rowV_len (most : Int) (s : K.RS) : (rowV most s).length ≤ s.data.length := by
  unfold rowV
  split
  · rw [List.length_drop, List.length_take, rest_len]; omega
  · exact Nat.zero_le _

theorem vp_text (w : World) (m : Nat) (most : Int) (hm : w.cell? ⟨m, 0, none⟩ = some (.int .i64 most)) (s : K.RS) (hb : Byt s) (ht : s.data.length ≤ 16777216) (v : Value) (hv : v = .string (str (rowV most s))) :
    PutsG (fun k => k < w.heap.size) w 113 #[.pointer (some ⟨m, 0, none⟩)] v (textW most (rowV most s)) := by
  subst hv
  have h := putsText (fun k => k < w.heap.size) w m most (str (rowV most s)) (by rw [← sb_len, sb_str _ (rowV_byt hb most)]; have := rowV_len most s; omega) hm (numForm_lt hm)
  rw [sb_str _ (rowV_byt hb most)] at h
  exact h

/-- the things of a list that was taken -/
theorem listV_els {T : TypeId} {most : Int} {g : K.RS → K.RS} {V : K.RS → World → Value → Prop} {s : K.RS} {w : World} {v : Value} {n z : Nat} (h : listV T most g V s w v) (hc : cnt most (rest s) = .ok (n, z)) (hn : n ≤ 16777216) :
    ∃ a c vs, v = .slice a n c ∧ Els (fun k => k < w.heap.size) w a n vs ∧ ∀ (i : Nat) x, vs[i]? = some x → V (allR g i (s.go z)) w x := by
  unfold listV at h
  rw [hc] at h
  obtain ⟨vs, hl, ho, hv⟩ := h
  rcases ho.2 with ⟨rfl, h0⟩ | ⟨g', cap, cur, rfl, _, hg, _⟩
  · exact ⟨none, 0, vs, by rw [h0], ⟨hl.symm, by omega, .inl h0⟩, hv⟩
  · refine ⟨_, cap, vs, rfl, ⟨hl.symm, by omega, .inr ⟨g', 0, rfl, (Array.getElem?_eq_some_iff.1 hg).1, fun i x hx => ?_⟩⟩, hv⟩
    have := ho.cells (g := g') rfl i x hx
    rw [Addr.add_lit] at this
    exact this

/-- good states: bytes, none too many -/
def Good (s : K.RS) : Prop := Byt s ∧ s.data.length ≤ 16777216 ∧ s.taken ≤ s.data.length ∧ s.fault = 0

theorem good_all {g : K.RS → K.RS} {W : K.RS → K.WS → K.WS} (h : RW g W) {s : K.RS} (hs : Good s) {n : Nat} (hz : (allR g n s).fault = 0) (i : Nat) (hi : i ≤ n) : Good (allR g i s) := by
  obtain ⟨z, _, hz2, hz3, _⟩ := rw_all h s hs.1 hs.2.2.1 i (allR_ok hz i hi)
  rw [hz3]
  rw [rest_len] at hz2
  exact ⟨hs.1, hs.2.1, by show s.taken + z ≤ s.data.length; have := hs.2.2.1; omega, hs.2.2.2⟩

theorem keepCell {w w' : World} {p : Addr} {v : Value} (h : w.cell? p = some v) (hb : Below w.heap.size w w') : w'.cell? p = some v :=
  (Keep.ofBelow (S := fun _ => False) hb (Nat.le_refl _)).cell h fun h => h
theorem keepBlk {w w' : World} {b : Nat} {o : Obj} (h : w.heap[b]? = some o) (hb : Below w.heap.size w w') : w'.heap[b]? = some o :=
  (Keep.ofBelow (S := fun _ => False) hb (Nat.le_refl _)).blk h fun h => h

theorem room_max : room 16777216 = 16777216 := by decide

theorem good_new {g : K.RS → K.RS} {l : List Nat} (hl : ∀ d ∈ l, d < 256) (he : endR (takeR g (newR l)) = 0) : Good (newR l) ∧ (g (newR l)).fault = 0 := by
  have hf := endR_ok he
  by_cases hn : l.length ≤ 16777216
  · have hnew : newR l = ⟨l, 0, 0⟩ := by unfold newR; rw [if_pos hn]
    have ht : takeR g (newR l) = g (newR l) := by unfold takeR; rw [hnew, if_pos rfl]
    rw [ht] at hf
    exact ⟨by rw [hnew]; exact ⟨hl, hn, Nat.zero_le _, rfl⟩, hf⟩
  · have hnew : newR l = ⟨[], 0, 20⟩ := by unfold newR; rw [if_neg hn]
    have : (takeR g (newR l)).fault = 20 := by unfold takeR; rw [hnew, if_neg (by decide)]
    omega

theorem els_nil (D : Nat → Prop) (w : World) : Els D w none 0 [] := ⟨rfl, by decide, .inl rfl⟩

theorem vp_listS (w : World) (m o : Nat) (most : Int) (hmost : most ≤ 16777216) (fn1 fn2 : FuncId) (cap1 cap2 : Array Value) (g : K.RS → K.RS) (V : K.RS → World → Value → Prop) (W : K.RS → K.WS → K.WS) (hRW : RW g W) (T : TypeId)
    (hc : ∀ args w, (callFunc fn1 args).run Tryz.prog w = .ok (.enter fn1 args) w) (hm : w.cell? ⟨m, 0, none⟩ = some (.int .i64 most)) (ho : w.heap[o]? = some (.cells #[.func (.func fn1) #[] cap1, .func (.func fn2) #[] cap2] 98 (0, 0)))
    (hVP : ∀ s, Good s → (g s).fault = 0 → ∀ v, V s w v → PutsG (fun k => k < w.heap.size) w fn1 cap1 v (W s))
    (s : K.RS) (hs : Good s) (hz : (listR most g s).fault = 0) (v : Value) (hv : listV T most g V s w v) :
    PutsG (fun k => k < w.heap.size) w 108 #[.pointer (some ⟨m, 0, none⟩), .pointer (some ⟨o, 0, none⟩)] v (listPut most g W s) := by
  unfold listR at hz
  cases hp : cnt most (rest s) with
  | error e => rw [hp] at hz; exact (fail_fault (cnt_err hp) hz hs.2.2.2).elim
  | ok r =>
    obtain ⟨n, z⟩ := r
    rw [hp] at hz
    obtain ⟨hpk, hnm, hzn⟩ := cnt_ok hp
    have hlen := rest_len s
    obtain ⟨a, c, vs, rfl, hels, hvs⟩ := listV_els hv hp (by omega)
    have hgo : Good (s.go z) := ⟨hs.1, hs.2.1, by show s.taken + z ≤ s.data.length; have := hs.2.2.1; omega, hs.2.2.2⟩
    have hput : listPut most g W s = listW most (putsOf g W n (s.go z)) := by unfold listPut; rw [hp]
    rw [hput]
    refine putsListS _ w m o most fn1 fn2 cap1 cap2 a n c vs (putsOf g W n (s.go z)) hels (putsOf_len _ _ _ _) (fun i x f hx hf => ?_) hc (numForm_lt hm) (blk_lt ho) hm ho
    rw [putsOf_at _ _ _ _ _ _ hf]
    have hin : i < n := by have := (List.getElem?_eq_some_iff.1 hx).1; have := hels.1; omega
    refine hVP _ (good_all hRW hgo hz i (by omega)) ?_ x (hvs i x hx)
    have h1 := allR_ok hz (i + 1) (by omega)
    have h2 := allR_ok hz i (by omega)
    have h3 : thingR g (allR g i (s.go z)) = if (g (allR g i (s.go z))).taken = (allR g i (s.go z)).taken then (g (allR g i (s.go z))).fail 22 else g (allR g i (s.go z)) := by unfold thingR; rw [if_pos h2]
    have h4 : (thingR g (allR g i (s.go z))).fault = 0 := h1
    rw [h3] at h4
    split at h4
    · rcases Nat.eq_zero_or_pos (g (allR g i (s.go z))).fault with h' | h'
      · exact h'
      · unfold K.RS.fail at h4
        rw [if_neg (by omega)] at h4
        exact h4
    · exact h4

theorem vp_listI (w : World) (m o : Nat) (most : Int) (hmost : most ≤ 16777216) (fn1 fn2 : FuncId) (cap1 cap2 : Array Value) (g : K.RS → K.RS) (V : K.RS → World → Value → Prop) (W : K.RS → K.WS → K.WS) (hRW : RW g W) (T : TypeId)
    (hc : ∀ args w, (callFunc fn1 args).run Tryz.prog w = .ok (.enter fn1 args) w) (hm : w.cell? ⟨m, 0, none⟩ = some (.int .i64 most)) (ho : w.heap[o]? = some (.cells #[.func (.func fn1) #[] cap1, .func (.func fn2) #[] cap2] 85 (0, 0)))
    (hVP : ∀ s, Good s → (g s).fault = 0 → ∀ v, V s w v → PutsG (fun k => k < w.heap.size) w fn1 cap1 v (W s))
    (s : K.RS) (hs : Good s) (hz : (listR most g s).fault = 0) (v : Value) (hv : listV T most g V s w v) :
    PutsG (fun k => k < w.heap.size) w 142 #[.pointer (some ⟨m, 0, none⟩), .pointer (some ⟨o, 0, none⟩)] v (listPut most g W s) := by
  unfold listR at hz
  cases hp : cnt most (rest s) with
  | error e => rw [hp] at hz; exact (fail_fault (cnt_err hp) hz hs.2.2.2).elim
  | ok r =>
    obtain ⟨n, z⟩ := r
    rw [hp] at hz
    obtain ⟨hpk, hnm, hzn⟩ := cnt_ok hp
    have hlen := rest_len s
    obtain ⟨a, c, vs, rfl, hels, hvs⟩ := listV_els hv hp (by omega)
    have hgo : Good (s.go z) := ⟨hs.1, hs.2.1, by show s.taken + z ≤ s.data.length; have := hs.2.2.1; omega, hs.2.2.2⟩
    have hput : listPut most g W s = listW most (putsOf g W n (s.go z)) := by unfold listPut; rw [hp]
    rw [hput]
    refine putsListI _ w m o most fn1 fn2 cap1 cap2 a n c vs (putsOf g W n (s.go z)) hels (putsOf_len _ _ _ _) (fun i x f hx hf => ?_) hc (numForm_lt hm) (blk_lt ho) hm ho
    rw [putsOf_at _ _ _ _ _ _ hf]
    have hin : i < n := by have := (List.getElem?_eq_some_iff.1 hx).1; have := hels.1; omega
    refine hVP _ (good_all hRW hgo hz i (by omega)) ?_ x (hvs i x hx)
    have h1 := allR_ok hz (i + 1) (by omega)
    have h2 := allR_ok hz i (by omega)
    have h3 : thingR g (allR g i (s.go z)) = if (g (allR g i (s.go z))).taken = (allR g i (s.go z)).taken then (g (allR g i (s.go z))).fail 22 else g (allR g i (s.go z)) := by unfold thingR; rw [if_pos h2]
    have h4 : (thingR g (allR g i (s.go z))).fault = 0 := h1
    rw [h3] at h4
    split at h4
    · rcases Nat.eq_zero_or_pos (g (allR g i (s.go z))).fault with h' | h'
      · exact h'
      · unfold K.RS.fail at h4
        rw [if_neg (by omega)] at h4
        exact h4
    · exact h4

theorem vp_listW (w : World) (m o : Nat) (most : Int) (hmost : most ≤ 16777216) (fn1 fn2 : FuncId) (cap1 cap2 : Array Value) (g : K.RS → K.RS) (V : K.RS → World → Value → Prop) (W : K.RS → K.WS → K.WS) (hRW : RW g W) (T : TypeId)
    (hc : ∀ args w, (callFunc fn1 args).run Tryz.prog w = .ok (.enter fn1 args) w) (hm : w.cell? ⟨m, 0, none⟩ = some (.int .i64 most)) (ho : w.heap[o]? = some (.cells #[.func (.func fn1) #[] cap1, .func (.func fn2) #[] cap2] 124 (0, 0)))
    (hVP : ∀ s, Good s → (g s).fault = 0 → ∀ v, V s w v → PutsG (fun k => k < w.heap.size) w fn1 cap1 v (W s))
    (s : K.RS) (hs : Good s) (hz : (listR most g s).fault = 0) (v : Value) (hv : listV T most g V s w v) :
    PutsG (fun k => k < w.heap.size) w 155 #[.pointer (some ⟨m, 0, none⟩), .pointer (some ⟨o, 0, none⟩)] v (listPut most g W s) := by
  unfold listR at hz
  cases hp : cnt most (rest s) with
  | error e => rw [hp] at hz; exact (fail_fault (cnt_err hp) hz hs.2.2.2).elim
  | ok r =>
    obtain ⟨n, z⟩ := r
    rw [hp] at hz
    obtain ⟨hpk, hnm, hzn⟩ := cnt_ok hp
    have hlen := rest_len s
    obtain ⟨a, c, vs, rfl, hels, hvs⟩ := listV_els hv hp (by omega)
    have hgo : Good (s.go z) := ⟨hs.1, hs.2.1, by show s.taken + z ≤ s.data.length; have := hs.2.2.1; omega, hs.2.2.2⟩
    have hput : listPut most g W s = listW most (putsOf g W n (s.go z)) := by unfold listPut; rw [hp]
    rw [hput]
    refine putsListW _ w m o most fn1 fn2 cap1 cap2 a n c vs (putsOf g W n (s.go z)) hels (putsOf_len _ _ _ _) (fun i x f hx hf => ?_) hc (numForm_lt hm) (blk_lt ho) hm ho
    rw [putsOf_at _ _ _ _ _ _ hf]
    have hin : i < n := by have := (List.getElem?_eq_some_iff.1 hx).1; have := hels.1; omega
    refine hVP _ (good_all hRW hgo hz i (by omega)) ?_ x (hvs i x hx)
    have h1 := allR_ok hz (i + 1) (by omega)
    have h2 := allR_ok hz i (by omega)
    have h3 : thingR g (allR g i (s.go z)) = if (g (allR g i (s.go z))).taken = (allR g i (s.go z)).taken then (g (allR g i (s.go z))).fail 22 else g (allR g i (s.go z)) := by unfold thingR; rw [if_pos h2]
    have h4 : (thingR g (allR g i (s.go z))).fault = 0 := h1
    rw [h3] at h4
    split at h4
    · rcases Nat.eq_zero_or_pos (g (allR g i (s.go z))).fault with h' | h'
      · exact h'
      · unfold K.RS.fail at h4
        rw [if_neg (by omega)] at h4
        exact h4
    · exact h4

theorem vp_listLi (w : World) (m o : Nat) (most : Int) (hmost : most ≤ 16777216) (fn1 fn2 : FuncId) (cap1 cap2 : Array Value) (g : K.RS → K.RS) (V : K.RS → World → Value → Prop) (W : K.RS → K.WS → K.WS) (hRW : RW g W) (T : TypeId)
    (hc : ∀ args w, (callFunc fn1 args).run Tryz.prog w = .ok (.enter fn1 args) w) (hm : w.cell? ⟨m, 0, none⟩ = some (.int .i64 most)) (ho : w.heap[o]? = some (.cells #[.func (.func fn1) #[] cap1, .func (.func fn2) #[] cap2] 139 (0, 0)))
    (hVP : ∀ s, Good s → (g s).fault = 0 → ∀ v, V s w v → PutsG (fun k => k < w.heap.size) w fn1 cap1 v (W s))
    (s : K.RS) (hs : Good s) (hz : (listR most g s).fault = 0) (v : Value) (hv : listV T most g V s w v) :
    PutsG (fun k => k < w.heap.size) w 149 #[.pointer (some ⟨m, 0, none⟩), .pointer (some ⟨o, 0, none⟩)] v (listPut most g W s) := by
  unfold listR at hz
  cases hp : cnt most (rest s) with
  | error e => rw [hp] at hz; exact (fail_fault (cnt_err hp) hz hs.2.2.2).elim
  | ok r =>
    obtain ⟨n, z⟩ := r
    rw [hp] at hz
    obtain ⟨hpk, hnm, hzn⟩ := cnt_ok hp
    have hlen := rest_len s
    obtain ⟨a, c, vs, rfl, hels, hvs⟩ := listV_els hv hp (by omega)
    have hgo : Good (s.go z) := ⟨hs.1, hs.2.1, by show s.taken + z ≤ s.data.length; have := hs.2.2.1; omega, hs.2.2.2⟩
    have hput : listPut most g W s = listW most (putsOf g W n (s.go z)) := by unfold listPut; rw [hp]
    rw [hput]
    refine putsListLi _ w m o most fn1 fn2 cap1 cap2 a n c vs (putsOf g W n (s.go z)) hels (putsOf_len _ _ _ _) (fun i x f hx hf => ?_) hc (numForm_lt hm) (blk_lt ho) hm ho
    rw [putsOf_at _ _ _ _ _ _ hf]
    have hin : i < n := by have := (List.getElem?_eq_some_iff.1 hx).1; have := hels.1; omega
    refine hVP _ (good_all hRW hgo hz i (by omega)) ?_ x (hvs i x hx)
    have h1 := allR_ok hz (i + 1) (by omega)
    have h2 := allR_ok hz i (by omega)
    have h3 : thingR g (allR g i (s.go z)) = if (g (allR g i (s.go z))).taken = (allR g i (s.go z)).taken then (g (allR g i (s.go z))).fail 22 else g (allR g i (s.go z)) := by unfold thingR; rw [if_pos h2]
    have h4 : (thingR g (allR g i (s.go z))).fault = 0 := h1
    rw [h3] at h4
    split at h4
    · rcases Nat.eq_zero_or_pos (g (allR g i (s.go z))).fault with h' | h'
      · exact h'
      · unfold K.RS.fail at h4
        rw [if_neg (by omega)] at h4
        exact h4
    · exact h4

end Go.Proofs.YtoelgcagahmndaaGreat

/- What a list that was read holds, as values. -/
namespace Go.Proofs.YtoelgcagahmndaaGreat
open Go.RowKit

theorem valsOf_at {α : Type} (g : K.RS → K.RS) (val : K.RS → α) (n : Nat) (s : K.RS) (i : Nat) (hi : i < n) : (valsOf g val n s)[i]? = some (val (allR g i s)) := by
  unfold valsOf
  rw [List.getElem?_map, List.getElem?_range hi]
  rfl

theorem valsOf_len {α : Type} (g : K.RS → K.RS) (val : K.RS → α) (n : Nat) (s : K.RS) : (valsOf g val n s).length = n := by
  unfold valsOf
  simp

theorem listV_vals {α : Type} {enc : α → Value} {val : K.RS → α} {T : TypeId} {most : Int} {g : K.RS → K.RS} {s : K.RS} {w : World} {v : Value} (h : listV T most g (fun s _ v => v = enc (val s)) s w v) (hl : (rest s).length ≤ 16777216) :
    ∃ a n c, v = .slice a n c ∧ Els (fun k => k < w.heap.size) w a n ((listVal most g val s).map enc) ∧ n = (listVal most g val s).length := by
  cases hp : cnt most (rest s) with
  | error e => unfold listV at h; rw [hp] at h; cases h
  | ok r =>
    obtain ⟨n, z⟩ := r
    obtain ⟨hpk, hnm, hzn⟩ := cnt_ok hp
    obtain ⟨a, c, vs, rfl, hels, hvs⟩ := listV_els h hp (by omega)
    have hval : listVal most g val s = valsOf g val n (s.go z) := by unfold listVal; rw [hp]
    have hvv : vs = (valsOf g val n (s.go z)).map enc := by
      apply List.ext_getElem?
      intro i
      have hn := hels.1
      rcases Nat.lt_or_ge i n with hi | hi
      · rw [List.getElem?_map, valsOf_at g val n _ i hi, List.getElem?_eq_getElem (show i < vs.length by omega)]
        have := hvs i _ (List.getElem?_eq_getElem (show i < vs.length by omega))
        rw [this]
        rfl
      · rw [List.getElem?_eq_none (by omega), List.getElem?_eq_none (by rw [List.length_map, valsOf_len]; exact hi)]
    rw [hval, ← hvv]
    exact ⟨a, n, c, rfl, hels, (valsOf_len _ _ _ _).symm⟩

theorem listV_rows {val : K.RS → Int} {Ti To : TypeId} {most m0 : Int} {g0 g1 : K.RS → K.RS} {s : K.RS} {w : World} {v : Value} (h : listV To most g1 (listV Ti m0 g0 (fun s _ v => v = Value.int .i64 (val s))) s w v) (hl : (rest s).length ≤ 16777216)
    (hG : ∀ i n z, cnt most (rest s) = .ok (n, z) → i < n → (rest (allR g1 i (s.go z))).length ≤ 16777216) :
    ∃ a n c, v = .slice a n c ∧ RowsAt (fun k => k < w.heap.size) w a n (listVal most g1 (listVal m0 g0 val) s) := by
  cases hp : cnt most (rest s) with
  | error e => unfold listV at h; rw [hp] at h; cases h
  | ok r =>
    obtain ⟨n, z⟩ := r
    obtain ⟨hpk, hnm, hzn⟩ := cnt_ok hp
    obtain ⟨a, c, vs, rfl, hels, hvs⟩ := listV_els h hp (by omega)
    have hval : listVal most g1 (listVal m0 g0 val) s = valsOf g1 (listVal m0 g0 val) n (s.go z) := by unfold listVal; rw [hp]
    rw [hval]
    refine ⟨a, n, c, rfl, vs, hels, valsOf_len _ _ _ _, fun i x y hx hy => ?_⟩
    have hin : i < n := by have := (List.getElem?_eq_some_iff.1 hx).1; have := hels.1; omega
    rw [valsOf_at _ _ _ _ _ hin] at hy
    injection hy with hy
    subst hy
    obtain ⟨a', n', c', rfl, he, hn'⟩ := listV_vals (hvs i x hx) (hG i n z hp hin)
    exact ⟨a', c', by rw [← hn'], by rw [← hn']; exact he⟩

end Go.Proofs.YtoelgcagahmndaaGreat
