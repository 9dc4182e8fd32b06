import Derived.Test.YtbjcckfhfbjchaaGreatPListR
import Derived.Test.YtbjcckfhfbjchaaGreatPBytes
/- known: the document's examples. -/
namespace Go.Proofs.YtbjcckfhfbjchaaGreat
open Go.RowKit

theorem num_300 : K.num 300 = [172, 2] := by rw [K.num_big (by decide), K.num_small (by decide)]
theorem room_9 : room 9 = 9 := by decide
theorem room_99 : room 99 = 99 := by decide

theorem kn1 : numW 0 1000 300 ⟨[], room 9, 0⟩ = ⟨[172, 2], 9, 0⟩ := by
  unfold numW
  rw [if_neg (by decide), room_9, show Int.toNat 300 = 300 from rfl, num_300]
  rfl
theorem kn2 : takeR (numR 0 1000) (newR [172, 2]) = ⟨[172, 2], 2, 0⟩ := by rfl
theorem kn2v : numV (newR [172, 2]) = 300 := by rfl
theorem kn5 : takeR (numR 0 1000) (newR [128, 0]) = ⟨[128, 0], 0, 22⟩ := by rfl
theorem num_1 : K.num 1 = [1] := K.num_small (by decide)
theorem num_2 : K.num 2 = [2] := K.num_small (by decide)
theorem kn3 : listW 3 [textW 2 [97, 98]] ⟨[], room 99, 0⟩ = ⟨[1, 2, 97, 98], 99, 0⟩ := by
  unfold listW textW
  rw [room_99, if_neg (by decide), show ([fun s : K.WS => if (2 : Int) < (([97, 98] : List Nat).length : Int) then s.fail 20 else s.lay (K.num ([97, 98] : List Nat).length ++ [97, 98])] : List (K.WS → K.WS)).length = 1 from rfl, num_1, show ([97, 98] : List Nat).length = 2 from rfl, num_2]
  rfl
theorem kn4 : takeR (listR 3 (rowR 2)) (newR [1, 2, 97, 98]) = ⟨[1, 2, 97, 98], 4, 0⟩ := by rfl

/-- bytes in a new block -/
theorem rd_new (w : World) (l : List Nat) (hl : l.length < 281474976710656) (hd : ∀ d ∈ l, d < 256) : Rd (w.alloc (.cells (B8 l).toArray 5)) (some ⟨w.heap.size, 0, none⟩) l.length l := by
  refine ⟨rfl, hl, hd, .inr ⟨_, _, rfl, fun i hi => ?_⟩⟩
  rw [Nat.zero_add, cell_of_row _ _ _ _ _ _ (heap_alloc_new w _), List.getElem?_toArray, B8_at l i hi]

/-- one string in a new block -/
theorem els_one (w : World) (v : Value) (T : TypeId) : Els (fun k => k < (w.alloc (.cells #[v] T)).heap.size) (w.alloc (.cells #[v] T)) (some ⟨w.heap.size, 0, none⟩) 1 [v] := by
  refine ⟨rfl, by decide, .inr ⟨_, _, rfl, by simp, fun i x hx => ?_⟩⟩
  match i, hx with
  | 0, hx =>
    simp only [List.getElem?_cons_zero, Option.some.injEq] at hx
    subst hx
    rw [cell_of_row _ _ _ _ _ _ (heap_alloc_new w _)]
    rfl
  | j + 1, hx => simp at hx

theorem blk_lt {w : World} {o : Nat} {b : Obj} (h : w.heap[o]? = some b) : o < w.heap.size := (Array.getElem?_eq_some_iff.1 h).1
theorem min3 : (min 3 16777216 : Int) = 3 := by decide
theorem sb_ab : sb ⟨#[97, 98]⟩ = [97, 98] := by decide

theorem numForm_lt {w : World} {l : Nat} {v : Value} (h : w.cell? ⟨l, 0, none⟩ = some v) : l < w.heap.size := block_lt_of_cell h

end Go.Proofs.YtbjcckfhfbjchaaGreat

/- What is read is written as it was: the mathematics of P2.9. -/
namespace Go.Proofs.YtbjcckfhfbjchaaGreat
open Go.RowKit

/-- bytes below 256 -/
def Byt (s : K.RS) : Prop := ∀ d ∈ s.data, d < 256

/-- what was taken at s, put by W s, is the bytes that were taken -/
def RW (g : K.RS → K.RS) (W : K.RS → K.WS → K.WS) : Prop :=
  ∀ s : K.RS, Byt s → s.fault = 0 → s.taken ≤ s.data.length → (g s).fault = 0 →
    ∃ z, 1 ≤ z ∧ z ≤ (rest s).length ∧ g s = s.go z ∧ ∀ s0 : K.WS, s0.fault = 0 → s0.laid.length + z ≤ s0.most → W s s0 = { s0 with laid := s0.laid ++ (rest s).take z }

theorem Byt.rest {s : K.RS} (h : Byt s) : ∀ d ∈ rest s, d < 256 := fun d hd => h d (List.mem_of_mem_drop hd)

theorem lay_fits {s0 : K.WS} {bs : List Nat} (h : s0.laid.length + bs.length ≤ s0.most) : s0.lay bs = { s0 with laid := s0.laid ++ bs } := by unfold K.WS.lay; rw [if_pos h]

theorem fail_fault {s : K.RS} {e : Nat} (he : e ≠ 0) (h : (s.fail e).fault = 0) (hz : s.fault = 0) : False := fail_ne hz he h

theorem rw_num (least most : Int) : RW (numR least most) (fun s => numW least most (numV s : Nat)) := by
  intro s hb hz ht hg
  have hnv : ∀ n z, K.pk (rest s) = .ok (n, z) → numV s = n := fun n z hp => by unfold numV; rw [hp]
  unfold numR at hg ⊢
  cases hp : K.pk (rest s) with
  | error e => rw [hp] at hg; exact (fail_fault (by have := pk_err hp; omega) hg hz).elim
  | ok r =>
    obtain ⟨n, z⟩ := r
    rw [hp] at hg
    obtain ⟨k1, k2, k3, k4, k5⟩ := K.pk_ok hb.rest hp
    by_cases hbd : (n : Int) < least ∨ most < (n : Int)
    · simp only [if_pos hbd] at hg
      exact (fail_fault (by decide) hg hz).elim
    · simp only [if_neg hbd]
      refine ⟨z, k1, k3, rfl, fun s0 h0 hr => ?_⟩
      show numW least most ((numV s : Nat) : Int) s0 = _
      rw [hnv n z hp]
      unfold numW
      rw [if_neg (by omega), Int.toNat_natCast, k4]
      exact lay_fits (by rw [List.length_take]; omega)

theorem rw_text (most : Int) : RW (rowR most) (fun s => textW most (rowV most s)) := by
  intro s hb hz ht hg
  have hrv : ∀ n z, cnt most (rest s) = .ok (n, z) → rowV most s = ((rest s).take (z + n)).drop z := fun n z hp => by unfold rowV; rw [hp]
  unfold rowR at hg ⊢
  cases hp : cnt most (rest s) with
  | error e => rw [hp] at hg; exact (fail_fault (cnt_err hp) hg hz).elim
  | ok r =>
    obtain ⟨n, z⟩ := r
    obtain ⟨hpk, hm, hzn⟩ := cnt_ok hp
    obtain ⟨k1, k2, k3, k4, k5⟩ := K.pk_ok hb.rest hpk
    refine ⟨z + n, by omega, hzn, rfl, fun s0 h0 hr => ?_⟩
    show textW most (rowV most s) s0 = _
    rw [hrv n z hp]
    have hlen : (((rest s).take (z + n)).drop z).length = n := by rw [List.length_drop, List.length_take]; omega
    unfold textW
    rw [hlen, if_neg (by omega), k4]
    have happ : (rest s).take z ++ ((rest s).take (z + n)).drop z = (rest s).take (z + n) := by
      rw [show (rest s).take z = ((rest s).take (z + n)).take z by rw [List.take_take, Nat.min_eq_left (by omega)]]
      exact List.take_append_drop _ _
    rw [happ]
    exact lay_fits (by rw [List.length_take]; omega)

theorem go_data (s : K.RS) (z : Nat) : (s.go z).data = s.data := rfl
theorem rest_go (s : K.RS) (z : Nat) : rest (s.go z) = (rest s).drop z := by
  unfold rest K.RS.go
  rw [List.drop_drop]

/-- n things, as functions that put them -/
def putsOf (g : K.RS → K.RS) (W : K.RS → K.WS → K.WS) (n : Nat) (s : K.RS) : List (K.WS → K.WS) := (List.range n).map fun i => W (allR g i s)

theorem putsOf_len (g : K.RS → K.RS) (W : K.RS → K.WS → K.WS) (n : Nat) (s : K.RS) : (putsOf g W n s).length = n := by simp [putsOf]
theorem putsOf_at (g : K.RS → K.RS) (W : K.RS → K.WS → K.WS) (n : Nat) (s : K.RS) (i : Nat) (f : K.WS → K.WS) (h : (putsOf g W n s)[i]? = some f) : f = W (allR g i s) := by
  unfold putsOf at h
  rw [List.getElem?_map] at h
  rcases Nat.lt_or_ge i n with hi | hi
  · rw [List.getElem?_range hi] at h
    simp at h
    exact h.symm
  · rw [List.getElem?_eq_none (by simpa using hi)] at h
    cases h

theorem allR_ok {g : K.RS → K.RS} {s : K.RS} {n : Nat} (h : (allR g n s).fault = 0) : ∀ k, k ≤ n → (allR g k s).fault = 0 := by
  intro k hk
  rcases Nat.eq_zero_or_pos (allR g k s).fault with h' | h'
  · exact h'
  · have := allR_stick g s k (by omega) n hk
    rw [this] at h
    omega

/-- all things that were taken, put one behind the other -/
theorem rw_all {g : K.RS → K.RS} {W : K.RS → K.WS → K.WS} (h : RW g W) (s : K.RS) (hb : Byt s) (ht : s.taken ≤ s.data.length) (n : Nat) (hz : (allR g n s).fault = 0) :
    ∃ z, n ≤ z ∧ z ≤ (rest s).length ∧ allR g n s = s.go z ∧ ∀ s0 : K.WS, s0.fault = 0 → s0.laid.length + z ≤ s0.most → allW (putsOf g W n s) s0 = { s0 with laid := s0.laid ++ (rest s).take z } := by
  induction n with
  | zero =>
    refine ⟨0, Nat.le_refl _, Nat.zero_le _, rfl, fun s0 h0 hr => ?_⟩
    show s0 = _
    simp
  | succ n ih =>
    have hn := allR_ok hz n (by omega)
    obtain ⟨z, hz1, hz2, hz3, hz4⟩ := ih hn
    have hsn : Byt (allR g n s) := by rw [hz3]; exact hb
    have hst : (allR g n s).taken ≤ (allR g n s).data.length := by rw [hz3]; show s.taken + z ≤ s.data.length; rw [rest_len] at hz2; omega
    have hth : allR g (n + 1) s = if (g (allR g n s)).taken = (allR g n s).taken then (g (allR g n s)).fail 22 else g (allR g n s) := by
      show thingR g (allR g n s) = _
      unfold thingR
      rw [if_pos hn]
    rw [hth] at hz
    have hgz : (g (allR g n s)).fault = 0 := by
      split at hz
      · rcases Nat.eq_zero_or_pos (g (allR g n s)).fault with h' | h'
        · exact h'
        · unfold K.RS.fail at hz
          rw [if_neg (by omega)] at hz
          exact hz
      · exact hz
    obtain ⟨y, hy1, hy2, hy3, hy4⟩ := h (allR g n s) hsn hn hst hgz
    have hne : ¬ (g (allR g n s)).taken = (allR g n s).taken := by rw [hy3]; show ¬ _ + y = _; omega
    rw [if_neg hne, hy3] at hth
    have hrest : rest (allR g n s) = (rest s).drop z := by rw [hz3, rest_go]
    rw [hrest] at hy2 hy4
    rw [List.length_drop] at hy2
    refine ⟨z + y, by omega, by omega, ?_, fun s0 h0 hr => ?_⟩
    · rw [hth, hz3]
      unfold K.RS.go
      simp only [Nat.add_assoc]
    · have hput : putsOf g W (n + 1) s = putsOf g W n s ++ [W (allR g n s)] := by
        unfold putsOf
        rw [List.range_succ, List.map_append]
        rfl
      rw [hput, allW_append, hz4 s0 h0 (by omega)]
      show thingW (W (allR g n s)) _ = _
      unfold thingW
      rw [if_pos (show ({ s0 with laid := s0.laid ++ (rest s).take z } : K.WS).fault = 0 from h0), hy4 { s0 with laid := s0.laid ++ (rest s).take z } h0 (by show (s0.laid ++ (rest s).take z).length + y ≤ s0.most; rw [List.length_append, List.length_take]; omega)]
      rw [if_neg (by show ¬ ((s0.laid ++ (rest s).take z) ++ ((rest s).drop z).take y).length = (s0.laid ++ (rest s).take z).length; simp only [List.length_append, List.length_take, List.length_drop]; omega)]
      congr 1
      show s0.laid ++ (rest s).take z ++ ((rest s).drop z).take y = s0.laid ++ (rest s).take (z + y)
      rw [List.append_assoc]
      congr 1
      rw [List.take_add]

def listPut (most : Int) (g : K.RS → K.RS) (W : K.RS → K.WS → K.WS) (s : K.RS) : K.WS → K.WS := match cnt most (rest s) with
  | .ok (n, z) => listW most (putsOf g W n (s.go z))
  | .error _ => fun s0 => s0

theorem rw_list {g : K.RS → K.RS} {W : K.RS → K.WS → K.WS} (h : RW g W) (most : Int) : RW (listR most g) (listPut most g W) := by
  intro s hb hz ht hg
  unfold listR at hg ⊢
  unfold listPut
  cases hp : cnt most (rest s) with
  | error e => rw [hp] at hg; exact (fail_fault (cnt_err hp) hg hz).elim
  | ok r =>
    obtain ⟨n, z⟩ := r
    rw [hp] at hg
    obtain ⟨hpk, hm, hzn⟩ := cnt_ok hp
    obtain ⟨k1, k2, k3, k4, k5⟩ := K.pk_ok hb.rest hpk
    have hlen := rest_len s
    obtain ⟨y, hy1, hy2, hy3, hy4⟩ := rw_all h (s.go z) hb (by show s.taken + z ≤ s.data.length; omega) n hg
    rw [rest_go, List.length_drop] at hy2
    rw [rest_go] at hy4
    refine ⟨z + y, by omega, by omega, ?_, fun s0 h0 hr => ?_⟩
    · show allR g n (s.go z) = _
      rw [hy3]
      unfold K.RS.go
      simp only [Nat.add_assoc]
    · show listW most (putsOf g W n (s.go z)) s0 = _
      unfold listW
      rw [putsOf_len, if_neg (by omega), k4, lay_fits (by rw [List.length_take]; omega), hy4 { s0 with laid := s0.laid ++ (rest s).take z } h0 (by show (s0.laid ++ (rest s).take z).length + y ≤ s0.most; rw [List.length_append, List.length_take]; omega)]
      congr 1
      show s0.laid ++ (rest s).take z ++ ((rest s).drop z).take y = s0.laid ++ (rest s).take (z + y)
      rw [List.append_assoc]
      congr 1
      rw [List.take_add]

/-- what Read takes whole, Bytes lays -/
theorem rw_whole {g : K.RS → K.RS} {W : K.RS → K.WS → K.WS} (h : RW g W) (l : List Nat) (hl : ∀ d ∈ l, d < 256) (he : endR (takeR g (newR l)) = 0) : W (newR l) ⟨[], 16777216, 0⟩ = ⟨l, 16777216, 0⟩ := by
  have hf := endR_ok he
  by_cases hn : l.length ≤ 16777216
  · have hnew : newR l = ⟨l, 0, 0⟩ := by unfold newR; rw [if_pos hn]
    have ht : takeR g (newR l) = g (newR l) := by unfold takeR; rw [hnew, if_pos rfl]
    rw [ht] at hf he
    obtain ⟨z, h1, h2, h3, h4⟩ := h (newR l) (by rw [hnew]; exact hl) (by rw [hnew]) (by rw [hnew]; exact Nat.zero_le _) hf
    have hr : rest (newR l) = l := by rw [hnew]; rfl
    rw [hr] at h2 h4
    have hz : z = l.length := by
      rw [h3, hnew] at he
      unfold endR K.RS.go at he
      split at he
      · cases he
      · rename_i hc
        simp only [Nat.zero_add, true_and, Nat.not_lt] at hc
        omega
    rw [h4 ⟨[], 16777216, 0⟩ rfl (by simp; omega), hz, List.take_length]
    rfl
  · have hnew : newR l = ⟨[], 0, 20⟩ := by unfold newR; rw [if_neg hn]
    have : (takeR g (newR l)).fault = 20 := by unfold takeR; rw [hnew, if_neg (by decide)]
    omega

end Go.Proofs.YtbjcckfhfbjchaaGreat

/- What is written is read as it was: the mathematics of P2.8 and P2.10. -/
namespace Go.Proofs.YtbjcckfhfbjchaaGreat
open Go.RowKit

/-- what f x lays, g takes, and it is x -/
def WR {α : Type} (g : K.RS → K.RS) (val : K.RS → α) (f : α → K.WS → K.WS) : Prop :=
  ∀ (x : α) (s0 : K.WS), s0.fault = 0 → s0.laid.length ≤ s0.most → s0.most ≤ 16777216 → (f x s0).fault = 0 →
    ∃ bs : List Nat, 1 ≤ bs.length ∧ s0.laid.length + bs.length ≤ s0.most ∧ f x s0 = { s0 with laid := s0.laid ++ bs } ∧ ∀ (s : K.RS) (tail : List Nat), s.fault = 0 → rest s = bs ++ tail → g s = s.go bs.length ∧ val s = x

theorem fail_faultW {s : K.WS} {e : Nat} (he : e ≠ 0) (h : (s.fail e).fault = 0) (hz : s.fault = 0) : False := by
  unfold K.WS.fail at h
  rw [if_pos hz] at h
  exact he h

theorem lay_ok {s0 : K.WS} {bs : List Nat} (hz : s0.fault = 0) (h : (s0.lay bs).fault = 0) : s0.laid.length + bs.length ≤ s0.most := by
  unfold K.WS.lay at h
  split at h
  · assumption
  · exact (fail_faultW (by decide) h hz).elim

theorem wr_num (least most : Int) (hm : most ≤ 9223372036854775807) : WR (numR least most) (fun s => ((numV s : Nat) : Int)) (fun x => numW least most x) := by
  intro x s0 hz hl ht hf
  dsimp only at hf ⊢
  unfold numW at hf ⊢
  by_cases hb : x < least ∨ x < 0 ∨ most < x
  · rw [if_pos hb] at hf; exact (fail_faultW (by decide) hf hz).elim
  · rw [if_neg hb] at hf ⊢
    obtain ⟨n, rfl⟩ := Int.eq_ofNat_of_zero_le (show 0 ≤ x by omega)
    rw [Int.toNat_natCast] at hf ⊢
    have hfit := lay_ok hz hf
    refine ⟨K.num n, K.num_pos n, hfit, lay_fits hfit, fun s tail hs hr => ?_⟩
    have hp : K.pk (rest s) = .ok (n, (K.num n).length) := by rw [hr]; exact K.pk_num (by omega) tail
    constructor
    · unfold numR
      rw [hp]
      exact if_neg (by omega)
    · show ((numV s : Nat) : Int) = _
      unfold numV
      rw [hp]

theorem wr_text (most : Int) : WR (rowR most) (fun s => rowV most s) (fun bs => textW most bs) := by
  intro bs s0 hz hl ht hf
  dsimp only at hf ⊢
  unfold textW at hf ⊢
  by_cases hb : most < (bs.length : Int)
  · rw [if_pos hb] at hf; exact (fail_faultW (by decide) hf hz).elim
  · rw [if_neg hb] at hf ⊢
    have hfit := lay_ok hz hf
    refine ⟨K.num bs.length ++ bs, by have := K.num_pos bs.length; rw [List.length_append]; omega, hfit, lay_fits hfit, fun s tail hs hr => ?_⟩
    rw [List.length_append] at hfit
    have hp : K.pk (rest s) = .ok (bs.length, (K.num bs.length).length) := by rw [hr, List.append_assoc]; exact K.pk_num (by omega) _
    have hc : cnt most (rest s) = .ok (bs.length, (K.num bs.length).length) := by
      unfold cnt
      rw [hp]
      show (if most < (bs.length : Int) then _ else if (rest s).length < _ then _ else _) = _
      rw [if_neg hb, if_neg (by rw [hr]; simp only [List.length_append]; omega)]
    constructor
    · unfold rowR
      rw [hc, List.length_append]
    · show rowV most s = bs
      unfold rowV
      rw [hc, hr]
      show ((K.num bs.length ++ bs ++ tail).take ((K.num bs.length).length + bs.length)).drop (K.num bs.length).length = bs
      rw [← List.length_append, List.take_left, List.drop_left]

/-- the values of n things -/
def valsOf {α : Type} (g : K.RS → K.RS) (val : K.RS → α) (n : Nat) (s : K.RS) : List α := (List.range n).map fun i => val (allR g i s)

theorem allR_shift (g : K.RS → K.RS) (s : K.RS) (i : Nat) : allR g (i + 1) s = allR g i (thingR g s) := by
  induction i with
  | zero => rfl
  | succ i ih =>
    show thingR g (allR g (i + 1) s) = thingR g (allR g i (thingR g s))
    rw [ih]

theorem valsOf_succ {α : Type} (g : K.RS → K.RS) (val : K.RS → α) (n : Nat) (s : K.RS) : valsOf g val (n + 1) s = val s :: valsOf g val n (thingR g s) := by
  unfold valsOf
  rw [List.range_succ_eq_map, List.map_cons, List.map_map]
  congr 1
  apply List.map_congr_left
  intro i _
  show val (allR g (i + 1) s) = _
  rw [allR_shift]

theorem allW_cons (f : K.WS → K.WS) (fs : List (K.WS → K.WS)) (s : K.WS) : allW (f :: fs) s = allW fs (thingW f s) := rfl

theorem wr_all {α : Type} {g : K.RS → K.RS} {val : K.RS → α} {f : α → K.WS → K.WS} (h : WR g val f) (xs : List α) : ∀ (s0 : K.WS), s0.fault = 0 → s0.laid.length ≤ s0.most → s0.most ≤ 16777216 → (allW (xs.map f) s0).fault = 0 →
    ∃ bs : List Nat, xs.length ≤ bs.length ∧ s0.laid.length + bs.length ≤ s0.most ∧ allW (xs.map f) s0 = { s0 with laid := s0.laid ++ bs } ∧ ∀ (s : K.RS) (tail : List Nat), s.fault = 0 → rest s = bs ++ tail → allR g xs.length s = s.go bs.length ∧ valsOf g val xs.length s = xs := by
  induction xs with
  | nil =>
    intro s0 hz hl ht _
    refine ⟨[], Nat.le_refl _, by simpa using hl, by simp [allW], fun s tail hs hr => ⟨?_, rfl⟩⟩
    show s = s.go 0
    rfl
  | cons x xs ih =>
    intro s0 hz hl ht hf
    rw [List.map_cons, allW_cons] at hf ⊢
    have hth : (thingW (f x) s0).fault = 0 := by
      rcases Nat.eq_zero_or_pos (thingW (f x) s0).fault with h' | h'
      · exact h'
      · rw [allW_fault _ _ (by omega)] at hf; exact hf
    have hun : thingW (f x) s0 = if (f x s0).laid.length = s0.laid.length then (f x s0).fail 22 else f x s0 := by unfold thingW; rw [if_pos hz]
    have hfx : (f x s0).fault = 0 := by
      rw [hun] at hth
      split at hth
      · rcases Nat.eq_zero_or_pos (f x s0).fault with h' | h'
        · exact h'
        · unfold K.WS.fail at hth; rw [if_neg (by omega)] at hth; exact hth
      · exact hth
    obtain ⟨bs, hb1, hb2, hb3, hb4⟩ := h x s0 hz hl ht hfx
    have hne : ¬ (f x s0).laid.length = s0.laid.length := by rw [hb3]; show ¬ (s0.laid ++ bs).length = _; rw [List.length_append]; omega
    rw [if_neg hne, hb3] at hun
    rw [hun] at hf ⊢
    obtain ⟨cs, hc1, hc2, hc3, hc4⟩ := ih { s0 with laid := s0.laid ++ bs } hz (by show (s0.laid ++ bs).length ≤ _; rw [List.length_append]; exact hb2) ht hf
    have hc2' : s0.laid.length + bs.length + cs.length ≤ s0.most := by have : (s0.laid ++ bs).length + cs.length ≤ s0.most := hc2; rw [List.length_append] at this; exact this
    refine ⟨bs ++ cs, by simp only [List.length_cons, List.length_append]; omega, by rw [List.length_append]; omega, ?_, fun s tail hs hr => ?_⟩
    · rw [hc3]; show K.WS.mk _ _ _ = _; simp only [List.append_assoc]
    · rw [List.append_assoc] at hr
      obtain ⟨hg, hv⟩ := hb4 s (cs ++ tail) hs hr
      have htr : thingR g s = s.go bs.length := by
        unfold thingR
        rw [if_pos hs, hg, if_neg (by show ¬ s.taken + bs.length = s.taken; omega)]
      have hr2 : rest (s.go bs.length) = cs ++ tail := by rw [rest_go, hr, List.drop_left]
      obtain ⟨ha, hvs⟩ := hc4 (s.go bs.length) tail hs hr2
      constructor
      · rw [List.length_cons, allR_shift, htr, ha, List.length_append]
        unfold K.RS.go
        simp only [Nat.add_assoc]
      · rw [List.length_cons, valsOf_succ, hv, htr, hvs]

def listVal {α : Type} (most : Int) (g : K.RS → K.RS) (val : K.RS → α) (s : K.RS) : List α := match cnt most (rest s) with
  | .ok (n, z) => valsOf g val n (s.go z)
  | .error _ => []

theorem wr_list {α : Type} {g : K.RS → K.RS} {val : K.RS → α} {f : α → K.WS → K.WS} (h : WR g val f) (most : Int) : WR (listR most g) (listVal most g val) (fun xs => listW most (xs.map f)) := by
  intro xs s0 hz hl ht hf
  dsimp only at hf ⊢
  unfold listW at hf ⊢
  rw [List.length_map] at hf ⊢
  by_cases hb : most < (xs.length : Int)
  · rw [if_pos hb] at hf; exact (fail_faultW (by decide) hf hz).elim
  · rw [if_neg hb] at hf ⊢
    have hlz : (s0.lay (K.num xs.length)).fault = 0 := by
      rcases Nat.eq_zero_or_pos (s0.lay (K.num xs.length)).fault with h' | h'
      · exact h'
      · rw [allW_fault _ _ (by omega)] at hf; exact hf
    have hfit := lay_ok hz hlz
    rw [lay_fits hfit] at hf ⊢
    obtain ⟨cs, hc1, hc2, hc3, hc4⟩ := wr_all h xs { s0 with laid := s0.laid ++ K.num xs.length } hz (by show (s0.laid ++ _).length ≤ _; rw [List.length_append]; exact hfit) ht hf
    have hc2' : s0.laid.length + (K.num xs.length).length + cs.length ≤ s0.most := by have : (s0.laid ++ K.num xs.length).length + cs.length ≤ s0.most := hc2; rw [List.length_append] at this; exact this
    refine ⟨K.num xs.length ++ cs, by have := K.num_pos xs.length; rw [List.length_append]; omega, by rw [List.length_append]; omega, ?_, fun s tail hs hr => ?_⟩
    · rw [hc3]; show K.WS.mk _ _ _ = _; simp only [List.append_assoc]
    · rw [List.append_assoc] at hr
      have hp : K.pk (rest s) = .ok (xs.length, (K.num xs.length).length) := by rw [hr]; exact K.pk_num (by omega) _
      have hc : cnt most (rest s) = .ok (xs.length, (K.num xs.length).length) := by
        unfold cnt
        rw [hp]
        show (if most < (xs.length : Int) then _ else if (rest s).length < _ then _ else _) = _
        rw [if_neg hb, if_neg (by rw [hr]; simp only [List.length_append]; omega)]
      have hr2 : rest (s.go (K.num xs.length).length) = cs ++ tail := by rw [rest_go, hr, List.drop_left]
      obtain ⟨ha, hvs⟩ := hc4 (s.go (K.num xs.length).length) tail hs hr2
      constructor
      · unfold listR
        rw [hc]
        show allR g xs.length (s.go (K.num xs.length).length) = _
        rw [ha, List.length_append]
        unfold K.RS.go
        simp only [Nat.add_assoc]
      · unfold listVal
        rw [hc]
        exact hvs

/-- no value's bytes begin another one's -/
theorem wr_alone {α : Type} {g : K.RS → K.RS} {val : K.RS → α} {f : α → K.WS → K.WS} (h : WR g val f) (x y : α) (A B : List Nat) (hx : f x ⟨[], 16777216, 0⟩ = ⟨A, 16777216, 0⟩) (hy : f y ⟨[], 16777216, 0⟩ = ⟨B, 16777216, 0⟩) (hp : ∃ t, B = A ++ t) : x = y := by
  obtain ⟨bs, _, _, e1, r1⟩ := h x ⟨[], 16777216, 0⟩ rfl (Nat.zero_le _) (Nat.le_refl _) (by rw [hx])
  obtain ⟨cs, _, _, e2, r2⟩ := h y ⟨[], 16777216, 0⟩ rfl (Nat.zero_le _) (Nat.le_refl _) (by rw [hy])
  rw [hx] at e1
  rw [hy] at e2
  injection e1 with e1
  injection e2 with e2
  rw [List.nil_append] at e1 e2
  subst e1; subst e2
  obtain ⟨t, ht⟩ := hp
  have h1 := (r1 ⟨B, 0, 0⟩ t rfl (by show B = _; exact ht)).2
  have h2 := (r2 ⟨B, 0, 0⟩ [] rfl (by show B = _; simp)).2
  rw [← h1, h2]

end Go.Proofs.YtbjcckfhfbjchaaGreat

/- Codec: puts and takes in a row; those that look. -/
namespace Go.Proofs.YtbjcckfhfbjchaaGreat
namespace Cd
/-- one put behind another one; one take behind another one -/
def seqW (f h : K.WS → K.WS) (s : K.WS) : K.WS := putW h (f s)
def seqR (g h : K.RS → K.RS) (s : K.RS) : K.RS := takeR h (g s)
theorem wr_seq {α β : Type} {g g2 : K.RS → K.RS} {v : K.RS → α} {v2 : K.RS → β} {f : α → K.WS → K.WS} {f2 : β → K.WS → K.WS} (h : WR g v f) (h2 : WR g2 v2 f2) :
    WR (seqR g g2) (fun s => (v s, v2 (g s))) (fun x => seqW (f x.1) (f2 x.2)) := by
  rintro ⟨x, y⟩ s0 hz hl ht hf
  have hf1 : (f x s0).fault = 0 := by
    by_cases h0 : (f x s0).fault = 0
    · exact h0
    · have hf : (putW (f2 y) (f x s0)).fault = 0 := hf
      unfold putW at hf
      rw [if_neg h0] at hf
      exact absurd hf h0
  obtain ⟨bs, b1, b2, b3, b4⟩ := h x s0 hz hl ht hf1
  have hf : (putW (f2 y) (f x s0)).fault = 0 := hf
  unfold putW at hf
  rw [if_pos hf1] at hf
  obtain ⟨bs2, c1, c2, c3, c4⟩ := h2 y (f x s0) hf1 (by rw [b3]; simp; omega) (by rw [b3]; exact ht) hf
  rw [b3] at c2 c3
  simp only [List.length_append] at c2
  refine ⟨bs ++ bs2, by simp; omega, by simp; omega, ?_, fun s tail hs hr => ?_⟩
  · show putW (f2 y) (f x s0) = _
    unfold putW
    rw [if_pos hf1, b3, c3]
    simp
  · rw [List.append_assoc] at hr
    obtain ⟨d1, d2⟩ := b4 s _ hs hr
    have hr2 : rest (s.go bs.length) = bs2 ++ tail := by rw [rest_go, hr]; simp
    obtain ⟨e1, e2⟩ := c4 (s.go bs.length) tail hs hr2
    refine ⟨?_, ?_⟩
    · show takeR g2 (g s) = _
      rw [d1]
      unfold takeR
      rw [if_pos (show (s.go bs.length).fault = 0 from hs), e1]
      simp [K.RS.go, Nat.add_assoc]
    · show (v s, v2 (g s)) = _
      rw [d1, d2, e2]
theorem rw_seq {g g2 : K.RS → K.RS} {W W2 : K.RS → K.WS → K.WS} (h : RW g W) (h2 : RW g2 W2) :
    RW (seqR g g2) (fun s => seqW (W s) (W2 (g s))) := by
  intro s hb hz ht hg
  have hg1 : (g s).fault = 0 := by
    by_cases h0 : (g s).fault = 0
    · exact h0
    · have hg : (takeR g2 (g s)).fault = 0 := hg
      unfold takeR at hg
      rw [if_neg h0] at hg
      exact absurd hg h0
  have hg : (takeR g2 (g s)).fault = 0 := hg
  unfold takeR at hg
  rw [if_pos hg1] at hg
  obtain ⟨z, z1, z2, z3, z4⟩ := h s hb hz ht hg1
  have hrl : (rest s).length = s.data.length - s.taken := by simp [rest]
  obtain ⟨y, y1, y2, y3, y4⟩ := h2 (g s) (by rw [z3]; exact hb) hg1 (by rw [z3]; show s.taken + z ≤ s.data.length; omega) hg
  rw [z3, rest_go] at y2 y4
  simp only [List.length_drop] at y2
  refine ⟨z + y, by omega, by omega, ?_, fun s0 h0 hr => ?_⟩
  · show takeR g2 (g s) = _
    unfold takeR
    rw [if_pos hg1, y3, z3]
    simp [K.RS.go, Nat.add_assoc]
  · show putW (W2 (g s)) (W s s0) = _
    have hw := z4 s0 h0 (by omega)
    unfold putW
    have hl : (s0.laid ++ List.take z (rest s)).length + y ≤ s0.most := by rw [List.length_append, List.length_take]; omega
    have hy := y4 { s0 with laid := s0.laid ++ List.take z (rest s) } h0 hl
    rw [hw, if_pos h0, z3]
    rw [hy, List.take_add, List.append_assoc]
theorem wr_map {α β : Type} {g : K.RS → K.RS} {v : K.RS → α} {f : α → K.WS → K.WS} (h : WR g v f) (of : β → α) (to : α → β) (hto : ∀ y, to (of y) = y) :
    WR g (fun s => to (v s)) (fun y => f (of y)) := by
  intro y s0 hz hl ht hf
  obtain ⟨bs, b1, b2, b3, b4⟩ := h (of y) s0 hz hl ht hf
  refine ⟨bs, b1, b2, b3, fun s tail hs hr => ?_⟩
  obtain ⟨d1, d2⟩ := b4 s tail hs hr
  exact ⟨d1, by show to (v s) = y; rw [d2, hto]⟩
/-- a put that looks first, a take that looks behind -/
def chkW {α : Type} (p : α → Bool) (f : α → K.WS → K.WS) (x : α) (s : K.WS) : K.WS := if p x then f x s else s.fail 22
def chkR {α : Type} (p : α → Bool) (g : K.RS → K.RS) (v : K.RS → α) (s : K.RS) : K.RS := if (g s).fault = 0 ∧ p (v s) = false then (g s).fail 22 else g s
theorem wr_chk {α : Type} {g : K.RS → K.RS} {v : K.RS → α} {f : α → K.WS → K.WS} (p : α → Bool) (h : WR g v f) : WR (chkR p g v) v (chkW p f) := by
  intro x s0 hz hl ht hf
  by_cases hp : p x = true
  · have e : chkW p f x s0 = f x s0 := by unfold chkW; rw [if_pos hp]
    rw [e] at hf ⊢
    obtain ⟨bs, b1, b2, b3, b4⟩ := h x s0 hz hl ht hf
    refine ⟨bs, b1, b2, b3, fun s tail hs hr => ?_⟩
    obtain ⟨d1, d2⟩ := b4 s tail hs hr
    refine ⟨?_, d2⟩
    unfold chkR
    rw [d2, hp, if_neg (by simp), d1]
  · have e : chkW p f x s0 = s0.fail 22 := by unfold chkW; rw [if_neg hp]
    rw [e] at hf
    unfold K.WS.fail at hf
    rw [if_pos hz] at hf
    cases hf
theorem chkR_ok {α : Type} {p : α → Bool} {g : K.RS → K.RS} {v : K.RS → α} {s : K.RS} (h : (chkR p g v s).fault = 0) : (g s).fault = 0 ∧ p (v s) = true ∧ chkR p g v s = g s := by
  unfold chkR at h ⊢
  by_cases hc : (g s).fault = 0 ∧ p (v s) = false
  · rw [if_pos hc] at h
    unfold K.RS.fail at h
    rw [if_pos hc.1] at h
    cases h
  · rw [if_neg hc] at h ⊢
    refine ⟨h, ?_, rfl⟩
    cases hq : p (v s) with
    | true => rfl
    | false => exact absurd ⟨h, hq⟩ hc
theorem rw_chk {α : Type} {g : K.RS → K.RS} {v : K.RS → α} {W : K.RS → K.WS → K.WS} (p : α → Bool) (h : RW g W) : RW (chkR p g v) W := by
  intro s hb hz ht hg
  obtain ⟨h1, _, h3⟩ := chkR_ok hg
  rw [h3]
  exact h s hb hz ht h1
end Cd
end Go.Proofs.YtbjcckfhfbjchaaGreat

/- Memory: what WBase has over PBase. -/
namespace Go.Proofs.YtbjcckfhfbjchaaGreat
open Go.RowKit
theorem cell_blk {w : World} {p : Nat} {cs : Array Value} {t : TypeId} (h : w.heap[p]? = some (.cells cs t (0, 0))) (j : Nat) {v : Value} (hv : cs[j]? = some v) : w.cell? ⟨p, j, none⟩ = some v := by
  rw [World.cell?, h]
  simpa using hv
theorem frozen_blk {w : World} {p : Nat} {cs : Array Value} {t : TypeId} (h : w.heap[p]? = some (.cells cs t (0, 0))) (j : Nat) : w.frozen? ⟨p, j, none⟩ = false := by
  simp [World.frozen?, h]
theorem set_blk {w : World} {p : Nat} {cs : Array Value} {t : TypeId} (h : w.heap[p]? = some (.cells cs t (0, 0))) (j : Nat) (v : Value) : (w.setCell ⟨p, j, none⟩ v).heap[p]? = some (.cells (cs.setIfInBounds j v) t (0, 0)) := by
  simp [World.setCell, Array.getElem?_modify, h]
theorem keep_cell (w : World) (p j : Nat) (v : Value) : Keep (fun k => k = p) w (w.setCell ⟨p, j, none⟩ v) := Keep.setCell (S := fun k => k = p) w (p := ⟨p, j, none⟩) rfl v

/-- a function of numbers, changed at one -/
def upd {α : Type} (f : Int → α) (k : Int) (v : α) : Int → α := fun j => if j = k then v else f j
theorem upd_same {α : Type} (f : Int → α) (k : Int) (v : α) : upd f k v k = v := by simp [upd]
theorem upd_other {α : Type} (f : Int → α) {k j : Int} (v : α) (h : j ≠ k) : upd f k v j = f j := by simp [upd, h]

end Go.Proofs.YtbjcckfhfbjchaaGreat
