import Derived.Test.YtbjcckfhfbjchaaGreatPListR
/- known: the document's examples. -/
namespace Go.Proofs.YtbjcckfhfbjchaaGreat
open Go.RowKit

theorem num_300 : K.num 300 = [172, 2] := by rw [K.num_big (by decide), K.num_small (by decide)]
theorem room_9 : room 9 = 9 := by decide
theorem room_99 : room 99 = 99 := by decide

theorem kn1 : numW 0 1000 300 ⟨[], room 9, 0⟩ = ⟨[172, 2], 9, 0⟩ := by
  unfold numW
  rw [if_neg (by decide), room_9, show Int.toNat 300 = 300 from rfl, num_300]
  rfl
theorem kn2 : takeR (numR 0 1000) (newR [172, 2]) = ⟨[172, 2], 2, 0⟩ := by rfl
theorem kn2v : numV (newR [172, 2]) = 300 := by rfl
theorem kn5 : takeR (numR 0 1000) (newR [128, 0]) = ⟨[128, 0], 0, 22⟩ := by rfl
theorem num_1 : K.num 1 = [1] := K.num_small (by decide)
theorem num_2 : K.num 2 = [2] := K.num_small (by decide)
theorem kn3 : listW 3 [textW 2 [97, 98]] ⟨[], room 99, 0⟩ = ⟨[1, 2, 97, 98], 99, 0⟩ := by
  unfold listW textW
  rw [room_99, if_neg (by decide), show ([fun s : K.WS => if (2 : Int) < (([97, 98] : List Nat).length : Int) then s.fail 20 else s.lay (K.num ([97, 98] : List Nat).length ++ [97, 98])] : List (K.WS → K.WS)).length = 1 from rfl, num_1, show ([97, 98] : List Nat).length = 2 from rfl, num_2]
  rfl
theorem kn4 : takeR (listR 3 (rowR 2)) (newR [1, 2, 97, 98]) = ⟨[1, 2, 97, 98], 4, 0⟩ := by rfl

/-- bytes in a new block -/
theorem rd_new (w : World) (l : List Nat) (hl : l.length < 281474976710656) (hd : ∀ d ∈ l, d < 256) : Rd (w.alloc (.cells (B8 l).toArray 5)) (some ⟨w.heap.size, 0, none⟩) l.length l := by
  refine ⟨rfl, hl, hd, .inr ⟨_, _, rfl, fun i hi => ?_⟩⟩
  rw [Nat.zero_add, cell_of_row _ _ _ _ _ _ (heap_alloc_new w _), List.getElem?_toArray, B8_at l i hi]

/-- one string in a new block -/
theorem els_one (w : World) (v : Value) (T : TypeId) : Els (fun k => k < (w.alloc (.cells #[v] T)).heap.size) (w.alloc (.cells #[v] T)) (some ⟨w.heap.size, 0, none⟩) 1 [v] := by
  refine ⟨rfl, by decide, .inr ⟨_, _, rfl, by simp, fun i x hx => ?_⟩⟩
  match i, hx with
  | 0, hx =>
    simp only [List.getElem?_cons_zero, Option.some.injEq] at hx
    subst hx
    rw [cell_of_row _ _ _ _ _ _ (heap_alloc_new w _)]
    rfl
  | j + 1, hx => simp at hx

theorem blk_lt {w : World} {o : Nat} {b : Obj} (h : w.heap[o]? = some b) : o < w.heap.size := (Array.getElem?_eq_some_iff.1 h).1
theorem min3 : (min 3 16777216 : Int) = 3 := by decide
theorem sb_ab : sb ⟨#[97, 98]⟩ = [97, 98] := by decide

theorem numForm_lt {w : World} {l : Nat} {v : Value} (h : w.cell? ⟨l, 0, none⟩ = some v) : l < w.heap.size := block_lt_of_cell h

end Go.Proofs.YtbjcckfhfbjchaaGreat

/- What is read is written as it was: the mathematics of P2.9. -/
namespace Go.Proofs.YtbjcckfhfbjchaaGreat
open Go.RowKit

/-- bytes below 256 -/
def Byt (s : K.RS) : Prop := ∀ d ∈ s.data, d < 256

/-- what was taken at s, put by W s, is the bytes that were taken -/
def RW (g : K.RS → K.RS) (W : K.RS → K.WS → K.WS) : Prop :=
  ∀ s : K.RS, Byt s → s.fault = 0 → s.taken ≤ s.data.length → (g s).fault = 0 →
    ∃ z, 1 ≤ z ∧ z ≤ (rest s).length ∧ g s = s.go z ∧ ∀ s0 : K.WS, s0.fault = 0 → s0.laid.length + z ≤ s0.most → W s s0 = { s0 with laid := s0.laid ++ (rest s).take z }

theorem Byt.rest {s : K.RS} (h : Byt s) : ∀ d ∈ rest s, d < 256 := fun d hd => h d (List.mem_of_mem_drop hd)

theorem lay_fits {s0 : K.WS} {bs : List Nat} (h : s0.laid.length + bs.length ≤ s0.most) : s0.lay bs = { s0 with laid := s0.laid ++ bs } := by unfold K.WS.lay; rw [if_pos h]

theorem fail_fault {s : K.RS} {e : Nat} (he : e ≠ 0) (h : (s.fail e).fault = 0) (hz : s.fault = 0) : False := fail_ne hz he h

theorem rw_num (least most : Int) : RW (numR least most) (fun s => numW least most (numV s : Nat)) := by
  intro s hb hz ht hg
  have hnv : ∀ n z, K.pk (rest s) = .ok (n, z) → numV s = n := fun n z hp => by unfold numV; rw [hp]
  unfold numR at hg ⊢
  cases hp : K.pk (rest s) with
  | error e => rw [hp] at hg; exact (fail_fault (by have := pk_err hp; omega) hg hz).elim
  | ok r =>
    obtain ⟨n, z⟩ := r
    rw [hp] at hg
    obtain ⟨k1, k2, k3, k4, k5⟩ := K.pk_ok hb.rest hp
    by_cases hbd : (n : Int) < least ∨ most < (n : Int)
    · simp only [if_pos hbd] at hg
      exact (fail_fault (by decide) hg hz).elim
    · simp only [if_neg hbd]
      refine ⟨z, k1, k3, rfl, fun s0 h0 hr => ?_⟩
      show numW least most ((numV s : Nat) : Int) s0 = _
      rw [hnv n z hp]
      unfold numW
      rw [if_neg (by omega), Int.toNat_natCast, k4]
      exact lay_fits (by rw [List.length_take]; omega)

theorem rw_text (most : Int) : RW (rowR most) (fun s => textW most (rowV most s)) := by
  intro s hb hz ht hg
  have hrv : ∀ n z, cnt most (rest s) = .ok (n, z) → rowV most s = ((rest s).take (z + n)).drop z := fun n z hp => by unfold rowV; rw [hp]
  unfold rowR at hg ⊢
  cases hp : cnt most (rest s) with
  | error e => rw [hp] at hg; exact (fail_fault (cnt_err hp) hg hz).elim
  | ok r =>
    obtain ⟨n, z⟩ := r
    obtain ⟨hpk, hm, hzn⟩ := cnt_ok hp
    obtain ⟨k1, k2, k3, k4, k5⟩ := K.pk_ok hb.rest hpk
    refine ⟨z + n, by omega, hzn, rfl, fun s0 h0 hr => ?_⟩
    show textW most (rowV most s) s0 = _
    rw [hrv n z hp]
    have hlen : (((rest s).take (z + n)).drop z).length = n := by rw [List.length_drop, List.length_take]; omega
    unfold textW
    rw [hlen, if_neg (by omega), k4]
    have happ : (rest s).take z ++ ((rest s).take (z + n)).drop z = (rest s).take (z + n) := by
      rw [show (rest s).take z = ((rest s).take (z + n)).take z by rw [List.take_take, Nat.min_eq_left (by omega)]]
      exact List.take_append_drop _ _
    rw [happ]
    exact lay_fits (by rw [List.length_take]; omega)

theorem go_data (s : K.RS) (z : Nat) : (s.go z).data = s.data := rfl
theorem rest_go (s : K.RS) (z : Nat) : rest (s.go z) = (rest s).drop z := by
  unfold rest K.RS.go
  rw [List.drop_drop]

/-- n things, as functions that put them -/
def putsOf (g : K.RS → K.RS) (W : K.RS → K.WS → K.WS) (n : Nat) (s : K.RS) : List (K.WS → K.WS) := (List.range n).map fun i => W (allR g i s)

theorem putsOf_len (g : K.RS → K.RS) (W : K.RS → K.WS → K.WS) (n : Nat) (s : K.RS) : (putsOf g W n s).length = n := by simp [putsOf]
theorem putsOf_at (g : K.RS → K.RS) (W : K.RS → K.WS → K.WS) (n : Nat) (s : K.RS) (i : Nat) (f : K.WS → K.WS) (h : (putsOf g W n s)[i]? = some f) : f = W (allR g i s) := by
  unfold putsOf at h
  rw [List.getElem?_map] at h
  rcases Nat.lt_or_ge i n with hi | hi
  · rw [List.getElem?_range hi] at h
    simp at h
    exact h.symm
  · rw [List.getElem?_eq_none (by simpa using hi)] at h
    cases h

theorem allR_ok {g : K.RS → K.RS} {s : K.RS} {n : Nat} (h : (allR g n s).fault = 0) : ∀ k, k ≤ n → (allR g k s).fault = 0 := by
  intro k hk
  rcases Nat.eq_zero_or_pos (allR g k s).fault with h' | h'
  · exact h'
  · have := allR_stick g s k (by omega) n hk
    rw [this] at h
    omega

/-- all things that were taken, put one behind the other -/
theorem rw_all {g : K.RS → K.RS} {W : K.RS → K.WS → K.WS} (h : RW g W) (s : K.RS) (hb : Byt s) (ht : s.taken ≤ s.data.length) (n : Nat) (hz : (allR g n s).fault = 0) :
    ∃ z, n ≤ z ∧ z ≤ (rest s).length ∧ allR g n s = s.go z ∧ ∀ s0 : K.WS, s0.fault = 0 → s0.laid.length + z ≤ s0.most → allW (putsOf g W n s) s0 = { s0 with laid := s0.laid ++ (rest s).take z } := by
  induction n with
  | zero =>
    refine ⟨0, Nat.le_refl _, Nat.zero_le _, rfl, fun s0 h0 hr => ?_⟩
    show s0 = _
    simp
  | succ n ih =>
    have hn := allR_ok hz n (by omega)
    obtain ⟨z, hz1, hz2, hz3, hz4⟩ := ih hn
    have hsn : Byt (allR g n s) := by rw [hz3]; exact hb
    have hst : (allR g n s).taken ≤ (allR g n s).data.length := by rw [hz3]; show s.taken + z ≤ s.data.length; rw [rest_len] at hz2; omega
    have hth : allR g (n + 1) s = if (g (allR g n s)).taken = (allR g n s).taken then (g (allR g n s)).fail 22 else g (allR g n s) := by
      show thingR g (allR g n s) = _
      unfold thingR
      rw [if_pos hn]
    rw [hth] at hz
    have hgz : (g (allR g n s)).fault = 0 := by
      split at hz
      · rcases Nat.eq_zero_or_pos (g (allR g n s)).fault with h' | h'
        · exact h'
        · unfold K.RS.fail at hz
          rw [if_neg (by omega)] at hz
          exact hz
      · exact hz
    obtain ⟨y, hy1, hy2, hy3, hy4⟩ := h (allR g n s) hsn hn hst hgz
    have hne : ¬ (g (allR g n s)).taken = (allR g n s).taken := by rw [hy3]; show ¬ _ + y = _; omega
    rw [if_neg hne, hy3] at hth
    have hrest : rest (allR g n s) = (rest s).drop z := by rw [hz3, rest_go]
    rw [hrest] at hy2 hy4
    rw [List.length_drop] at hy2
    refine ⟨z + y, by omega, by omega, ?_, fun s0 h0 hr => ?_⟩
    · rw [hth, hz3]
      unfold K.RS.go
      simp only [Nat.add_assoc]
    · have hput : putsOf g W (n + 1) s = putsOf g W n s ++ [W (allR g n s)] := by
        unfold putsOf
        rw [List.range_succ, List.map_append]
        rfl
      rw [hput, allW_append, hz4 s0 h0 (by omega)]
      show thingW (W (allR g n s)) _ = _
      unfold thingW
      rw [if_pos (show ({ s0 with laid := s0.laid ++ (rest s).take z } : K.WS).fault = 0 from h0), hy4 { s0 with laid := s0.laid ++ (rest s).take z } h0 (by show (s0.laid ++ (rest s).take z).length + y ≤ s0.most; rw [List.length_append, List.length_take]; omega)]
      rw [if_neg (by show ¬ ((s0.laid ++ (rest s).take z) ++ ((rest s).drop z).take y).length = (s0.laid ++ (rest s).take z).length; simp only [List.length_append, List.length_take, List.length_drop]; omega)]
      congr 1
      show s0.laid ++ (rest s).take z ++ ((rest s).drop z).take y = s0.laid ++ (rest s).take (z + y)
      rw [List.append_assoc]
      congr 1
      rw [List.take_add]

def listPut (most : Int) (g : K.RS → K.RS) (W : K.RS → K.WS → K.WS) (s : K.RS) : K.WS → K.WS := match cnt most (rest s) with
  | .ok (n, z) => listW most (putsOf g W n (s.go z))
  | .error _ => fun s0 => s0

theorem rw_list {g : K.RS → K.RS} {W : K.RS → K.WS → K.WS} (h : RW g W) (most : Int) : RW (listR most g) (listPut most g W) := by
  intro s hb hz ht hg
  unfold listR at hg ⊢
  unfold listPut
  cases hp : cnt most (rest s) with
  | error e => rw [hp] at hg; exact (fail_fault (cnt_err hp) hg hz).elim
  | ok r =>
    obtain ⟨n, z⟩ := r
    rw [hp] at hg
    obtain ⟨hpk, hm, hzn⟩ := cnt_ok hp
    obtain ⟨k1, k2, k3, k4, k5⟩ := K.pk_ok hb.rest hpk
    have hlen := rest_len s
    obtain ⟨y, hy1, hy2, hy3, hy4⟩ := rw_all h (s.go z) hb (by show s.taken + z ≤ s.data.length; omega) n hg
    rw [rest_go, List.length_drop] at hy2
    rw [rest_go] at hy4
    refine ⟨z + y, by omega, by omega, ?_, fun s0 h0 hr => ?_⟩
    · show allR g n (s.go z) = _
      rw [hy3]
      unfold K.RS.go
      simp only [Nat.add_assoc]
    · show listW most (putsOf g W n (s.go z)) s0 = _
      unfold listW
      rw [putsOf_len, if_neg (by omega), k4, lay_fits (by rw [List.length_take]; omega), hy4 { s0 with laid := s0.laid ++ (rest s).take z } h0 (by show (s0.laid ++ (rest s).take z).length + y ≤ s0.most; rw [List.length_append, List.length_take]; omega)]
      congr 1
      show s0.laid ++ (rest s).take z ++ ((rest s).drop z).take y = s0.laid ++ (rest s).take (z + y)
      rw [List.append_assoc]
      congr 1
      rw [List.take_add]

/-- what Read takes whole, Bytes lays -/
theorem rw_whole {g : K.RS → K.RS} {W : K.RS → K.WS → K.WS} (h : RW g W) (l : List Nat) (hl : ∀ d ∈ l, d < 256) (he : endR (takeR g (newR l)) = 0) : W (newR l) ⟨[], 16777216, 0⟩ = ⟨l, 16777216, 0⟩ := by
  have hf := endR_ok he
  by_cases hn : l.length ≤ 16777216
  · have hnew : newR l = ⟨l, 0, 0⟩ := by unfold newR; rw [if_pos hn]
    have ht : takeR g (newR l) = g (newR l) := by unfold takeR; rw [hnew, if_pos rfl]
    rw [ht] at hf he
    obtain ⟨z, h1, h2, h3, h4⟩ := h (newR l) (by rw [hnew]; exact hl) (by rw [hnew]) (by rw [hnew]; exact Nat.zero_le _) hf
    have hr : rest (newR l) = l := by rw [hnew]; rfl
    rw [hr] at h2 h4
    have hz : z = l.length := by
      rw [h3, hnew] at he
      unfold endR K.RS.go at he
      split at he
      · cases he
      · rename_i hc
        simp only [Nat.zero_add, true_and, Nat.not_lt] at hc
        omega
    rw [h4 ⟨[], 16777216, 0⟩ rfl (by simp; omega), hz, List.take_length]
    rfl
  · have hnew : newR l = ⟨[], 0, 20⟩ := by unfold newR; rw [if_neg hn]
    have : (takeR g (newR l)).fault = 20 := by unfold takeR; rw [hnew, if_neg (by decide)]
    omega

end Go.Proofs.YtbjcckfhfbjchaaGreat
