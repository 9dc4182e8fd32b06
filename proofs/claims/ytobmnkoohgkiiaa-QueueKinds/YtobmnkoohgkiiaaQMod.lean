/- Package queue: the mathematics: a row of things with their numbers, where a thing stands, what is put behind it, what is taken out. -/
import Derived.Test.YtobmnkoohgkiiaaQMap
namespace Go.Proofs.Ytobmnkoohgkiiaa
namespace Qu

structure St (α : Type) where
  places : Nat
  last : Nat
  row : List (Nat × α)

structure Ok {α : Type} (s : St α) : Prop where
  pl : s.places ≤ 65536
  len : s.row.length ≤ s.places
  srt : (s.row.map Prod.fst).Pairwise (· < ·)
  num : ∀ e ∈ s.row, 1 ≤ e.1 ∧ e.1 ≤ s.last
  nd : (s.row.map Prod.snd).Nodup

section
variable {α : Type} [DecidableEq α]

/-- the number of a thing, and where it stands -/
def numL : List (Nat × α) → α → Option Nat
  | [], _ => none
  | e :: r, k => if e.2 = k then some e.1 else numL r k
def idxL : List (Nat × α) → α → Option Nat
  | [], _ => none
  | e :: r, k => if e.2 = k then some 0 else (idxL r k).map (· + 1)

theorem numL_none {r : List (Nat × α)} {k : α} : numL r k = none ↔ ∀ e ∈ r, e.2 ≠ k := by
  induction r with
  | nil => simp [numL]
  | cons e r ih =>
    by_cases h : e.2 = k
    · simp [numL, h]
    · simp [numL, h, ih]
theorem idxL_none {r : List (Nat × α)} {k : α} : idxL r k = none ↔ ∀ e ∈ r, e.2 ≠ k := by
  induction r with
  | nil => simp [idxL]
  | cons e r ih =>
    by_cases h : e.2 = k
    · simp [idxL, h]
    · simp [idxL, h, ih]
theorem idx_num {r : List (Nat × α)} {k : α} : idxL r k = none ↔ numL r k = none := by rw [numL_none, idxL_none]
theorem idx_get : ∀ {r : List (Nat × α)} {k : α} {i : Nat}, idxL r k = some i → ∃ n, r[i]? = some (n, k) ∧ numL r k = some n
  | [], _, _, h => by simp [idxL] at h
  | e :: r, k, i, h => by
    by_cases hk : e.2 = k
    · simp [idxL, hk] at h
      subst h
      exact ⟨e.1, by simp [← hk], by simp [numL, hk]⟩
    · simp only [idxL, hk, if_false] at h
      obtain ⟨j, hj, rfl⟩ := Option.map_eq_some_iff.1 h
      obtain ⟨n, h1, h2⟩ := idx_get hj
      exact ⟨n, by simpa using h1, by simp [numL, hk, h2]⟩
theorem get_idx : ∀ {r : List (Nat × α)} {k : α} {n i : Nat}, (r.map Prod.snd).Nodup → r[i]? = some (n, k) → idxL r k = some i
  | [], _, _, _, _, h => by simp at h
  | e :: r, k, n, 0, _, h => by simp at h; simp [idxL, h]
  | e :: r, k, n, i + 1, hn, h => by
    simp at h
    have hm : (n, k) ∈ r := List.mem_of_getElem? h
    have hk : e.2 ≠ k := fun e' => by
      have := (List.nodup_cons.1 hn).1
      exact this (List.mem_map.2 ⟨(n, k), hm, e'.symm⟩)
    simp [idxL, hk, get_idx (List.nodup_cons.1 hn).2 h]
theorem get_num {r : List (Nat × α)} {k : α} {n i : Nat} (hn : (r.map Prod.snd).Nodup) (h : r[i]? = some (n, k)) : numL r k = some n := by
  obtain ⟨m, h1, h2⟩ := idx_get (get_idx hn h)
  rw [h] at h1
  simp at h1
  rw [h2, h1]
theorem num_idx {r : List (Nat × α)} {k : α} {n : Nat} (h : numL r k = some n) : ∃ i, idxL r k = some i ∧ r[i]? = some (n, k) := by
  cases hi : idxL r k with
  | none => rw [idx_num.1 hi] at h; cases h
  | some i =>
    obtain ⟨m, h1, h2⟩ := idx_get hi
    rw [h] at h2
    injection h2 with h2
    subst h2
    exact ⟨i, rfl, h1⟩
theorem numL_append {r t : List (Nat × α)} (k : α) : numL (r ++ t) k = (numL r k).or (numL t k) := by
  induction r with
  | nil => simp [numL]
  | cons e r ih =>
    by_cases h : e.2 = k
    · simp [numL, h]
    · simp [numL, h, ih]
theorem numL_snoc {r : List (Nat × α)} {k : α} {n : Nat} (h : numL r k = none) : numL (r ++ [(n, k)]) = updK (numL r) k (some n) := by
  funext j
  rw [numL_append]
  by_cases hj : j = k
  · subst hj; rw [updK_same, h]; simp [numL]
  · rw [updK_other _ _ hj]; simp [numL, Ne.symm hj]
theorem numL_erase {r : List (Nat × α)} {k : α} {n i : Nat} (hn : (r.map Prod.snd).Nodup) (h : r[i]? = some (n, k)) : numL (r.eraseIdx i) = updK (numL r) k none := by
  funext j
  have hi : i < r.length := (List.getElem?_eq_some_iff.1 h).1
  have hr : r = r.take i ++ (n, k) :: r.drop (i + 1) := by
    rw [show (n, k) = r[i] from ((List.getElem?_eq_some_iff.1 h).2).symm]
    simp
  rw [List.eraseIdx_eq_take_drop_succ]
  rw [hr, List.map_append, List.map_cons] at hn
  obtain ⟨n1, n2, n3⟩ := List.nodup_append.1 hn
  have hk1 : numL (r.take i) k = none := numL_none.2 fun e he e' => n3 _ (List.mem_map.2 ⟨e, he, rfl⟩) k (by simp) e'
  have hk2 : numL (r.drop (i + 1)) k = none := numL_none.2 fun e he e' => (List.nodup_cons.1 n2).1 (List.mem_map.2 ⟨e, he, e'⟩)
  by_cases hj : j = k
  · subst hj
    rw [updK_same, numL_append, hk1, hk2]
    rfl
  · rw [updK_other _ _ hj]
    conv => rhs; rw [hr]
    rw [numL_append, numL_append]
    simp [numL, Ne.symm hj]

/-- a thing more, a thing less -/
def St.push (s : St α) (k : α) : St α := { s with last := s.last + 1, row := s.row ++ [(s.last + 1, k)] }
def St.take (s : St α) (i : Nat) : St α := { s with row := s.row.eraseIdx i }
omit [DecidableEq α] in
theorem Ok.take {s : St α} (h : Ok s) (i : Nat) : Ok (s.take i) where
  pl := h.pl
  len := Nat.le_trans (List.length_eraseIdx_le _ _) h.len
  srt := h.srt.sublist ((List.eraseIdx_sublist _ _).map _)
  num e he := h.num e ((List.eraseIdx_sublist _ _).subset he)
  nd := h.nd.sublist ((List.eraseIdx_sublist _ _).map _)
theorem Ok.push {s : St α} (h : Ok s) {k : α} (hk : numL s.row k = none) (hl : s.row.length < s.places) : Ok (s.push k) where
  pl := h.pl
  len := by simp [St.push]; omega
  srt := by
    simp only [St.push, List.map_append, List.map_cons, List.map_nil]
    refine List.pairwise_append.2 ⟨h.srt, by simp, fun a ha b hb => ?_⟩
    obtain ⟨e, he, rfl⟩ := List.mem_map.1 ha
    have := h.num e he
    simp at hb
    omega
  num e he := by
    simp only [St.push, List.mem_append, List.mem_singleton] at he ⊢
    rcases he with he | rfl
    · have := h.num e he; omega
    · simp
  nd := by
    simp only [St.push, List.map_append, List.map_cons, List.map_nil]
    refine List.nodup_append.2 ⟨h.nd, by simp, fun a ha b hb => ?_⟩
    obtain ⟨e, he, rfl⟩ := List.mem_map.1 ha
    simp at hb
    subst hb
    exact numL_none.1 hk e he
omit [DecidableEq α] in
theorem Ok.lt {s : St α} (h : Ok s) {i j : Nat} {a b : Nat × α} (hij : i < j) (hi : s.row[i]? = some a) (hj : s.row[j]? = some b) : a.1 < b.1 := by
  have h1 : (s.row.map Prod.fst)[i]? = some a.1 := by simp [hi]
  have h2 : (s.row.map Prod.fst)[j]? = some b.1 := by simp [hj]
  obtain ⟨l1, e1⟩ := List.getElem?_eq_some_iff.1 h1
  obtain ⟨l2, e2⟩ := List.getElem?_eq_some_iff.1 h2
  have := List.pairwise_iff_getElem.1 h.srt i j l1 l2 hij
  rw [e1, e2] at this
  exact this

/-- a row as cells -/
def flat (K : Kd α) (r : List (Nat × α)) : List Value := r.flatMap fun e => nv e.1 :: K.cl e.2
end

section
variable {α : Type} {K : Kd α}
theorem flat_append (r t : List (Nat × α)) : flat K (r ++ t) = flat K r ++ flat K t := by simp [flat]
theorem flat_cons (e : Nat × α) (t : List (Nat × α)) : flat K (e :: t) = (nv e.1 :: K.cl e.2) ++ flat K t := by simp [flat]
theorem flat_length {c : Nat} (hc : ∀ a, (K.cl a).length = c) : ∀ r : List (Nat × α), (flat K r).length = r.length * (c + 1)
  | [] => by simp [flat]
  | e :: r => by rw [flat_cons, List.length_append, flat_length hc r, List.length_cons, List.length_cons, hc, Nat.add_mul]; omega
theorem flat_at {c : Nat} (hc : ∀ a, (K.cl a).length = c) {r : List (Nat × α)} {i : Nat} {e : Nat × α} (h : r[i]? = some e) {j : Nat} (hj : j < c + 1) : (flat K r)[i * (c + 1) + j]? = (nv e.1 :: K.cl e.2)[j]? := by
  have hi : i < r.length := (List.getElem?_eq_some_iff.1 h).1
  have hr : r = r.take i ++ e :: r.drop (i + 1) := by
    rw [show e = r[i] from ((List.getElem?_eq_some_iff.1 h).2).symm]
    simp
  rw [hr, flat_append, flat_cons]
  have hl : (flat K (r.take i)).length = i * (c + 1) := by rw [flat_length hc, List.length_take, Nat.min_eq_left (by omega)]
  rw [List.getElem?_append_right (by omega), hl, Nat.add_sub_cancel_left, List.getElem?_append_left (by simp [hc]; omega)]
end

end Qu
end Go.Proofs.Ytobmnkoohgkiiaa
